import PyProof.Rows.All
import Wide.All
import OpenK.AllK
import Wide.FinOn
import Lean
import PyProof.EqAt
import PyProof.EqKinds
import PyProof.TupleCall
import PySem.Challenge.RW_oncenames_k18_whole_unwanted_is_unneeded
set_option hygiene false
local macro_rules
| `(tactic|walk_at "a")=>`(tactic|(first|exact Loc.yj (v7 (by decide +kernel))|exact d4 (by decide +kernel)|exact d5 (by decide +kernel)))
| `(tactic|walk_at "b")=>`(tactic|(first|exact wc (by decide +kernel)|exact eX (by decide +kernel)))
| `(tactic|walk_at "c")=>`(tactic|(first|exact v7 (by decide +kernel)|exact km (by decide +kernel)))
| `(tactic|walk_at "d")=>`(tactic|(first|exact N3 (by decide +kernel)|exact N4 (by decide +kernel)))
| `(tactic|walk_at "e")=>`(tactic|(first|assumption|exact eB.mono (by assumption) (by decide)))
set_option hygiene true
set_option Elab.async false
set_option linter.all false
set_option maxRecDepth 100000
namespace L2
open PySem PySem.Spec PyProof.Rows
abbrev Key:=Sum Int Str
def oN:Key->Value->Bool
 | .inl k,v=>Value.isInt k v
 | .inr x,v=>Value.isStrOf x v
def SA(w:World):Key->Int
 | .inl k=>hashInt k
 | .inr x=>hashStr w x
theorem cF:∀{k:Key}{v:Value},oN k v=true->(∃i t,k=Sum.inl i/\v=Value.int i t)\/(∃x t,k=Sum.inr x/\v=Value.str x t)
 | .inl i,v,h=>by
  obtain⟨t,e⟩:=Value.isInt_shape (k:=i) (v:=v) h
  exact .inl ⟨i,t,rfl,e⟩
 | .inr x,v,h=>by
  obtain⟨t,e⟩:=Value.isStrOf_shape (x:=x) (v:=v) h
  exact .inr ⟨x,t,rfl,e⟩
theorem BY(i:Int)(t:Tok):oN (.inl i) (.int i t)=true:=by simp[oN,Value.isInt]
theorem n8(x:Str)(t:Tok):oN (.inr x) (.str x t)=true:=by simp[oN,Value.isStrOf]
theorem Lc(a b:Int):decide ((Sum.inl a:Key)=Sum.inl b)=(a==b):=by
 by_cases e:a=b
 ·subst e;simp
 ·have h:¬(Sum.inl a:Key)=Sum.inl b:=fun q=>e (Sum.inl.inj q)
  rw[decide_eq_false h]
  exact(beq_eq_false_iff_ne.mpr e).symm
theorem K'(a b:Str):decide ((Sum.inr a:Key)=Sum.inr b)=decide (a=b):=by
 by_cases e:a=b
 ·subst e;simp
 ·have h:¬(Sum.inr a:Key)=Sum.inr b:=fun q=>e (Sum.inr.inj q)
  rw[decide_eq_false h,decide_eq_false e]
theorem Lb(a:Int)(b:Str):decide ((Sum.inl a:Key)=Sum.inr b)=false:=decide_eq_false (fun q=>nomatch q)
theorem La(a:Str)(b:Int):decide ((Sum.inr a:Key)=Sum.inl b)=false:=decide_eq_false (fun q=>nomatch q)
def bA(prog:Program)(w:World):PySem.KeyKind prog w Key where
 is:=oN
 hash:=SA w
 inj:=fun v a b ha hb=>by
  rcases cF ha with⟨i,t,rfl,rfl⟩|⟨x,t,rfl,rfl⟩
  ·rcases cF hb with⟨j,u,rfl,e⟩|⟨y,u,rfl,e⟩
   ·injection e with e1 _;rw[e1]
   ·exact nomatch e
  ·rcases cF hb with⟨j,u,rfl,e⟩|⟨y,u,rfl,e⟩
   ·exact nomatch e
   ·injection e with e1 _;rw[e1]
 byValue:=fun k v h=>by
  rcases cF h with⟨i,t,rfl,rfl⟩|⟨x,t,rfl,rfl⟩<;>rfl
 pyHash:=fun hv h=>by
  rcases cF hv with⟨i,t,rfl,rfl⟩|⟨x,t,rfl,rfl⟩
  ·exact wpAny_pyHash_int h
  ·exact wpAny_pyHash_str h
 eqBool:=fun hu hv h=>by
  rcases cF hu with⟨i,t,rfl,rfl⟩|⟨x,t,rfl,rfl⟩
  ·rcases cF hv with⟨j,u,rfl,rfl⟩|⟨y,u,rfl,rfl⟩
   ·rw[Lc] at h;exact wpAny_eqBool_int h
   ·rw[Lb] at h;exact SeqAt.EqAt.int_str i t y u _ _ _ _ h
  ·rcases cF hv with⟨j,u,rfl,rfl⟩|⟨y,u,rfl,rfl⟩
   ·rw[La] at h;exact SeqAt.EqAt.str_int x t j u _ _ _ _ h
   ·rw[K'] at h;exact wpAny_eqBool_str h
 «strs»:=fun k x t v h=>by
  rcases cF h with⟨i,u,rfl,e⟩|⟨y,u,rfl,e⟩
  ·exact nomatch e
  ·injection e with e1 _
   subst e1
   cases v<;>rfl
theorem xr(prog:Program)(w:World)(i:Int)(t:Tok):(bA prog w).is (.inl i) (.int i t)=true:=BY i t
theorem xq(prog:Program)(w:World)(x:Str)(t:Tok):(bA prog w).is (.inr x) (.str x t)=true:=n8 x t
end L2
namespace L2
open PySem PySem.Spec PyProof.Rows
inductive V where
 |bJ|bl (b:Bool)|int (i:Int)|str (x:Str)|vU (b:Array UInt8)|FN (b:UInt64)|ref (a:Addr)|ty (n:String)
 deriving DecidableEq
def RelV:V->Value->Prop
 | .bJ,u=>u=Value.none
 | .bl b,u=>u=Value.bool b
 | .int i,u=>∃t,u=Value.int i t
 | .str x,u=>∃t,u=Value.str x t
 | .vU b,u=>∃t,u=Value.bytes b t
 | .FN b,u=>∃t,u=Value.float b t
 | .ref a,u=>u=Value.ref a
 | .ty n,u=>u=Value.type n
abbrev Vals:List V->List Value->Prop:=Paired RelV
theorem Vals.length{xs:List V}{us:List Value}(r:Vals xs us):xs.length=us.length:=Paired.length r
theorem Vals.get:∀{xs:List V}{us:List Value}{i:Nat}{x:V},Vals xs us->xs[i]? = some x->∃u,us[i]? = some u/\RelV x u
 |_,_,_,_,.nil,e=>by simp at e
 |_,_,0,_,.cons r _,e=>by simp at e;subst e;exact⟨_,rfl,r⟩
 |_,_,i+1,x,.cons _ t,e=>by
  obtain⟨u,h1,h2⟩:=Vals.get (i:=i) (x:=x) t (by simpa using e)
  exact⟨u,by simpa using h1,h2⟩
theorem Vals.set{x:V}{u:Value}(r:RelV x u):∀{xs:List V}{us:List Value} (i:Nat),Vals xs us->Vals (xs.set i x) (us.set i u)
 |_,_,_,.nil=>.nil
 |_,_,0,.cons _ t=>.cons r t
 |_,_,i+1,.cons q t=>.cons q (Vals.set r i t)
theorem Vals.append:∀{xs ys:List V}{us ws:List Value},Vals xs us->Vals ys ws->Vals (xs++ys) (us++ws)
 |_,_,_,_,.nil,s=>s
 |_,_,_,_,.cons r t,s=>.cons r (Vals.append t s)
theorem Vals.take:∀{xs:List V}{us:List Value} (n:Nat),Vals xs us->Vals (xs.take n) (us.take n)
 |_,_,0,_=>.nil
 |_,_,_+1,.nil=>.nil
 |_,_,n+1,.cons r t=>.cons r (Vals.take n t)
theorem Vals.drop:∀{xs:List V}{us:List Value} (n:Nat),Vals xs us->Vals (xs.drop n) (us.drop n)
 |_,_,0,r=>r
 |_,_,_+1,.nil=>.nil
 |_,_,n+1,.cons _ t=>Vals.drop n t
def oA:Option V->Option Value->Prop
 |some v,some u=>RelV v u
 |none,none=>True
 |_,_=>False
def KV{κ:Type}:List (κ×V)->List (κ×Value)->Prop:=Paired fun(p:κ×V) (q:κ×Value)=>p.1=q.1/\RelV p.2 q.2
def kV:Key->V
 | .inl i=>.int i
 | .inr x=>.str x
inductive HO where
 |lst (xs:List V)
 |tup (xs:List V)
 |dK (aw:List (Key×V))|dT (aw:List (List Key×V))
 |set (S:Int->Bool) (n:Nat)
 |ins (C dx:Addr) (fs:List (Str×V))
 |own (x:Addr)
 |xd (fs:List (Str×V))
 |met (f x:Addr)
 |MF (lo hi:Int)
 |aT (o:Obj) (u:HO)
 |JU (ps:Array Value)
 |ext (φ:Heap->Prop)
abbrev Hp:=Addr->Option HO
def upd(H:Hp)(a:Addr)(o:HO):Hp:=fun b=>if b=a then some o else H b
theorem aB{H:Hp}{a:Addr}{o:HO}:upd H a o a=some o:=by unfold upd;rw[if_pos rfl]
theorem aE{H:Hp}{a b:Addr}{o:HO}(h:b≠a):upd H a o b=H b:=by unfold upd;rw[if_neg h]
theorem Eu{H:Hp}{a b:Addr}{o u:HO}(h:H a=some o)(h':H b=some u)(d:o≠u):a≠b:=by
 intro e;subst e;rw[h] at h';exact d (Option.some.inj h')
theorem cK{H:Hp}{a b:Addr}{o:HO}(h:H a=some o)(h':H b=none):a≠b:=by
 intro e;subst e;rw[h] at h';cases h'
section
variable (P:Program) (w:World)
def d8(H:Hp)(h:Heap)(a:Addr):HO->Prop
 | .lst xs=>xs.length<=sizeLine/\∃(its:List Value) (n:Nat),Vals xs its/\h.get? a=some {cls:=.type "list",data:=.seq its.toArray n}
 | .tup xs=>xs.length<=sizeLine/\∃its:List Value,Vals xs its/\IsTup h a its.toArray
 | .dK aw=>aw.length<=sizeLine/\(a==sysModules)=false/\∃vs,KV aw vs/\h.DictOf (bA P w) a vs
 | .dT aw=>aw.length<=sizeLine/\(a==sysModules)=false/\∃xs:List (List Key×Addr×Value),
   Paired (fun(p:List Key×V) (q:List Key×Addr×Value)=>p.1=q.1/\H q.2.1=some (.tup (p.1.map kV))/\RelV p.2 q.2.2) aw xs /\
   ∃o es ep,h.get? a=some o/\o.ExactDict/\o.data=.dict es ep/\es.toList=xs.map (entryOfKey (tupleKind (bA P w)))/\(xs.map (·.1)).Nodup
 | .set S n=>h.SetOf (intKind P w) a S n
 | .ins C dx fs=>H dx=some (.own a)/\fs.length<=1000/\dx≠a/\h.get? a=some (PySem.W.instObj C dx) /\
   ∃mA,h.Ns1 dx mA/\(∀f,oA (fs.lookup f) (mA f))/\PySem.Within mA (fs.map (·.1))
 | .own _=>∃o,h.get? a=some o
 | .xd fs=>∃mA,h.Ns1 a mA/\∀f,oA (fs.lookup f) (mA f)
 | .MF lo hi=>∃t u v,h.get? a=some {cls:=.type "range",data:=.fields #[.int lo t,.int hi u,.int 1 v]}
 | .aT o u=>h.get? a=some o/\d8 H h a u
 | .JU ps=>h.get? a=some {cls:=.none,data:=.fields ps}
 | .met f x=>h.get? a=some (PySem.W.methodObj (.ref f) (.ref x))
 | .ext φ=>φ h/\(∃o,h.get? a=some o)/\∀h1 h2:Heap,φ h1->(∀o,h1.get? a=some o->h2.get? a=some o)->φ h2
def lq(H:Hp)(h:Heap):Prop:=∀a o,H a=some o->d8 P w H h a o
end
section
variable {P:Program}{w:World}{H H':Hp}{h h':Heap}{a:Addr}{o:HO}
theorem d8.lt(x:d8 P w H h a o):a<h.objs.size:=by
 cases o with
 |lst xs=>obtain⟨_,_,_,_,e⟩:=x;exact Heap.lt_size e
 |tup xs=>obtain⟨_,_,_,p⟩:=x;exact p.lt
 |dK aw=>obtain⟨_,_,_,_,o,_,_,e,_⟩:=x;exact Heap.lt_size e
 |dT aw=>obtain⟨_,_,_,_,o,_,_,e,_⟩:=x;exact Heap.lt_size e
 |set S n=>obtain⟨o,_,_,_,e,_⟩:=x;exact Heap.lt_size e
 |ins C dx fs=>obtain⟨_,_,_,e,_⟩:=x;exact Heap.lt_size e
 |own y=>obtain⟨_,e⟩:=x;exact Heap.lt_size e
 |xd fs=>obtain⟨_,⟨_,_,_,e,_⟩,_⟩:=x;exact Heap.lt_size e
 |MF lo hi=>obtain⟨_,_,_,e⟩:=x;exact Heap.lt_size e
 |aT ob u=>obtain⟨e,_⟩:=x;exact Heap.lt_size e
 |JU ps=>exact Heap.lt_size (show h.get? a=some _ from x)
 |met f y=>exact Heap.lt_size (show h.get? a=some _ from x)
 |ext φ=>obtain⟨_,⟨_,e⟩,_⟩:=x;exact Heap.lt_size e
theorem Paired.K7{α β:Type}{F G:α->β->Prop}:∀{Ez:List α}{Ey:List β},Paired F Ez Ey->(∀a b,F a b->G a b)->Paired G Ez Ey
 |_,_,.nil,_=>.nil
 |_,_,.cons r t,f=>.cons (f _ _ r) (Paired.K7 t f)
theorem d8.wG(x:d8 P w H h a o)(k:∀b u,(b=a\/H b=some (.own a))->h.get? b=some u->h'.get? b=some u)
  (ho:∀b,H b=some (.own a)->H' b=some (.own a)) (ht:∀b xs,H b=some (.tup xs)->H' b=some (.tup xs)):d8 P w H' h' a o:=by
 induction o with
 |lst xs=>obtain⟨z,its,n,r,e⟩:=x;exact⟨z,its,n,r,k _ _ (.inl rfl) e⟩
 |tup xs=>obtain⟨z,its,r,ob,e,c⟩:=x;exact⟨z,its,r,ob,k _ _ (.inl rfl) e,c⟩
 |dK aw=>obtain⟨z,y,vs,r,ob,es,ep,e,c⟩:=x;exact⟨z,y,vs,r,ob,es,ep,k _ _ (.inl rfl) e,c⟩
 |dT aw=>
  obtain⟨z,y,xs,r,ob,es,ep,e,c⟩:=x
  exact⟨z,y,xs,Paired.K7 r fun p q z=>⟨z.1,ht _ _ z.2.1,z.2.2⟩,ob,es,ep,k _ _ (.inl rfl) e,c⟩
 |set S n=>obtain⟨ob,es,ep,t,e,c⟩:=x;exact⟨ob,es,ep,t,k _ _ (.inl rfl) e,c⟩
 |ins C dx fs=>
  obtain⟨d,z,ne,e,mA,⟨od,es,ep,e2,c⟩,r⟩:=x
  exact⟨ho _ d,z,ne,k _ _ (.inl rfl) e,mA,⟨od,es,ep,k _ _ (.inr d) e2,c⟩,r⟩
 |own y=>obtain⟨ob,e⟩:=x;exact⟨ob,k _ _ (.inl rfl) e⟩
 |xd fs=>obtain⟨mA,⟨od,es,ep,e,c⟩,r⟩:=x;exact⟨mA,⟨od,es,ep,k _ _ (.inl rfl) e,c⟩,r⟩
 |MF lo hi=>obtain⟨t,u,v,e⟩:=x;exact⟨t,u,v,k _ _ (.inl rfl) e⟩
 |aT ob u ih=>obtain⟨e,q⟩:=x;exact⟨k _ _ (.inl rfl) e,ih q⟩
 |JU ps=>
  have e:h.get? a=some {cls:=.none,data:=.fields ps}:=x
  show h'.get? a=some {cls:=.none,data:=.fields ps}
  exact k a _ (.inl rfl) e
 |met f y=>
  have e:h.get? a=some (PySem.W.methodObj (.ref f) (.ref y)):=x
  show h'.get? a=some (PySem.W.methodObj (.ref f) (.ref y))
  exact k a _ (.inl rfl) e
 |ext φ=>obtain⟨p,⟨o,e⟩,st⟩:=x;exact⟨st _ _ p fun o q=>k _ _ (.inl rfl) q,⟨o,k _ _ (.inl rfl) e⟩,st⟩
theorem lq.lt(x:lq P w H h)(e:H a=some o):a<h.objs.size:=(x a o e).lt
theorem lq.fresh(x:lq P w H h)(e:h.objs.size<=a):H a=none:=by
 cases q:H a with
 |none=>rfl
 |some u=>exact absurd (Nat.lt_of_lt_of_le (x.lt q) e) (Nat.lt_irrefl _)
theorem lq.kept(x:lq P w H h)(k:∀b u,h.get? b=some u->h'.get? b=some u):lq P w H h':=fun a o e=>
 (x a o e).wG (fun b u _ q=>k b u q) (fun _ q=>q) fun _ _ q=>q
theorem lq.laid(x:lq P w H h)(k:∀b u,h.get? b=some u->h'.get? b=some u)(hp:h.objs.size<=a)(new:d8 P w (upd H a o) h' a o):lq P w (upd H a o) h':=fun b u e=>by
 have hn:=x.fresh hp
 by_cases hb:b=a
 ·subst hb;rw[aB] at e;cases e;exact new
 ·rw[aE hb] at e
  exact(x b u e).wG (fun c v _ q=>k c v q) (fun c q=>by rw[aE (cK q hn)];exact q) fun c xs q=>by rw[aE (cK q hn)];exact q
end
def Rd(H:Hp)(a:Addr)(u:HO):Prop:=H a=some u\/∃o,H a=some (.aT o u)
theorem Rd.of{H:Hp}{a:Addr}{u:HO}(h:H a=some u):Rd H a u:=.inl h
theorem Rd.ok{P:Program}{w:World}{H:Hp}{h:Heap}{a:Addr}{u:HO}(r:Rd H a u)(x:lq P w H h):d8 P w H h a u:=by
 rcases r with r|⟨o,r⟩
 ·exact x a u r
 ·obtain⟨_,q⟩:=x a _ r
  exact q
def Pr:Option HO->Prop
 |some (.lst _)=>True
 |some (.dK _)=>True
 |some (.dT _)=>True
 |some (.set _ _)=>True
 |some (.ins _ _ _)=>True
 |some (.ext _)=>True
 |_=>False
section
variable {P:Program}{w:World}{H:Hp}{h h':Heap}{x e:Addr}{o':HO}
theorem lq.write(ok:lq P w H h)(mu:Pr (H x))(he:e=x\/H e=some (.own x))(k:∀b u,b≠e->h.get? b=some u->h'.get? b=some u)(MN:∃u,h'.get? e=some u)
  (new:d8 P w (upd H x o') h' x o'):lq P w (upd H x o') h':=fun b u q=>by
 have NX:∀c y,H c=some (.own y)->c≠x:=fun c y r z=>by subst z;rw[r] at mu;exact mu
 have Sn:∀c xs,H c=some (.tup xs)->c≠x:=fun c xs r z=>by subst z;rw[r] at mu;exact mu
 by_cases hb:b=x
 ·subst hb;rw[aB] at q;cases q;exact new
 ·rw[aE hb] at q
  by_cases LO:b=e
  ·have q':H b=some (.own x):=by
    rcases he with z|z
    ·exact absurd (LO.trans z) hb
    ·rw[LO];exact z
   rw[q] at q';cases q'
   obtain⟨v,hv⟩:=MN
   exact⟨v,by rw[LO];exact hv⟩
  ·refine(ok b u q).wG (fun c v hc r=>k c v ?_ r) (fun c r=>by rw[aE (NX c b r)];exact r) fun c xs r=>by rw[aE (Sn c xs r)];exact r
   rcases hc with rfl|hc
   ·exact LO
   ·rintro rfl
    rcases he with z|z
    ·exact NX c b hc z
    ·rw[hc] at z;cases z;exact hb rfl
end
structure Un(fs ex:List Addr)(H H':Hp)(h h':Heap):Prop where
 keep:∀b o,h.get? b=some o->H b=none->b∉fs->b∉ex->h'.get? b=some o
 slot:∀b o,h.get? b=some o->H b=none->b∈fs->b∉ex->∃sl,h'.get? b=some {o with slots:=sl}
 free:∀b o,h.get? b=some o->H b=none->b∉ex->H' b=none
 there:∀b o,h.get? b=some o->b∉ex->∃o',h'.get? b=some o'
 nk:∀b xs,H b=some (.tup xs)->H' b=some (.tup xs)
 lM:∀b o u,H b=some (.aT o u)->H' b=some (.aT o u)
 nu:∀b ps,H b=some (.JU ps)->∃more,H' b=some (.JU (ps++more))
section
variable {fs LR ex WL:List Addr}{H H1 H2:Hp}{h h1 h2 h':Heap}{a x e:Addr}{o:HO}
theorem Un.any(u:Un fs ex H H1 h h1){b:Addr}{ob:Obj}(q:h.get? b=some ob)(n:H b=none)(hx:b∉ex):∃sl,h1.get? b=some {ob with slots:=sl}:=by
 by_cases hb:b∈fs
 ·exact u.slot b ob q n hb hx
 ·exact⟨ob.slots,u.keep b ob q n hb hx⟩
theorem Un.trans(a:Un fs ex H H1 h h1)(b:Un fs ex H1 H2 h1 h2):Un fs ex H H2 h h2 where
 keep:=fun c ob q n hc hx=>b.keep c ob (a.keep c ob q n hc hx) (a.free c ob q n hx) hc hx
 slot:=fun c ob q n hc hx=>by
  obtain⟨sl,e1⟩:=a.slot c ob q n hc hx
  obtain⟨R3,e2⟩:=b.slot c _ e1 (a.free c ob q n hx) hc hx
  exact⟨R3,e2⟩
 free:=fun c ob q n hx=>by
  obtain⟨o',e1⟩:=a.there c ob q hx
  exact b.free c o' e1 (a.free c ob q n hx) hx
 there:=fun c ob q hx=>by
  obtain⟨o',e1⟩:=a.there c ob q hx
  exact b.there c o' e1 hx
 nk:=fun c xs q=>b.nk c xs (a.nk c xs q)
 lM:=fun c ob xs q=>b.lM c ob xs (a.lM c ob xs q)
 nu:=fun c ps q=>by
  obtain⟨m1,e1⟩:=a.nu c ps q
  obtain⟨m2,e2⟩:=b.nu c _ e1
  exact⟨m1++m2,by rw[e2,Array.append_assoc]⟩
theorem Un.kept(k:∀b u,h.get? b=some u->h'.get? b=some u):Un fs ex H H h h':=
 ⟨fun b ob q _ _ _=>k b ob q,fun b ob q _ _ _=>⟨ob.slots,k b ob q⟩,fun _ _ _ n _=>n,fun b ob q _=>⟨ob,k b ob q⟩,fun _ _ q=>q,fun _ _ _ q=>q,fun _ ps q=>⟨#[],by rw[q];simp⟩⟩
theorem Un.refl:Un fs ex H H h h:=Un.kept fun _ _ q=>q
theorem Un.laid(k:∀b u,h.get? b=some u->h'.get? b=some u)(hp:h.objs.size<=a)(hn:H a=none):Un fs ex H (upd H a o) h h' where
 keep:=fun b u q _ _ _=>k b u q
 slot:=fun b u q _ _ _=>⟨u.slots,k b u q⟩
 free:=fun b u q n _=>by rw[aE (Nat.ne_of_lt (Nat.lt_of_lt_of_le (Heap.lt_size q) hp))];exact n
 there:=fun b u q _=>⟨u,k b u q⟩
 nk:=fun b xs q=>by rw[aE (cK q hn)];exact q
 lM:=fun b u xs q=>by rw[aE (cK q hn)];exact q
 nu:=fun b ps q=>⟨#[],by rw[aE (cK q hn),q];simp⟩
theorem Un.write(mu:Pr (H x))(he:e=x\/H e=some (.own x))(k:∀b u,b≠e->h.get? b=some u->h'.get? b=some u)(MN:∃u,h'.get? e=some u):Un fs ex H (upd H x o) h h':=by
 have hx:∀b,H b=none->b≠x:=fun b n z=>by subst z;rw[n] at mu;exact mu
 have hb:∀b,H b=none->b≠e:=fun b n z=>by
  subst z
  rcases he with r|r
  ·exact hx b n r
  ·rw[n] at r;cases r
 have hm:∀b u,H b=some u->¬Pr (some u)->b≠x:=fun b u q nm z=>by subst z;rw[q] at mu;exact nm mu
 refine⟨fun b u q n _ _=>k b u (hb b n) q,fun b u q n _ _=>⟨u.slots,k b u (hb b n) q⟩,fun b u q n _=>by rw[aE (hx b n)];exact n,fun b u q _=>?_,
  fun b xs q=>by rw[aE (hm b _ q fun z=>z)];exact q,fun b u xs q=>by rw[aE (hm b _ q fun z=>z)];exact q,fun b ps q=>⟨#[],by rw[aE (hm b _ q fun z=>z),q];simp⟩⟩
 by_cases LO:b=e
 ·subst LO;exact MN
 ·exact⟨u,k b u LO q⟩
theorem Un.mono(u:Un fs ex H H1 h h1)(hs:∀b∈fs,b∈LR)(hx:∀b∈ex,b∈WL):Un LR WL H H1 h h1:=
 ⟨fun b ob q n hb he=>u.keep b ob q n (fun z=>hb (hs b z)) fun z=>he (hx b z),fun _ _ q n _ he=>u.any q n fun z=>he (hx _ z),fun b ob q n he=>u.free b ob q n fun z=>he (hx b z),fun b ob q he=>u.there b ob q fun z=>he (hx b z),u.nk,u.lM,u.nu⟩
end
def Qs(h:Heap)(H:Hp):List Addr:=(List.range h.objs.size).filter fun a=>(H a).isSome
def vH(h:Heap)(H:Hp):Heap:=PySem.W.hideAll h (Qs h H)
theorem B6(h:Heap)(H:Hp):(vH h H).objs.size=h.objs.size:=PySem.W.hideAll_size _ _
theorem EX{h:Heap}{H:Hp}{b:Addr}{o:Obj}(e:h.get? b=some o)(n:H b=none):(vH h H).get? b=some o:=
 PySem.W.hideAll_get _ e fun hm=>by
  have q:(H b).isSome=true:=(List.mem_filter.mp hm).2
  rw[n] at q;simp at q
theorem HH{h:Heap}{H:Hp}{b:Addr}{o:Obj}(e:(vH h H).get? b=some o):h.get? b=some o/\H b=none:=by
 have e':h.get? b=some o:=PySem.W.of_hideAll (Qs h H) e
 refine⟨e',?_⟩
 cases q:H b with
 |none=>rfl
 |some x=>
  have hm:b∈Qs h H:=List.mem_filter.mpr ⟨List.mem_range.mpr (Heap.lt_size e'),by simp[q]⟩
  have z:(vH h H).get? b=none:=PySem.W.hideAll_none (Qs h H) hm
  rw[z] at e;cases e
def Iv(g h:Heap)(L:Addr):List (Addr×Obj):=(List.range h.objs.size).filterMap fun a=>if a=L\/(g.get? a).isSome=true then none else(h.get? a).map fun o=>(a,o)
def rest(g h:Heap)(L d:Addr):List (Addr×Obj):=(Iv g h L).filter fun p=>decide (p.1≠d)
end L2
namespace L2
open PySem PySem.Spec PyProof.Rows
structure Mod(K:PySem.W.Frag)(mg:Str->Option Value)(base:Heap):Prop where
 QK:K.In base
 glob:base.Ns mainGlobals mg
 blt:∃mb,base.Ns builtinsNs mb/\∀x:Str,x≠"__name__"->mb x=bootBuiltins x
 nolimit:base.NoLimit
structure Cx where
 prog:Program
 w:World
 K:PySem.W.Frag
 mg:Str->Option Value
 base:Heap
 A:Around
 N:List Str
 gW:Shared
 Cn:Hp
 env:Env
 outer:List Env
 stack:List Env
 ex:List Addr
 fn:Str->Bool
 calm:Bool
 pn:List (Addr×Obj)
 xe:Value->Shared->Prop
def E_(l:List Env):List Addr:=l.filterMap (·.frame)
abbrev Cx.fs(X:Cx):List Addr:=E_ X.outer
def ko(sc:Scope)(x:Str):Prop:=sc.names.lookup x=some .local\/sc.names.lookup x=some .cell\/sc.names.lookup x=some .free
def Loc(sc:Scope)(x:Str):Prop:=sc.names.lookup x=some .local\/sc.names.lookup x=some .cell
def Look(env:Env)(h:Heap)(m:Str->Option Value)(x:Str)(u:Value):Prop:=
 (env.kindOf x=some .local/\m x=some u)\/((env.kindOf x=some .cell\/env.kindOf x=some .free)/\∃c,env.cells.lookup x=some c/\h.IsCell c (some u))
structure Cx.Ok(X:Cx):Prop where
 mod:Mod X.K X.mg X.base
 kind:X.env.scope.kind=.function
 glob:X.env.globals=mainGlobals
 blt:X.env.builtins=builtinsNs
 above:X.gW.heap.objs.size<=X.env.locals
 inj:∀x y c,X.env.cells.lookup x=some c->X.env.cells.lookup y=some c->x=y
 has:∀x,(X.env.kindOf x=some .cell\/X.env.kindOf x=some .free)->∃c,X.env.cells.lookup x=some c
 Pc:∀x c,X.fn x=true->X.env.cells.lookup x=some c->X.gW.heap.objs.size<=c
 hd:X.calm=true->X.A.handled=none
 frames:X.A.frames=some X.stack
 Qv:X.stack=X.outer\/(X.stack=X.env::X.outer/\X.env.frame=some X.env.locals)
 WK:∀b∈X.ex,b≠X.env.locals/\∀x c,X.env.cells.lookup x=some c->c≠b
 bs:∀b o,X.base.get? b=some o->X.gW.heap.get? b=some o/\X.Cn b=none
 FQ:X.base.objs.size<=X.gW.heap.objs.size
 Er:∀b o,X.base.get? b=some o->b∉X.ex
 Io:∀b∈X.ex,b∉X.fs
 pK:X.gW.heap.FunFrames X.base X.outer
 LU:∀b∈X.fs,X.Cn b=none
structure Inv(X:Cx)(pins:List (Addr×Obj))(σ:List (Option V))(H:Hp)(s:Shared):Prop where
 ok:X.Ok
 os:s.os=X.gW.os
 bare:AllBare s.gens
 base:Un X.fs X.ex X.Cn H X.gW.heap s.heap
 loc:∃m,s.heap.Ns X.env.locals m/\∀(i:Nat) (x:Str) (v:V),X.N[i]? = some x->σ[i]? = some (some v)->ko X.env.scope x->∃u,RelV v u/\Look X.env s.heap m x u
 cell:∀x c,X.env.cells.lookup x=some c->∃v,s.heap.IsCell c v
 free:H X.env.locals=none
 jM:∀x c,X.env.cells.lookup x=some c->H c=none
 pin:∀p∈X.pn++pins,s.heap.get? p.1=some p.2/\H p.1=none/\p.1≠X.env.locals/\p.1∉X.fs/\∀v,p.2.data≠.cell v
 cb:lq X.prog X.w H s.heap
 len:σ.length=X.N.length
section
variable {X:Cx}{pins:List (Addr×Obj)}{σ:List (Option V)}{H H':Hp}{s:Shared}{h':Heap}
theorem Cx.Ok.So(ok:X.Ok){b:Addr}{o:Obj}(e:X.base.get? b=some o):b∉X.fs:=fun hb=>by
 have:=(ok.pK.mem hb).1
 rw[e] at this;cases this
theorem Inv.bs(I:Inv X pins σ H s):∀b o,X.base.get? b=some o->s.heap.get? b=some o/\H b=none:=fun b o e=>
 ⟨I.base.keep b o (I.ok.bs b o e).1 (I.ok.bs b o e).2 (I.ok.So e) (I.ok.Er b o e),I.base.free b o (I.ok.bs b o e).1 (I.ok.bs b o e).2 (I.ok.Er b o e)⟩
theorem Inv.bk(I:Inv X pins σ H s):∀b o,X.base.get? b=some o->s.heap.get? b=some o:=fun b o e=>(I.bs b o e).1
theorem Inv.mod(I:Inv X pins σ H s):Mod X.K X.mg X.base:=I.ok.mod
theorem Inv.Ld(I:Inv X pins σ H s):X.K.In s.heap:=I.ok.mod.QK.keeps I.bk
theorem Inv.nolimit(I:Inv X pins σ H s):s.heap.NoLimit:=I.ok.mod.nolimit.keeps I.bk
theorem Inv.fr(I:Inv X pins σ H s):∃m,Fr X.base X.env.locals s.heap m:=
 let ⟨m,hn,_⟩:=I.loc
 ⟨m,hn,I.bk,Nat.le_trans I.ok.FQ I.ok.above⟩
theorem Inv.lt(I:Inv X pins σ H s):X.env.locals<s.heap.objs.size:=let ⟨_,hn,_⟩:=I.loc;hn.lt
theorem Inv.sz(I:Inv X pins σ H s):X.gW.heap.objs.size<=s.heap.objs.size:=Nat.le_trans I.ok.above (Nat.le_of_lt I.lt)
theorem Inv.NY(I:Inv X pins σ H s){a:Addr}(h:s.heap.objs.size<=a):a∉X.fs:=fun hb=>by
 obtain⟨_,o,ho,_⟩:=I.ok.pK.mem hb
 exact absurd (Nat.lt_of_lt_of_le (Heap.lt_size ho) (Nat.le_trans I.sz h)) (Nat.lt_irrefl _)
theorem Inv.Ma(I:Inv X pins σ H s):∀x c,X.env.cells.lookup x=some c->c≠X.env.locals:=fun x c e z=>by
 obtain⟨v,o,ho,hd⟩:=I.cell x c e
 obtain⟨m,⟨o',es,ep,gh,pJ,_⟩,_⟩:=I.loc
 rw[z,gh] at ho;cases ho;rw[pJ] at hd;cases hd
theorem Inv.pK(I:Inv X pins σ H s):s.heap.FunFrames X.base X.outer:=by
 have all:∀(l:List Env),(∀b∈E_ l,b∈X.fs)->X.gW.heap.FunFrames X.base l->s.heap.FunFrames X.base l:=by
  intro l
  induction l with
  |nil=>intro _ _;trivial
  |cons env r ih=>
   intro hs hl
   obtain⟨hk,⟨L,o,hf,hn,ho,hd⟩,hr⟩:=hl
   have hL:L∈X.fs:=hs L (by unfold E_;rw[List.filterMap_cons,hf];exact List.mem_cons_self)
   obtain⟨sl,e⟩:=I.base.slot L o ho (I.ok.LU L hL) hL fun z=>I.ok.Io L z hL
   exact⟨hk,⟨L,_,hf,hn,e,hd⟩,ih (fun b hb=>hs b (by unfold E_;rw[List.filterMap_cons,hf];exact List.mem_cons_of_mem _ hb)) hr⟩
 exact all X.outer (fun _ hb=>hb) I.ok.pK
theorem Inv.stack(I:Inv X pins σ H s):s.heap.FunFrames X.base X.stack:=by
 rcases I.ok.Qv with e|⟨e,hf⟩
 ·rw[e];exact I.pK
 ·rw[e]
  obtain⟨m,hn,_⟩:=I.loc
  refine .cons (by rw[I.ok.kind];decide) hf hn ?_ I.pK
  exact Heap.get?_none_of_le (Nat.le_trans I.ok.FQ I.ok.above)
theorem Inv.qf(I:Inv X pins σ H s):∀b∈E_ X.stack,b∈X.env.locals::X.fs:=fun b hb=>by
 rcases I.ok.Qv with e|⟨e,hf⟩
 ·rw[e] at hb;exact List.mem_cons_of_mem _ hb
 ·rw[e] at hb
  unfold E_ at hb
  rw[List.filterMap_cons,hf] at hb
  exact hb
theorem Inv.zV(I:Inv X pins σ H s):∀b∈E_ X.stack,H b=none:=fun b hb=>by
 rcases List.mem_cons.mp (I.qf b hb) with e|hb
 ·rw[e];exact I.free
 ·obtain⟨_,o,ho,_⟩:=I.ok.pK.mem hb
  exact I.base.free b o ho (I.ok.LU b hb) fun z=>I.ok.Io b z hb
theorem Inv.step{g':Array GenState}{t':Nat}{d':Drawn}{ch:List Addr}(I:Inv X pins σ H s)
  (FK:∀b∈ch,(b∈X.ex\/X.gW.heap.objs.size<=b)/\b≠X.env.locals/\(∀x c,X.env.cells.lookup x=some c->c≠b)/\∀p∈X.pn++pins,p.1≠b)
  (keep:∀b o,b≠X.env.locals->b∉X.fs->b∉ch->s.heap.get? b=some o->H b=none->h'.get? b=some o)
  (slot:∀b o,b≠X.env.locals->b∈X.fs->b∉ch->s.heap.get? b=some o->H b=none->∃sl,h'.get? b=some {o with slots:=sl}) (free:∀b o,b∉ch->s.heap.get? b=some o->H b=none->H' b=none)
  (there:∀b o,b∉ch->s.heap.get? b=some o->∃o',h'.get? b=some o')
  (nk:∀b xs,H b=some (.tup xs)->H' b=some (.tup xs)) (lM:∀b o u,H b=some (.aT o u)->H' b=some (.aT o u)) (nu:∀b ps,H b=some (.JU ps)->∃more,H' b=some (.JU (ps++more)))
  (ns:∀m,s.heap.Ns X.env.locals m->h'.Ns X.env.locals m) (cb:lq X.prog X.w H' h') (hg:AllBare g') :
  Inv X pins σ H' {s with heap:=h',gens:=g',drawn:=d',toks:=t'}:=by
 have Vb:∀b o,X.gW.heap.get? b=some o->b≠X.env.locals:=fun b o e=>Nat.ne_of_lt (Nat.lt_of_lt_of_le (Heap.lt_size e) I.ok.above)
 have K4:∀b o,X.gW.heap.get? b=some o->b∉X.ex->b∉ch:=fun b o e hx hb=>by
  rcases(FK b hb).1 with z|z
  ·exact hx z
  ·exact absurd (Nat.lt_of_lt_of_le (Heap.lt_size e) z) (Nat.lt_irrefl _)
 have cellK:∀x c,X.env.cells.lookup x=some c->∀v,s.heap.IsCell c v->h'.IsCell c v:=fun x c e v ⟨o,ho,hd⟩=>by
  have N5:c∉ch:=fun z=>(FK c z).2.2.1 x c e rfl
  by_cases hc:c∈X.fs
  ·obtain⟨sl,q⟩:=slot c o (I.Ma x c e) hc N5 ho (I.jM x c e)
   exact⟨_,q,hd⟩
  ·exact⟨o,keep c o (I.Ma x c e) hc N5 ho (I.jM x c e),hd⟩
 refine⟨I.ok,I.os,hg,⟨fun b o e n hb hx=>?_,fun b o e n hb hx=>?_,fun b o e n hx=>?_,fun b o e hx=>?_,fun b xs e=>nk b xs (I.base.nk b xs e),fun b o xs e=>lM b o xs (I.base.lM b o xs e),fun b ps e=>?_⟩,?_,fun x c e=>?_,?_,fun x c e=>?_,fun p hp=>?_,cb,I.len⟩
 ·exact keep b o (Vb b o e) hb (K4 b o e hx) (I.base.keep b o e n hb hx) (I.base.free b o e n hx)
 ·obtain⟨sl,e1⟩:=I.base.slot b o e n hb hx
  obtain⟨R3,e2⟩:=slot b _ (Vb b o e) hb (K4 b o e hx) e1 (I.base.free b o e n hx)
  exact⟨R3,e2⟩
 ·obtain⟨o',e1⟩:=I.base.there b o e hx
  exact free b o' (K4 b o e hx) e1 (I.base.free b o e n hx)
 ·obtain⟨o',e1⟩:=I.base.there b o e hx
  exact there b o' (K4 b o e hx) e1
 ·obtain⟨m1,e1⟩:=I.base.nu b ps e
  obtain⟨m2,e2⟩:=nu b _ e1
  exact⟨m1++m2,by rw[e2,Array.append_assoc]⟩
 ·obtain⟨m,hn,hl⟩:=I.loc
  refine⟨m,ns m hn,fun i x v e1 e2 e3=>?_⟩
  obtain⟨u,r,l⟩:=hl i x v e1 e2 e3
  refine⟨u,r,?_⟩
  rcases l with l|⟨k,c,e,z⟩
  ·exact .inl l
  ·exact .inr ⟨k,c,e,cellK x c e _ z⟩
 ·obtain⟨v,z⟩:=I.cell x c e
  exact⟨v,cellK x c e v z⟩
 ·obtain⟨m,⟨o,_,_,ho,_⟩,_⟩:=I.loc
  exact free _ o (fun z=>(FK _ z).2.1 rfl) ho I.free
 ·obtain⟨v,o,ho,hd⟩:=I.cell x c e
  exact free c o (fun z=>(FK c z).2.2.1 x c e rfl) ho (I.jM x c e)
 ·obtain⟨e,n,ne,nf,d⟩:=I.pin p hp
  have N5:p.1∉ch:=fun z=>(FK p.1 z).2.2.2 p hp rfl
  exact⟨keep p.1 p.2 ne nf N5 e n,free p.1 p.2 N5 e n,ne,nf,d⟩
theorem Inv.un{t':Nat}(I:Inv X pins σ H s)(u:Un X.fs [] H H' s.heap h')(cb:lq X.prog X.w H' h'):Inv X pins σ H' {s with heap:=h',toks:=t'}:=by
 obtain⟨m,⟨o,es,ep,ho,r⟩,_⟩:=id I.loc
 obtain⟨sl,hL⟩:=u.any ho I.free (by simp)
 exact I.step (g':=s.gens) (d':=s.drawn) (ch:=[]) (fun _ z=>nomatch z) (fun b o _ hb _ e n=>u.keep b o e n hb (by simp)) (fun b o _ hb _ e n=>u.slot b o e n hb (by simp)) (fun b o _ e n=>u.free b o e n (by simp)) (fun b o _ e=>u.there b o e (by simp)) u.nk u.lM u.nu (fun m' hm=>by
  obtain⟨o',pN,Jp,gh,r'⟩:=hm
  rw[ho] at gh;cases gh
  exact⟨_,pN,Jp,hL,r'⟩) cb I.bare
theorem Inv.call{g':Array GenState}{t':Nat}{d':Drawn}{ch:List Addr}(I:Inv X pins σ H s)(u:Un (E_ X.stack) ch H H' s.heap h')(cb:lq X.prog X.w H' h')(hg:AllBare g')
  (FK:∀b∈ch,(b∈X.ex\/X.gW.heap.objs.size<=b)/\b≠X.env.locals/\(∀x c,X.env.cells.lookup x=some c->c≠b)/\∀p∈X.pn++pins,p.1≠b) :
  Inv X pins σ H' {s with heap:=h',gens:=g',drawn:=d',toks:=t'}:=by
 obtain⟨m,⟨o,es,ep,ho,r⟩,_⟩:=id I.loc
 obtain⟨sl,hL⟩:=u.any ho I.free fun z=>(FK _ z).2.1 rfl
 exact I.step (ch:=ch) FK (fun b o hL hb hc e n=>u.keep b o e n (fun z=>(List.mem_cons.mp (I.qf b z)).elim hL hb) hc) (fun b o _ _ hc e n=>u.any e n hc) (fun b o hc e n=>u.free b o e n hc) (fun b o hc e=>u.there b o e hc) u.nk u.lM u.nu (fun m' hm=>by
  obtain⟨o',pN,Jp,gh,r'⟩:=hm
  rw[ho] at gh;cases gh
  exact⟨_,pN,Jp,hL,r'⟩) cb hg
theorem Inv.turned{t':Nat}{it:Addr}(I:Inv X pins σ H s)(k:∀b o,b≠it->s.heap.get? b=some o->h'.get? b=some o)(hn:H it=none)(hL:it≠X.env.locals)
  (h1:it∈X.ex\/X.gW.heap.objs.size<=it) (h2:∀x c,X.env.cells.lookup x=some c->c≠it) (h3:∀p∈X.pn++pins,p.1≠it):Inv X pins σ H {s with heap:=h',toks:=t'}:=by
 have U':∀b u,H b=some u->b≠it:=fun b u e z=>by rw[z,hn] at e;cases e
 refine I.step (g':=s.gens) (d':=s.drawn) (ch:=[it]) (fun b hb=>?_) (fun b o _ _ hc e _=>k b o (fun z=>hc (by simp[z])) e) (fun b o _ _ hc e _=>⟨o.slots,k b o (fun z=>hc (by simp[z])) e⟩) (fun _ _ _ _ n=>n)
  (fun b o hc e=>⟨o,k b o (fun z=>hc (by simp[z])) e⟩) (fun _ _ e=>e) (fun _ _ _ e=>e) (fun b ps e=>⟨#[],by rw[e];simp⟩) (fun m hm=>?_) (fun b u e=>?_) I.bare
 ·have e:b=it:=by simpa using hb
  subst e
  exact⟨h1,hL,h2,h3⟩
 ·obtain⟨o,es,ep,ho,r⟩:=hm
  exact⟨o,es,ep,k _ o (Ne.symm hL) ho,r⟩
 ·refine(I.cb b u e).wG (fun c v hc q=>k c v ?_ q) (fun _ q=>q) fun _ _ q=>q
  rcases hc with z|z
  ·rw[z];exact U' b u e
  ·exact U' c _ z
theorem Inv.tok(I:Inv X pins σ H s)(t:Nat):Inv X pins σ H {s with toks:=t}:=I.un (h':=s.heap) (t':=t) Un.refl I.cb
theorem Inv.kept{t':Nat}(I:Inv X pins σ H s)(k:∀b u,s.heap.get? b=some u->h'.get? b=some u):Inv X pins σ H {s with heap:=h',toks:=t'}:=I.un (Un.kept k) (I.cb.kept k)
theorem Inv.laid{a:Addr}{o:HO}{t':Nat}(I:Inv X pins σ H s)(k:∀b u,s.heap.get? b=some u->h'.get? b=some u)(hp:s.heap.objs.size<=a)(new:d8 X.prog X.w (upd H a o) h' a o) :
  Inv X pins σ (upd H a o) {s with heap:=h',toks:=t'}:=I.un (Un.laid k hp (I.cb.fresh hp)) (I.cb.laid k hp new)
theorem Inv.write{x e:Addr}{o:HO}{t':Nat}(I:Inv X pins σ H s)(mu:Pr (H x))(he:e=x\/H e=some (.own x))(k:∀b u,b≠e->s.heap.get? b=some u->h'.get? b=some u)(MN:∃u,h'.get? e=some u)
  (new:d8 X.prog X.w (upd H x o) h' x o):Inv X pins σ (upd H x o) {s with heap:=h',toks:=t'}:=I.un (Un.write mu he k MN) (I.cb.write mu he k MN new)
theorem Inv.vj{IV:List (Addr×Obj)}(I:Inv X pins σ H s)(h:∀p∈IV,s.heap.get? p.1=some p.2/\H p.1=none/\p.1≠X.env.locals/\p.1∉X.fs/\∀v,p.2.data≠.cell v):Inv X IV σ H s:=
 ⟨I.ok,I.os,I.bare,I.base,I.loc,I.cell,I.free,I.jM,fun p hp=>(List.mem_append.mp hp).elim (fun z=>I.pin p (List.mem_append_left _ z)) (h p),I.cb,I.len⟩
theorem xn{N:List Str}(hN:N.Nodup){i j:Nat}{x:Str}(a:N[i]? = some x)(b:N[j]? = some x):i=j:=by
 obtain⟨h1,e1⟩:=List.getElem?_eq_some_iff.mp a
 obtain⟨h2,e2⟩:=List.getElem?_eq_some_iff.mp b
 exact(List.getElem_inj hN).mp (e1.trans e2.symm)
theorem A9{M:Model}{A:Around}{E:Value->Shared->Prop}{i:Nat}{x:Str}{v:V}{u:Value}{Q:Unit->Shared->Prop}(I:Inv X pins σ H s)(hN:X.N.Nodup)(hi:X.N[i]? = some x)(hx:Loc X.env.scope x)(r:RelV v u)
  (h:∀s',Inv X pins (σ.set i (some v)) H s'->(∃a,Heap.SameBut a s.heap s'.heap/\(a=X.env.locals\/X.env.cells.lookup x=some a))->Q () s') (hf:X.fn x=true\/X.env.scope.names.lookup x=some .local:=by first|exact .inl rfl|exact .inr rfl|assumption):wpAny M A (storeName X.env x u) Q E s:=by
 obtain⟨m,hn,hl⟩:=id I.loc
 have TH:(X.env.scope.kind==.class||(X.env.scope.kind==.module&&X.env.locals != X.env.globals))=false:=by rw[I.ok.kind];rfl
 have OH:i<σ.length:=by rw[I.len];exact(List.getElem?_eq_some_iff.mp hi).1
 have Ma:=I.Ma
 have tracked:∀{a:Addr}{h':Heap},(∃o,s.heap.get? a=some o/\H a=none)->Heap.SameBut a s.heap h'->lq X.prog X.w H h':=fun{a h'} ha hs b ob e=>by
  obtain⟨_,_,Jk⟩:=ha
  refine(I.cb b ob e).wG (fun c w' hc q=>(hs.2 c ?_).trans q) (fun _ q=>q) fun _ _ q=>q
  rintro rfl
  rcases hc with rfl|hc
  ·rw[Jk] at e;cases e
  ·rw[Jk] at hc;cases hc
 rcases hx with hk|hk
 ·refine wpAny_storeName_local hk hn (fun h' Q3 hs=>?_) TH
  obtain⟨oL,_,_,OA,_⟩:=id hn
  refine h _ ⟨I.ok,I.os,I.bare,⟨fun b o e n hb hx=>?_,fun b o e n hb hx=>?_,I.base.free,fun b o e hx=>?_,I.base.nk,I.base.lM,I.base.nu⟩,⟨_,Q3,fun j y v' e1 e2 e3=>?_⟩,fun y c e=>?_,I.free,I.jM,fun p hp=>?_,tracked ⟨oL,OA,I.free⟩ hs,by simpa using I.len⟩ ⟨_,hs,.inl rfl⟩
  ·exact(hs.2 b (Nat.ne_of_lt (Nat.lt_of_lt_of_le (Heap.lt_size e) I.ok.above))).trans (I.base.keep b o e n hb hx)
  ·obtain⟨sl,e1⟩:=I.base.slot b o e n hb hx
   exact⟨sl,(hs.2 b (Nat.ne_of_lt (Nat.lt_of_lt_of_le (Heap.lt_size e) I.ok.above))).trans e1⟩
  ·obtain⟨o',e1⟩:=I.base.there b o e hx
   exact⟨o',(hs.2 b (Nat.ne_of_lt (Nat.lt_of_lt_of_le (Heap.lt_size e) I.ok.above))).trans e1⟩
  ·by_cases hj:j=i
   ·subst hj
    rw[hi] at e1;cases e1
    rw[List.getElem?_set_self OH] at e2
    cases e2
    exact⟨u,r,.inl ⟨hk,by simp⟩⟩
   ·rw[List.getElem?_set_ne (Ne.symm hj)] at e2
    obtain⟨u',r',q⟩:=hl j y v' e1 e2 e3
    refine⟨u',r',?_⟩
    rcases q with⟨k,e⟩|⟨k,c,e,z⟩
    ·refine .inl ⟨k,?_⟩
     have:y≠x:=fun e=>hj (xn hN e1 (e ▸ hi))
     simp[this,e]
    ·exact .inr ⟨k,c,e,z.sameBut hs (Ma y c e)⟩
  ·obtain⟨w',z⟩:=I.cell y c e
   exact⟨w',z.sameBut hs (Ma y c e)⟩
  ·obtain⟨e,n,ne,nf,d⟩:=I.pin p hp
   exact⟨(hs.2 p.1 ne).trans e,n,ne,nf,d⟩
 ·have Tw:X.fn x=true:=by
   rcases hf with z|z
   ·exact z
   ·rw[z] at hk;cases hk
  obtain⟨c,hc⟩:=I.ok.has x (.inl hk)
  obtain⟨w',z⟩:=I.cell x c hc
  refine wpAny_storeName_cell I.ok.kind hk hc z (fun h' FL hs=>?_)
  obtain⟨oc,EV,Te⟩:=id z
  refine h {s with heap:=h'} ⟨I.ok,I.os,I.bare,⟨fun b o e n hb hx=>?_,fun b o e n hb hx=>?_,I.base.free,fun b o e hx=>?_,I.base.nk,I.base.lM,I.base.nu⟩,⟨m,hn.sameBut hs (Ne.symm (Ma x c hc)),fun j y v' e1 e2 e3=>?_⟩,fun y c' e=>?_,I.free,I.jM,fun p hp=>?_,tracked ⟨oc,EV,I.jM x c hc⟩ hs,by simpa using I.len⟩ ⟨c,hs,.inr hc⟩
  ·exact(hs.2 b (Nat.ne_of_lt (Nat.lt_of_lt_of_le (Heap.lt_size e) (I.ok.Pc x c Tw hc)))).trans (I.base.keep b o e n hb hx)
  ·obtain⟨sl,e1⟩:=I.base.slot b o e n hb hx
   exact⟨sl,(hs.2 b (Nat.ne_of_lt (Nat.lt_of_lt_of_le (Heap.lt_size e) (I.ok.Pc x c Tw hc)))).trans e1⟩
  ·obtain⟨o',e1⟩:=I.base.there b o e hx
   exact⟨o',(hs.2 b (Nat.ne_of_lt (Nat.lt_of_lt_of_le (Heap.lt_size e) (I.ok.Pc x c Tw hc)))).trans e1⟩
  ·by_cases hj:j=i
   ·subst hj
    rw[hi] at e1;cases e1
    rw[List.getElem?_set_self OH] at e2
    cases e2
    exact⟨u,r,.inr ⟨.inl hk,c,hc,FL⟩⟩
   ·rw[List.getElem?_set_ne (Ne.symm hj)] at e2
    obtain⟨u',r',q⟩:=hl j y v' e1 e2 e3
    refine⟨u',r',?_⟩
    rcases q with q|⟨k,c',e,z'⟩
    ·exact .inl q
    ·refine .inr ⟨k,c',e,z'.sameBut hs ?_⟩
     rintro rfl
     exact hj (xn hN e1 (I.ok.inj _ _ _ e hc ▸ hi))
  ·by_cases V1:c'=c
   ·subst V1;exact⟨_,FL⟩
   ·obtain⟨w2,z2⟩:=I.cell y c' e
    exact⟨w2,z2.sameBut hs V1⟩
  ·obtain⟨e,n,ne,nf,d⟩:=I.pin p hp
   refine⟨(hs.2 p.1 ?_).trans e,n,ne,nf,d⟩
   intro q
   rw[q,EV] at e
   have q':oc=p.2:=Option.some.inj e
   exact d w' (by rw[<-q'];exact Te)
theorem qe{M:Model}{A:Around}{E:Value->Shared->Prop}{i:Nat}{x:Str}{v:V}{u:Value}{Q:Unit->Shared->Prop}(I:Inv X pins σ H s)(hN:X.N.Nodup)(hi:X.N[i]? = some x)(hx:Loc X.env.scope x)(r:RelV v u)
  (h:∀s',Inv X pins (σ.set i (some v)) H s'->Q () s') (hf:X.fn x=true\/X.env.scope.names.lookup x=some .local:=by first|exact .inl rfl|exact .inr rfl|assumption):wpAny M A (storeName X.env x u) Q E s:=
 A9 I hN hi hx r (fun s' I' _=>h s' I') hf
theorem Inv.Pb{s':Shared}{ch:List Addr}(I:Inv X pins σ H s)(ho:s'.os=s.os)(u:Un (E_ X.stack) ch H H' s.heap s'.heap)(cb:lq X.prog X.w H' s'.heap)(hg:AllBare s'.gens)
  (FK:∀b∈ch,(b∈X.ex\/X.gW.heap.objs.size<=b)/\b≠X.env.locals/\(∀x c,X.env.cells.lookup x=some c->c≠b)/\∀p∈X.pn++pins,p.1≠b):Inv X pins σ H' s':=by
 obtain⟨h',g',d',t',o'⟩:=s'
 have e:o'=s.os:=ho
 subst e
 exact I.call (g':=g') (t':=t') (d':=d') u cb hg FK
end
abbrev XK:=Value->Option Addr->Hp->Prop
abbrev St:=List (Option V)
abbrev VK:=V->Hp->Prop
abbrev TE:=St->Hp->VK->Prop
abbrev TT:=St->Hp->(Bool->Hp->Prop)->Prop
abbrev TA:=St->Hp->(List V->Hp->Prop)->Prop
structure Ends where
 nx:St->Hp->Prop
 rt:VK
 bk:St->Hp->Prop:=fun _ _=>False
 ct:St->Hp->Prop:=fun _ _=>False
abbrev TS:=Ends->St->Hp->Prop
def EP(X:Cx)(pins:List (Addr×Obj))(σ:St)(Q:VK)(u:Value)(s':Shared):Prop:=∃v H',Inv X pins σ H' s'/\RelV v u/\Q v H'
def TP(X:Cx)(pins:List (Addr×Obj))(σ:St)(Q:Bool->Hp->Prop)(b:Bool)(s':Shared):Prop:=∃H',Inv X pins σ H' s'/\Q b H'
def AP(X:Cx)(pins:List (Addr×Obj))(σ:St)(Q:List V->Hp->Prop)(us:List Value)(s':Shared):Prop:=∃vs H',Inv X pins σ H' s'/\Vals vs us/\Q vs H'
def SP(X:Cx)(pins:List (Addr×Obj))(D:Ends)(f:Flow)(s':Shared):Prop:=
 match f with
 | .next=>∃bU H',Inv X pins bU H' s'/\D.nx bU H'
 | .brk=>∃bU H',Inv X pins bU H' s'/\D.bk bU H'
 | .cont=>∃bU H',Inv X pins bU H' s'/\D.ct bU H'
 | .ret u=>∃v bU H',Inv X pins bU H' s'/\RelV v u/\D.rt v H'
def PE(X:Cx)(e:Expr)(t:TE):Prop:=
 ∀(pins:List (Addr×Obj)) (s:Shared) (σ:St) (H:Hp) (Q:VK),Inv X pins σ H s->t σ H Q->wpAny (model X.prog X.w) X.A (eval e X.env) (EP X pins σ Q) X.xe s
def PT(X:Cx)(e:Expr)(t:TT):Prop:=
 ∀(pins:List (Addr×Obj)) (s:Shared) (σ:St) (H:Hp) (Q:Bool->Hp->Prop),Inv X pins σ H s->t σ H Q->wpAny (model X.prog X.w) X.A (isTrue e X.env (eval e X.env)) (TP X pins σ Q) X.xe s
def PW(X:Cx)(e:Expr)(t:TT):Prop:=
 ∀(whole:Sem Value) (pins:List (Addr×Obj)) (s:Shared) (σ:St) (H:Hp) (Q:Bool->Hp->Prop),Inv X pins σ H s->t σ H Q->wpAny (model X.prog X.w) X.A (isTrue e X.env whole) (TP X pins σ Q) X.xe s
theorem PW.pt{X:Cx}{e:Expr}{t:TT}(h:PW X e t):PT X e t:=h _
def PA(X:Cx)(es:List Expr)(t:TA):Prop:=
 ∀(pos:Pos) (pins:List (Addr×Obj)) (s:Shared) (σ:St) (H:Hp) (Q:List V->Hp->Prop),Inv X pins σ H s->t σ H Q->wpAny (model X.prog X.w) X.A (spliced (backTo pos (starEach es X.env))) (AP X pins σ Q) X.xe s
def PS(X:Cx)(st:Stmt)(t:TS):Prop:=
 ∀(pins:List (Addr×Obj)) (s:Shared) (σ:St) (H:Hp) (D:Ends),Inv X pins σ H s->t D σ H->wpAny (model X.prog X.w) X.A (exec st X.env) (SP X pins D) X.xe s
def zD(X:Cx)(st:List Stmt)(t:TS):Prop:=
 ∀(pins:List (Addr×Obj)) (s:Shared) (σ:St) (H:Hp) (D:Ends),Inv X pins σ H s->t D σ H->wpAny (model X.prog X.w) X.A (execs st X.env) (SP X pins D) X.xe s
theorem cq{α:Type}{t:Sem α}{Q Q':α->Shared->Prop}{M:Model}{A:Around}{E:Value->Shared->Prop}{s:Shared}(h:wpAny M A t Q E s)(hQ:∀a s,Q a s->Q' a s):wpAny M A t Q' E s:=wpAny_mono h hQ fun _ _ x=>x
end L2
namespace L2
open PySem PySem.Spec PyProof.Rows
section
variable {X:Cx}
def jQ(i:Nat):TE:=fun σ H Q=>∃v,σ[i]? = some (some v)/\Q v H
def tC(v:V):TE:=fun _ H Q=>Q v H
theorem gk{i:Nat}{x:Str}{pos:Pos}(hN:X.N[i]? = some x)(hv:ko X.env.scope x)(hd:(x==("__debug__":Str))=false:=by decide)(fB:(x==("__classdict__":Str))=false:=by decide):PE X (.Name x pos) (jQ i):=by
 intro pins s σ H Q I h
 obtain⟨v,e,h⟩:=h
 obtain⟨m,hn,hl⟩:=I.loc
 obtain⟨u,r,l⟩:=hl i x v hN e hv
 have fin:EP X pins σ Q u s:=⟨v,H,I,r,h⟩
 rcases l with⟨hk,hm⟩|⟨hk,c,hc,Ao⟩
 ·exact wpAny_Name (wpAny_loadName_local I.ok.kind hk hn hm fin) hd
 ·rcases hk with hk|hk
  ·exact wpAny_Name (wpAny_loadName_cell I.ok.kind hk hc Ao fin) hd
  ·exact wpAny_Name (wpAny_loadName_free I.ok.kind hk hc Ao fin fB) hd
theorem Ky{i j pos}:PE X (.Constant (.int i) j pos) (tC (.int i)):=fun _ _ _ H _ I h=>wpAny_Constant_int ⟨.int i,H,I.tok _,⟨_,rfl⟩,h⟩
theorem IX{b j pos}:PE X (.Constant (.bool b) j pos) (tC (.bl b)):=fun _ _ _ H _ I h=>Constant_bool ⟨.bl b,H,I,rfl,h⟩
theorem Kx{j pos}:PE X (.Constant .none j pos) (tC .bJ):=fun _ _ _ H _ I h=>Constant_none ⟨.bJ,H,I,rfl,h⟩
theorem Ku{x j pos}:PE X (.Constant (.str x) j pos) (tC (.str x)):=fun _ _ _ H _ I h=>Calls.Constant_str ⟨.str x,H,I.tok _,⟨_,rfl⟩,h⟩
def Gl(X:Cx)(x:Str):Prop:=X.env.kindOf x=some .globalImplicit
theorem Aj{E:Value->Shared->Prop}{pins:List (Addr×Obj)}{s:Shared}{σ:St}{H:Hp}{x:Str}{u:Value}{pos:Pos}{Q:Value->Shared->Prop}(I:Inv X pins σ H s)(hg:Gl X x)(hm:X.mg x=some u)(h:Q u s)
  (hd:(x==("__debug__":Str))=false:=by decide):wpAny (model X.prog X.w) X.A (eval (.Name x pos) X.env) Q E s:=
 Calls.Name_function_global I.ok.kind hg (Calls.loadGlobal_global (by rw[I.ok.glob];exact I.mod.glob.keeps I.bk) hm h) hd
theorem qX{E:Value->Shared->Prop}{pins:List (Addr×Obj)}{s:Shared}{σ:St}{H:Hp}{x:Str}{u:Value}{pos:Pos}{Q:Value->Shared->Prop}(I:Inv X pins σ H s)(hg:Gl X x)(hm:X.mg x=none)(hv:bootBuiltins x=some u)(h:Q u s)
  (hn:x≠"__name__":=by decide) (hd:(x==("__debug__":Str))=false:=by decide):wpAny (model X.prog X.w) X.A (eval (.Name x pos) X.env) Q E s:=by
 obtain⟨mb,h1,h2⟩:=I.mod.blt
 exact Calls.Name_function_global I.ok.kind hg (Calls.loadGlobal_builtin (by rw[I.ok.glob];exact I.mod.glob.keeps I.bk) hm (by rw[I.ok.blt];exact h1.keeps I.bk) ((h2 x hn).trans hv) h) hd
theorem Aa{x:Str}{v:V}{u:Value}{pos:Pos}(hg:Gl X x)(hm:X.mg x=some u)(r:RelV v u)(hd:(x==("__debug__":Str))=false:=by decide):PE X (.Name x pos) (tC v):=
 fun _ _ _ H _ I h=>Aj I hg hm ⟨v,H,I,r,h⟩ hd
theorem Hw{x:Str}{v:V}{u:Value}{pos:Pos}(hg:Gl X x)(hm:X.mg x=none)(hv:bootBuiltins x=some u)(r:RelV v u)(hn:x≠"__name__":=by decide)(hd:(x==("__debug__":Str))=false:=by decide):PE X (.Name x pos) (tC v):=
 fun _ _ _ H _ I h=>qX I hg hm hv ⟨v,H,I,r,h⟩ hn hd
def Qu(ta tb:TE)(k:Int->Int->Hp->Prop):St->Hp->Prop:=fun σ H=>ta σ H fun x H1=>tb σ H1 fun y H2=>∃i j,x=.int i/\y=.int j/\k i j H2
def Xq(ta tb:TE):TE:=fun σ H Q=>Qu ta tb (fun i j H2=>Q (.int (i+j)) H2) σ H
def Xc(ta tb:TE):TE:=fun σ H Q=>Qu ta tb (fun i j H2=>Q (.int (i-j)) H2) σ H
def Xg(ta tb:TE):TE:=fun σ H Q=>Qu ta tb (fun i j H2=>(-(2 ^ 64)<i/\i<2 ^ 64)/\Q (.int (i * j)) H2) σ H
variable {a b:Expr}{ta tb:TE}{pos:Pos}
def PC(X:Cx)(op:CmpOp)(a b:Expr)(t:TE):Prop:=
 ∀(pins:List (Addr×Obj)) (s:Shared) (σ:St) (H:Hp) (Q:VK),Inv X pins σ H s->t σ H Q ->
  wpAny (model X.prog X.w) X.A (eval a X.env) (fun v cG=>wpAny (model X.prog X.w) X.A (eval b X.env) (fun u nv=>wpAny (model X.prog X.w) X.A (compareOp op v u) (EP X pins σ Q) X.xe nv) X.xe cG) X.xe s
theorem mw(b:Expr){op:CmpOp}(h:op≠.In)(h2:op≠.NotIn):behindInMarks op b=false:=by
 have e1:(op==CmpOp.In)=false:=by cases op<;>first|rfl|exact absurd rfl h
 have e2:(op==CmpOp.NotIn)=false:=by cases op<;>first|rfl|exact absurd rfl h2
 cases b<;>simp[behindInMarks,e1,e2]
def A7(p:Int->Int->Bool)(ta tb:TE):TE:=fun σ H Q=>Qu ta tb (fun i j H2=>Q (.bl (p i j)) H2) σ H
abbrev ZO:TE->TE->TE:=A7 fun i j=>decide (i<j)
abbrev ZP:TE->TE->TE:=A7 fun i j=>decide (i<=j)
abbrev ZQ:TE->TE->TE:=A7 fun i j=>decide (j<i)
abbrev ZR:TE->TE->TE:=A7 fun i j=>decide (j<=i)
abbrev Xk:TE->TE->TE:=A7 fun i j=>decide (i=j)
abbrev Xf:TE->TE->TE:=A7 fun i j=>!decide (i=j)
def Xi(ta:TE):TE:=fun σ H Q=>ta σ H fun x H1=>Q (.bl (decide (x=.bJ))) H1
def IE(ta:TE):TE:=fun σ H Q=>ta σ H fun x H1=>Q (.bl (!decide (x=.bJ))) H1
theorem RelV.Ep{x:V}{v:Value}(r:RelV x v):(v==Value.none)=decide (x=.bJ):=by
 cases x with
 |bJ=>cases r;rfl
 |bl _=>cases r;rfl
 |int _=>obtain⟨t,rfl⟩:=r;rfl
 |str _=>obtain⟨t,rfl⟩:=r;rfl
 |vU _=>obtain⟨t,rfl⟩:=r;rfl
 |FN _=>obtain⟨t,rfl⟩:=r;rfl
 |ref _=>cases r;rfl
 |ty _=>cases r;rfl
theorem Hx{j pos'}(ha:PE X a ta):PC X .IsNot a (.Constant .none j pos') (IE ta):=by
 intro pins s σ H Q I h
 refine cq (ha pins s σ H _ I h) fun v s1 ⟨x,H1,I1,r1,q1⟩=>?_
 exact Constant_none (isnot_none_gen ⟨.bl _,H1,I1,by rw[r1.Ep];rfl,q1⟩)
def tB(t:TE):TT:=fun σ H Q=>t σ H fun x H1=>∃c,x=.bl c/\Q c H1
theorem KA{op:CmpOp}{t:TE}(h:PC X op a b t)(h1:behindInMarks op b=false:=by first|exact mw _ (by decide) (by decide)|rfl):PE X (.Compare a [op] [b] pos) t:=fun pins s σ H Q I hw=>wpAny_Compare1 (h pins s σ H Q I hw) h1
theorem Kl{op:CmpOp}{t:TE}(h:PC X op a b t)(h1:behindInMarks op b=false:=by first|exact mw _ (by decide) (by decide)|rfl):PT X (.Compare a [op] [b] pos) (tB t):=by
 intro pins s σ H Q I hw
 refine wpAny_isTrue_Compare1 (cq (h pins s σ H _ I hw) fun v s1 h1=>cq h1 fun u s2 h2=>cq h2 fun c s3 ⟨x,H1,I1,r1,q1⟩=>?_) h1
 obtain⟨d,rfl,q⟩:=q1
 cases r1
 exact wpAny_truthy_bool ⟨H1,I1,q⟩
variable {tA UU:TT}{rest:List Expr}
def Nz(t u:TT):TT:=fun σ H Q=>t σ H fun c H1=>if c=true then u σ H1 Q else Q false H1
def ZN(t u:TT):TT:=fun σ H Q=>t σ H fun c H1=>if c=true then Q true H1 else u σ H1 Q
def Nu(t:TT):TT:=fun σ H Q=>t σ H fun c H1=>Q (!c) H1
theorem Ha(ha:PT X a tA):PW X (.BoolOp .And [a] pos) tA:=by
 intro wh pins s σ H Q I h
 refine isTrue_and (cq (ha pins s σ H Q I h) fun c s1 e=>?_)
 cases c with
 |true=>exact isTrue_and_nil e
 |false=>exact e
theorem Ki(ha:PT X a tA)(hb:PW X (.BoolOp .And (b::rest) pos) UU):PW X (.BoolOp .And (a::b::rest) pos) (Nz tA UU):=by
 intro wh pins s σ H Q I h
 refine isTrue_and (cq (ha pins s σ H _ I h) fun c s1 ⟨H1,I1,q1⟩=>?_)
 cases c with
 |true=>exact hb wh pins s1 σ H1 Q I1 q1
 |false=>exact⟨H1,I1,q1⟩
theorem Kk(ha:PT X a tA):PT X (.UnaryOp .Not a pos) (Nu tA):=by
 intro pins s σ H Q I h
 exact isTrue_not (ha pins s σ H (fun c H1=>Q (!c) H1) I h)
def IL(ta tb:TE):TE:=fun σ H Q=>ta σ H fun x H1=>∃c,x=.bl c/\if c=true then tb σ H1 Q else Q (.bl false) H1
def Xe(ta tb:TE):TE:=fun σ H Q=>ta σ H fun x H1=>∃c,x=.bl c/\if c=true then Q (.bl true) H1 else tb σ H1 Q
def UN(ta:TE):TE:=fun σ H Q=>ta σ H fun x H1=>∃c,x=.bl c/\Q (.bl (!c)) H1
theorem Kw{op}{t:TE}(h:PE X a t):PE X (.BoolOp op [a] pos) t:=fun pins s σ H Q I hw=>BoolOp_one (h pins s σ H Q I hw)
theorem KC(ha:PE X a ta)(hb:PE X (.BoolOp .And (b::rest) pos) tb):PE X (.BoolOp .And (a::b::rest) pos) (IL ta tb):=by
 intro pins s σ H Q I h
 refine BoolOp_and (cq (ha pins s σ H _ I h) fun v s1 ⟨x,H1,I1,r1,q1⟩=>?_)
 obtain⟨c,rfl,q1⟩:=q1
 cases r1
 refine wpAny_truthy_bool ?_
 cases c with
 |true=>exact hb pins s1 σ H1 Q I1 q1
 |false=>exact⟨.bl false,H1,I1,rfl,q1⟩
def UR(t:TT)(ta tb:TE):TE:=fun σ H Q=>t σ H fun c H1=>if c=true then ta σ H1 Q else tb σ H1 Q
theorem Ea{c:Expr}(hc:PT X c tA)(ha:PE X a ta)(hb:PE X b tb):PE X (.IfExp c a b pos) (UR tA ta tb):=by
 intro pins s σ H Q I h
 refine wpAny_IfExp (cq (hc pins s σ H _ I h) fun d s1 ⟨H1,I1,q1⟩=>?_)
 cases d with
 |true=>exact ha pins s1 σ H1 Q I1 q1
 |false=>exact hb pins s1 σ H1 Q I1 q1
end
end L2
namespace L2
open PySem PySem.Spec PyProof.Rows
def je(K:PySem.W.Frag)(H:Hp)(a:Addr)(xs:List V):Prop:=
 Rd H a (.lst xs) \/
  ∃(o:Obj) (its:Array Value) (n:Nat),K.lookup a=some o/\o.cls=.type "list"/\o.dict=none/\o.data=.seq its n/\its.size<=sizeLine/\Vals xs its.toList
def ox(K:PySem.W.Frag)(H:Hp)(a:Addr)(xs:List V):Prop:=
 Rd H a (.tup xs) \/
  ∃(o:Obj) (its:Array Value) (n:Nat),K.lookup a=some o/\o.cls=.type "tuple"/\o.data=.seq its n/\its.size<=sizeLine/\Vals xs its.toList
def Ug:Value->Option V
 | .none=>some .bJ
 | .bool b=>some (.bl b)
 | .int i _=>some (.int i)
 | .str x _=>some (.str x)
 | .bytes b _=>some (.vU b)
 | .float b _=>some (.FN b)
 | .ref a=>some (.ref a)
 | .type n=>some (.ty n)
 |_=>none
theorem RelV.abs{x:V}{u:Value}(r:RelV x u):Ug u=some x:=by
 cases x with
 |bJ=>cases r;rfl
 |bl _=>cases r;rfl
 |int _=>obtain⟨t,rfl⟩:=r;rfl
 |str _=>obtain⟨t,rfl⟩:=r;rfl
 |vU _=>obtain⟨t,rfl⟩:=r;rfl
 |FN _=>obtain⟨t,rfl⟩:=r;rfl
 |ref _=>cases r;rfl
 |ty _=>cases r;rfl
theorem RelV.inj{x y:V}{u:Value}(r:RelV x u)(q:RelV y u):x=y:=Option.some.inj (r.abs.symm.trans q.abs)
theorem Vals.inj:∀{xs ys:List V}{us:List Value},Vals xs us->Vals ys us->xs=ys
 |_,_,_,.nil,.nil=>rfl
 |_,_,_,.cons r t,.cons r' t'=>by rw[r.inj r',Vals.inj t t']
section
variable {X:Cx}{pins:List (Addr×Obj)}{σ:St}{H:Hp}{s:Shared}{a:Addr}{xs ys:List V}
theorem je.of{K:PySem.W.Frag}(h:H a=some (.lst xs)):je K H a xs:=.inl (.inl h)
theorem ox.of{K:PySem.W.Frag}(h:H a=some (.tup xs)):ox K H a xs:=.inl (.inl h)
theorem Inv.list(I:Inv X pins σ H s)(h:je X.K H a xs):∃its:List Value,Vals xs its/\PlainL s.heap a its.toArray/\xs.length<=sizeLine:=by
 rcases h with h|⟨o,its,n,hk,hc,hd,hs,hz,r⟩
 ·obtain⟨z,its,n,r,e⟩:=h.ok I.cb
  exact⟨its,r,⟨_,n,e,rfl,rfl,rfl⟩,z⟩
 ·refine⟨its.toList,r,⟨o,n,I.Ld a o hk,hc,hd,by simpa using hs⟩,?_⟩
  have e:=r.length
  simp only[Array.length_toList] at e
  omega
theorem Inv.tuple(I:Inv X pins σ H s)(h:ox X.K H a xs):∃its:List Value,Vals xs its/\IsTup s.heap a its.toArray/\xs.length<=sizeLine:=by
 rcases h with h|⟨o,its,n,hk,hc,hs,hz,r⟩
 ·obtain⟨z,its,r,p⟩:=h.ok I.cb
  exact⟨its,r,p,z⟩
 ·refine⟨its.toList,r,⟨o,I.Ld a o hk,hc,n,by simpa using hs⟩,?_⟩
  have e:=r.length
  simp only[Array.length_toList] at e
  omega
theorem Inv.xv(I:Inv X pins σ H s)(h:je X.K H a xs)(h':je X.K H a ys):xs=ys:=by
 obtain⟨its,r,⟨o,n,e,_,_,d⟩,_⟩:=I.list h
 obtain⟨its',r',⟨o',n',e',_,_,d'⟩,_⟩:=I.list h'
 rw[e] at e';cases e'
 rw[d] at d'
 injection d' with d1 _
 have:its=its':=by simpa using congrArg Array.toList d1
 subst this
 exact r.inj r'
theorem Inv.A4(I:Inv X pins σ H s)(h:ox X.K H a xs)(h':ox X.K H a ys):xs=ys:=by
 obtain⟨its,r,⟨o,e,_,n,d⟩,_⟩:=I.tuple h
 obtain⟨its',r',⟨o',e',_,n',d'⟩,_⟩:=I.tuple h'
 rw[e] at e';cases e'
 rw[d] at d'
 injection d' with d1 _
 have:its=its':=by simpa using congrArg Array.toList d1
 subst this
 exact r.inj r'
end
abbrev Cx.o_(X:Cx)(E:Value->Shared->Prop):Cx:={X with xe:=E}
abbrev Cx.yc(X:Cx):Cx:=X.o_ fun _ _=>False
theorem Cx.Ok.o_{X:Cx}(ok:X.Ok)(E:Value->Shared->Prop):(X.o_ E).Ok:=
 ⟨ok.mod,ok.kind,ok.glob,ok.blt,ok.above,ok.inj,ok.has,ok.Pc,ok.hd,ok.frames,ok.Qv,ok.WK,ok.bs,ok.FQ,ok.Er,ok.Io,ok.pK,ok.LU⟩
theorem Cx.Ok.iP{X:Cx}{E:Value->Shared->Prop}(ok:(X.o_ E).Ok):X.Ok:=
 ⟨ok.mod,ok.kind,ok.glob,ok.blt,ok.above,ok.inj,ok.has,ok.Pc,ok.hd,ok.frames,ok.Qv,ok.WK,ok.bs,ok.FQ,ok.Er,ok.Io,ok.pK,ok.LU⟩
section
variable {X:Cx}{pins:List (Addr×Obj)}{σ:St}{H:Hp}{s:Shared}{E:Value->Shared->Prop}
theorem Inv.o_(I:Inv X pins σ H s)(E:Value->Shared->Prop):Inv (X.o_ E) pins σ H s:=⟨I.ok.o_ E,I.os,I.bare,I.base,I.loc,I.cell,I.free,I.jM,I.pin,I.cb,I.len⟩
theorem Inv.iP(I:Inv (X.o_ E) pins σ H s):Inv X pins σ H s:=⟨I.ok.iP,I.os,I.bare,I.base,I.loc,I.cell,I.free,I.jM,I.pin,I.cb,I.len⟩
theorem SP.iP{D:Ends}{f:Flow}{s':Shared}(h:SP (X.o_ E) pins D f s'):SP X pins D f s':=by
 cases f with
 |next=>obtain⟨bU,H',I,q⟩:=h;exact⟨bU,H',I.iP,q⟩
 |brk=>obtain⟨bU,H',I,q⟩:=h;exact⟨bU,H',I.iP,q⟩
 |cont=>obtain⟨bU,H',I,q⟩:=h;exact⟨bU,H',I.iP,q⟩
 |ret u=>obtain⟨v,bU,H',I,r,q⟩:=h;exact⟨v,bU,H',I.iP,r,q⟩
theorem PE.yc{e:Expr}{t:TE}(h:PE X.yc e t):PE X e t:=fun pins s σ H Q I hw=>
 wpAny_mono (h pins s σ H Q (I.o_ _) hw) (fun _ _ ⟨v,H',I',r,q⟩=>⟨v,H',I'.iP,r,q⟩) fun _ _ z=>False.elim z
theorem PT.yc{e:Expr}{t:TT}(h:PT X.yc e t):PT X e t:=fun pins s σ H Q I hw=>
 wpAny_mono (h pins s σ H Q (I.o_ _) hw) (fun _ _ ⟨H',I',q⟩=>⟨H',I'.iP,q⟩) fun _ _ z=>False.elim z
theorem zD.yc{st:List Stmt}{t:TS}(h:zD X.yc st t):zD X st t:=fun pins s σ H D I hw=>
 wpAny_mono (h pins s σ H D (I.o_ _) hw) (fun _ _ q=>q.iP) fun _ _ z=>False.elim z
end
section
variable {X:Cx}{st:Stmt}{rest:List Stmt}{t u:TS}{e:Expr}{te:TE}{pos:Pos}
def IF:TS:=fun D σ H=>D.nx σ H
def Nr(t u:TS):TS:=fun D σ H=>t {D with nx:=u D} σ H
theorem Hf:zD X [] IF:=fun _ _ σ H _ I h=>wpAny_execs_nil ⟨σ,H,I,h⟩
theorem D0(h1:PS X st t)(h2:zD X rest u):zD X (st::rest) (Nr t u):=by
 intro pins s σ H D I h
 refine wpAny_execs_cons (cq (h1 pins s σ H {D with nx:=u D} I h) fun f s1 q=>?_)
 cases f with
 |next=>
  obtain⟨bU,H',I',q⟩:=q
  exact h2 pins s1 bU H' D I' q
 |ret v=>exact q
 |brk=>exact q
 |cont=>exact q
theorem He(h1:PS X st t):zD X [st] t:=by
 intro pins s σ H D I h
 refine wpAny_execs_cons (cq (h1 pins s σ H D I h) fun f s1 q=>?_)
 cases f with
 |next=>exact wpAny_execs_nil q
 |ret v=>exact q
 |brk=>exact q
 |cont=>exact q
def RZ:TS:=fun D σ H=>D.bk σ H
def IK:TS:=fun D σ H=>D.ct σ H
theorem w_:PS X (.Continue pos) IK:=fun _ _ σ H _ I h=>wpAny_Continue ⟨σ,H,I,h⟩
theorem Inv.quiet{pins:List (Addr×Obj)}{σ:St}{H:Hp}{s:Shared}(I:Inv X pins σ H s):interactive X.env=false:=by simp[interactive,I.ok.kind]
def tM(te:TE):TS:=fun D σ H=>te σ H fun _ H1=>D.nx σ H1
theorem mn(he:PE X e te)(hs:swapsWith e none pos.line X.env=pure false:=by rfl):PS X (.Expr e pos) (tM te):=by
 intro pins s σ H D I h
 exact wpAny_Expr_any (cq (he pins s σ H _ I h) fun v s1 ⟨x,H1,I1,r1,q1⟩=>⟨σ,H1,I1,q1⟩) I.quiet hs
def Nt(te:TE):TS:=fun D σ H=>te σ H D.rt
theorem Km(he:PE X e te):PS X (.Return (some e) pos) (Nt te):=by
 intro pins s σ H D I h
 exact wpAny_Return_some (cq (he pins s σ H _ I h) fun v s1 ⟨x,H1,I1,r1,q1⟩=>⟨x,σ,H1,I1,r1,q1⟩)
def UM:TS:=fun D _ H=>D.rt .bJ H
def Nv(c:TT)(t u:TS):TS:=fun D σ H=>c σ H fun b H1=>if b=true then t D σ H1 else u D σ H1
theorem NJ{c:Expr}{a b:List Stmt}{tc:TT}(hc:PT X c tc)(ha:zD X a t)(hb:zD X b u):PS X (.If c a b pos) (Nv tc t u):=by
 intro pins s σ H D I h
 refine wpAny_If (cq (hc pins s σ H _ I h) fun d s1 ⟨H1,I1,q1⟩=>?_)
 cases d with
 |true=>exact ha pins s1 σ H1 D I1 q1
 |false=>exact hb pins s1 σ H1 D I1 q1
def JV:TS:=fun _ _ _=>False
theorem D4:PS X st JV:=fun _ _ _ _ _ _ h=>h.elim
end
abbrev TG:=V->St->Hp->(St->Hp->Prop)->Prop
abbrev Cv:=List V->St->Hp->(St->Hp->Prop)->Prop
def PG(X:Cx)(target:Expr)(t:TG):Prop:=
 ∀(pins:List (Addr×Obj)) (s:Shared) (σ:St) (H:Hp) (v:V) (u:Value) (Q:St->Hp->Prop),Inv X pins σ H s->RelV v u->t v σ H Q ->
  wpAny (model X.prog X.w) X.A (assign target X.env u) (fun _ s'=>∃bU H',Inv X pins bU H' s'/\Q bU H') X.xe s
def MV(X:Cx)(ts:List Expr)(t:Cv):Prop:=
 ∀(pins:List (Addr×Obj)) (s:Shared) (σ:St) (H:Hp) (vs:List V) (us:List Value) (Q:St->Hp->Prop),Inv X pins σ H s->Vals vs us->t vs σ H Q ->
  wpAny (model X.prog X.w) X.A (assignInOrder ((assignEach ts X.env).map (·.2)) us) (fun _ s'=>∃bU H',Inv X pins bU H' s'/\Q bU H') X.xe s
abbrev Iw:=V->V->V->Hp->(Hp->Prop)->Prop
def Pm(X:Cx)(t:Iw):Prop:=
 ∀(pins:List (Addr×Obj)) (s:Shared) (σ:St) (H:Hp) (o i v:V) (ov iv u:Value) (Q:Hp->Prop),Inv X pins σ H s->RelV o ov->RelV i iv->RelV v u->t o i v H Q ->
  wpAny (model X.prog X.w) X.A (setItem ov iv u) (fun _ s'=>∃H',Inv X pins σ H' s'/\Q H') X.xe s
abbrev Pk:=V->V->Hp->VK->Prop
def Uk(X:Cx)(op:Operator)(t:Pk):Prop:=
 ∀(pins:List (Addr×Obj)) (s:Shared) (σ:St) (H:Hp) (x y:V) (v u:Value) (Q:VK),Inv X pins σ H s->RelV x v->RelV y u->t x y H Q ->
  wpAny (model X.prog X.w) X.A (inplaceOp op v u) (EP X pins σ Q) X.xe s
section
variable {X:Cx}{pos:Pos}
def As(i:Nat):TG:=fun v σ H Q=>Q (σ.set i (some v)) H
theorem z_{i:Nat}{x:Str}(hN:X.N.Nodup)(hi:X.N[i]? = some x)(hx:Loc X.env.scope x)(hf:X.fn x=true\/X.env.scope.names.lookup x=some .local:=by first|exact .inl rfl|exact .inr rfl|assumption):PG X (.Name x pos) (As i):=by
 intro pins s σ H v u Q I r h
 exact wpAny_assign_Name (qe I hN hi hx r (fun s' I'=>⟨_,H,I',h⟩) hf)
def OS:Cv:=fun vs σ H Q=>vs=[]/\Q σ H
def Jn(t:TG)(u:Cv):Cv:=fun vs σ H Q=>∃v r,vs=v::r/\t v σ H fun bU H'=>u r bU H' Q
theorem Hm:MV X [] OS:=by
 intro pins s σ H vs us Q I r h
 obtain⟨e,h⟩:=h
 subst e
 cases r
 exact assignInOrder_nil ⟨σ,H,I,h⟩
theorem D'{e:Expr}{es:List Expr}{t:TG}{u:Cv}(h1:PG X e t)(h2:MV X es u)
  (hs:(assignEach (e::es) X.env).map (·.2)=assign e X.env::(assignEach es X.env).map (·.2):=by rfl):MV X (e::es) (Jn t u):=by
 intro pins s σ H vs us Q I r h
 obtain⟨v,vr,e1,h⟩:=h
 subst e1
 cases r with
 |cons r rr=>
  rw[hs]
  refine assignInOrder_cons (cq (h1 pins s σ H _ _ _ I r h) fun _ s1 ⟨yg,H1,I1,q1⟩=>?_)
  exact h2 pins s1 yg H1 _ _ Q I1 rr q1
def OQ(K:PySem.W.Frag)(n:Nat)(t:Cv):TG:=fun v σ H Q=>∃a xs,v=.ref a/\ox K H a xs/\xs.length=n/\t xs σ H Q
theorem Ks{es:List Expr}{k:Nat}{t:Cv}{n:Nat}(hc:X.calm=true)(h:MV X es t)
  (hn:(assignEach es X.env).length=n:=by rfl) (zi:(assignEach es X.env).findIdx? (·.1)=none:=by rfl):PG X (.Tuple es k pos) (OQ X.K n t):=by
 intro pins s σ H v u Q I r hw
 obtain⟨a,xs,e1,hq,hl,hw⟩:=hw
 subst e1
 cases r
 obtain⟨its,rv,ht,hz⟩:=I.tuple hq
 refine assign_Tuple_tuple (I.ok.hd hc) ht (by simp[hn,<-hl,rv.length]) zi fun h' hx=>?_
 have I1:Inv X pins σ H {s with heap:=h'}:=I.kept (t':=s.toks) fun b o e=>hx b o (Nat.ne_of_lt (Heap.lt_size e)) e
 exact h pins _ σ H xs _ Q I1 (by simpa using rv) hw
def OR(to ti:TE)(t:Iw):TG:=fun v σ H Q=>to σ H fun o H1=>ti σ H1 fun i H2=>t o i v H2 fun H3=>Q σ H3
theorem Kt{o i:Expr}{to ti:TE}{t:Iw}(ho:PE X o to)(hi:PE X i ti)(hs:Pm X t)
  (ha:∀v,assign (.Subscript o i pos) X.env v=(do
   let ov <-holding [v] (eval o X.env)
   let iv <-holding [v,ov] (eval i X.env)
   standAt pos
   holding [v,ov,iv] (setItem ov iv v)
   release [v,ov,iv] []):=by intro _;rfl):PG X (.Subscript o i pos) (OR to ti t):=by
 intro pins s σ H v u Q I r h
 rw[ha]
 refine wpAny_bind (wpAny_holding (cq (ho pins s σ H _ I h) fun ov s1 ⟨x,H1,I1,r1,q1⟩=>?_))
 refine wpAny_bind (wpAny_holding (cq (hi pins s1 σ H1 _ I1 q1) fun iv s2 ⟨y,H2,I2,r2,q2⟩=>?_))
 refine wpAny_bind (wpAny_standAt (wpAny_bind (wpAny_holding (cq (hs pins s2 σ H2 x y v ov iv u _ I2 r1 r2 r q2) fun _ s3 ⟨H3,I3,q3⟩=>?_))))
 exact wpAny_release ⟨σ,H3,I3,q3⟩
def yx(te:TE)(g:TG):TS:=fun D σ H=>te σ H fun x H1=>g x σ H1 D.nx
theorem D6{tg e:Expr}{te:TE}{g:TG}(he:PE X e te)(hg:PG X tg g)(hs:swapsWithSole [tg] e pos.line X.env=pure false:=by rfl)(hw:swappedStores [tg] e X.env=pure none:=by rfl)
  (h1:(assignEach [tg] X.env).map (·.2)=[assign tg X.env]:=by rfl):PS X (.Assign [tg] e pos) (yx te g):=by
 intro pins s σ H D I h
 refine wpAny_Assign_stores (cq (he pins s σ H _ I h) fun v s1 ⟨x,H1,I1,r1,q1⟩=>?_) hs hw
 rw[h1]
 exact cq (hg pins s1 σ H1 x v _ I1 r1 q1) fun _ s2 q=>q
theorem D3{i:Nat}{x:Str}{e:Expr}{te:TE}{pos':Pos}(hN:X.N.Nodup)(hi:X.N[i]? = some x)(hx:Loc X.env.scope x)(he:PE X e te)(hs:swapsWith e (some (.Name x pos')) pos.line X.env=pure false:=by rfl)(hf:X.fn x=true\/X.env.scope.names.lookup x=some .local:=by first|exact .inl rfl|exact .inr rfl|assumption) :
  PS X (.Assign [.Name x pos'] e pos) (yx te (As i)):=by
 intro pins s σ H D I h
 refine wpAny_Assign_Name (cq (he pins s σ H _ I h) fun v s1 ⟨y,H1,I1,r1,q1⟩=>?_) hs
 exact qe I1 hN hi hx r1 (fun s2 I2=>⟨_,H1,I2,q1⟩) hf
def Xd(i j:Nat)(ta:TA):TS:=fun D σ H=>ta σ H fun vs H1=>∃v w,vs=[v,w]/\D.nx ((σ.set i (some v)).set j (some w)) H1
def Ny(i:Nat)(te:TE)(ti:Pk):TS:=fun D σ H=>∃x,σ[i]? = some (some x)/\te σ H fun y H1=>ti x y H1 fun z H2=>D.nx (σ.set i (some z)) H2
theorem Kn{i:Nat}{x:Str}{e:Expr}{te:TE}{op:Operator}{ti:Pk}{pos':Pos}(hN:X.N.Nodup)(hi:X.N[i]? = some x)(hx:Loc X.env.scope x)(he:PE X e te)(ho:Uk X op ti)(hf:X.fn x=true\/X.env.scope.names.lookup x=some .local:=by first|exact .inl rfl|exact .inr rfl|assumption) :
  PS X (.AugAssign (.Name x pos') op e pos) (Ny i te ti):=by
 intro pins s σ H D I h
 obtain⟨v,e1,h⟩:=h
 obtain⟨m,hn,hl⟩:=I.loc
 have yj:ko X.env.scope x:=by rcases hx with k|k;exact .inl k;exact .inr (.inl k)
 obtain⟨u,r,l⟩:=hl i x v hi e1 yj
 refine wpAny_AugAssign_Name ?_
 have go:wpAny (model X.prog X.w) X.A (eval e X.env) (fun w nv=>wpAny (model X.prog X.w) X.A (inplaceOp op u w) (fun r Gy=>wpAny (model X.prog X.w) X.A (storeName X.env x r) (fun _=>SP X pins D .next) X.xe Gy) X.xe nv) X.xe s:=by
  refine cq (he pins s σ H _ I h) fun w s1 ⟨y,H1,I1,r1,q1⟩=>?_
  refine cq (ho pins s1 σ H1 v y u w _ I1 r r1 q1) fun z s2 ⟨zv,H2,I2,r2,q2⟩=>?_
  exact qe I2 hN hi hx r2 (fun s3 I3=>⟨_,H2,I3,q2⟩) hf
 rcases l with⟨hk,hm⟩|⟨hk,c,hc,Ao⟩
 ·exact wpAny_loadName_local I.ok.kind hk hn hm go
 ·rcases hk with hk|hk
  ·exact wpAny_loadName_cell I.ok.kind hk hc Ao go
  ·rcases hx with k|k
   ·have:X.env.scope.names.lookup x=some .free:=hk
    rw[k] at this;cases this
   ·have:X.env.scope.names.lookup x=some .free:=hk
    rw[k] at this;cases this
def UW(to ti te:TE)(RT:V->V->Hp->VK->Prop)(Xa:Pk)(RP:Iw):TS:=fun D σ H=>to σ H fun o H1=>ti σ H1 fun i H2=>RT o i H2 fun x H3=>te σ H3 fun y H4=>Xa x y H4 fun z H5=>RP o i z H5 fun H6=>D.nx σ H6
def ZC(X:Cx)(t:V->V->Hp->VK->Prop):Prop:=
 ∀(pins:List (Addr×Obj)) (s:Shared) (σ:St) (H:Hp) (o i:V) (ov iv:Value) (Q:VK),Inv X pins σ H s->RelV o ov->RelV i iv->t o i H Q ->
  wpAny (model X.prog X.w) X.A (getItem ov iv) (EP X pins σ Q) X.xe s
def SE(f:Int->Int->Int):Pk:=fun x y H Q=>∃i j,x=.int i/\y=.int j/\Q (.int (f i j)) H
theorem Ll:Uk X .Add (SE fun i j=>i+j):=by
 intro pins s σ H x y v u Q I r1 r2 h
 obtain⟨i,j,e1,e2,q⟩:=h
 subst e1;subst e2
 obtain⟨t,rfl⟩:=r1
 obtain⟨t',rfl⟩:=r2
 exact iadd_int ⟨.int _,H,I.tok _,⟨_,rfl⟩,q⟩
end
section
variable {X:Cx}{pos:Pos}
def C1(c:TT)(tb:TS):TS:=fun D σ H=>∃W:Nat->St->Hp->Prop,(∃m,W m σ H)/\∀m σ H,W m σ H ->
 c σ H fun b H1=>if b=true then ∃N:St->Hp->Prop,(∀bU H',N bU H'->∃m',m'<m/\W m' bU H')/\tb {D with nx:=N,ct:=N,bk:=D.nx} σ H1 else D.nx σ H1
theorem D1{c:Expr}{body:List Stmt}{tc:TT}{tb:TS}(hp:PassesOwn (model X.prog X.w) X.A X.env X.xe)(hc:PT X c tc)(hb:zD X body tb):PS X (.While c body [] pos) (C1 tc tb):=by
 intro pins s σ H D I h
 obtain⟨W,⟨m0,w0⟩,turn⟩:=h
 refine wpAny_While (codeAny_whileLoop (fun n s'=>∃bU H',Inv X pins bU H' s'/\W n bU H') ?_ m0 ⟨σ,H,I,w0⟩)
 rintro n s1 ⟨yg,H1,I1,w1⟩
 refine wpAny_passesOwn hp (cq (hc pins s1 yg H1 _ I1 (turn n yg H1 w1)) fun b s2 ⟨H2,I2,q2⟩=>?_)
 cases b with
 |true=>
  obtain⟨N,hN,q2⟩:=q2
  rw[if_pos rfl]
  refine wpAny_passesOwn hp (cq (hb pins s2 yg H2 _ I2 q2) fun f s3 q3=>?_)
  cases f with
  |next=>
   obtain⟨we,H3,I3,n3⟩:=q3
   obtain⟨m',hm,w3⟩:=hN we H3 n3
   exact⟨m',hm,we,H3,I3,w3⟩
  |cont=>
   obtain⟨we,H3,I3,n3⟩:=q3
   obtain⟨m',hm,w3⟩:=hN we H3 n3
   exact⟨m',hm,we,H3,I3,w3⟩
  |brk=>exact q3
  |ret v=>exact q3
 |false=>
  rw[if_neg Bool.false_ne_true]
  exact wpAny_execs_nil ⟨yg,H2,I2,q2⟩
end
structure It where
 go:Nat->Hp->Prop
 Mp:Nat->Hp->V->Hp->Prop
 stop:Nat->Hp->Prop
def m7(X:Cx)(pins:List (Addr×Obj))(H:Hp)(b:Addr):Prop:=
 H b=none/\b≠X.env.locals/\b∉X.fs/\(b∈X.ex\/X.gW.heap.objs.size<=b)/\(∀x c,X.env.cells.lookup x=some c->c≠b)/\∀p∈X.pn++pins,p.1≠b
theorem Inv.B9{X:Cx}{pins:List (Addr×Obj)}{σ:St}{H H':Hp}{s:Shared}{b:Addr}(I:Inv X pins σ H s)(hb:s.heap.objs.size<=b)(hn:H' b=none):m7 X pins H' b:=by
 refine⟨hn,Nat.ne_of_gt (Nat.lt_of_lt_of_le I.lt hb),I.NY hb,.inr (Nat.le_trans I.sz hb),fun x c e z=>?_,fun p hp z=>?_⟩
 ·obtain⟨v,q⟩:=I.cell x c e
  exact absurd (Nat.lt_of_lt_of_le q.lt (by rw[z];exact hb)) (Nat.lt_irrefl _)
 ·exact absurd (Nat.lt_of_lt_of_le (Heap.lt_size (I.pin p hp).1) (by rw[z];exact hb)) (Nat.lt_irrefl _)
structure Turn(P:Program)(w:World)(K:PySem.W.Frag)(tg:Expr)(J:It)(fp:List Addr)(it:Addr)(tn:Nat->Heap->Prop):Prop where
 mem:it∈fp
 obj:∀i h,tn i h->∀b∈fp,∃o,h.get? b=some o/\∀v,o.data≠.cell v
 keep:∀i h h',tn i h->(∀b∈fp,∀o,h.get? b=some o->h'.get? b=some o)->tn i h'
 item:∀(X:Cx),X.prog=P->X.w=w->X.K=K->X.calm=true->∀(i:Nat) (pins:List (Addr×Obj)) (s:Shared) (σ:St) (H:Hp) (E:Value->Shared->Prop),Inv X pins σ H s->(∀b∈fp,m7 X pins H b)->tn i s.heap->J.go i H ->
  wpAny (model P w) X.A (pyNext (.ref it)) (fun r s1=>∃u,r=some u /\
   wpAny (model P w) X.A (letOwnedTupleGo tg (.ref it) u) (fun _ s2=>∃x H',Inv X pins σ H' s2/\RelV x u/\J.Mp i H x H'/\tn (i+1) s2.heap/\∀b∈fp,H' b=none) E s1) E s
 done:∀(X:Cx),X.prog=P->X.w=w->X.K=K->X.calm=true->∀(i:Nat) (pins:List (Addr×Obj)) (s:Shared) (σ:St) (H:Hp) (E:Value->Shared->Prop),Inv X pins σ H s->(∀b∈fp,m7 X pins H b)->tn i s.heap->J.stop i H ->
  wpAny (model P w) X.A (pyNext (.ref it)) (fun r s1=>r=none/\Inv X pins σ H s1) E s
 self:∀(A:Around) (i:Nat) (s:Shared) (Q:Value->Shared->Prop) (E:Value->Shared->Prop),tn i s.heap->Q (.ref it) s->wpAny (model P w) A (pyIter (.ref it)) Q E s
abbrev TI:=St->Hp->(It->Hp->Prop)->Prop
def WO(X:Cx)(pins:List (Addr×Obj))(σ:St)(tg:Expr)(R:It->Hp->Prop)(Lh:Value)(s2:Shared):Prop:=
 ∃(it:Addr) (fp:List Addr) (tn:Nat->Heap->Prop) (J:It) (H':Hp),Lh=.ref it/\Inv X pins σ H' s2/\Turn X.prog X.w X.K tg J fp it tn/\tn 0 s2.heap/\(∀b∈fp,m7 X pins H' b)/\R J H'
def PI(X:Cx)(tg iter:Expr)(wi:TI):Prop:=
 ∀(pins:List (Addr×Obj)) (s:Shared) (σ:St) (H:Hp) (R:It->Hp->Prop),Inv X pins σ H s->wi σ H R ->
  wpAny (model X.prog X.w) X.A (eval iter X.env) (fun v s1=>wpAny (model X.prog X.w) X.A (pyIter v) (WO X pins σ tg R) X.xe s1) X.xe s
theorem Ar{M:Model}{A:Around}{E:Value->Shared->Prop}{s:Shared}{tg:Expr}{it:Addr}{u:Value}{o:Obj}{n:String}{vs:Array Value}{Q:Unit->Shared->Prop}(ho:s.heap.get? it=some o)(hc:o.cls=.type n)(hd:o.data=.fields vs)
  (hn:["enumerate", "zip", "dict_itemiterator", "dict_reverseitemiterator", "odict_iterator", "itertools.zip_longest", "itertools.pairwise"].contains n=false) (hQ:Q () s):wpAny M A (letOwnedTupleGo tg (.ref it) u) Q E s:=by
 unfold letOwnedTupleGo
 cases tg<;>first
  |exact wpAny_pure hQ
  |(cases u<;>first
    |exact wpAny_pure hQ
    |(refine wpAny_bind (wpAny_load ho ?_)
      rw[hc,hd]
      show wpAny M A (if (["enumerate", "zip", "dict_itemiterator", "dict_reverseitemiterator", "odict_iterator", "itertools.zip_longest", "itertools.pairwise"].contains n&&vs[0]? == some (rawInt _))=true then _ else _) Q E s
      rw[if_neg (by intro h;rw[hn,Bool.false_and] at h;cases h)]
      exact wpAny_pure hQ))
def Up(K:PySem.W.Frag)(a:Addr):It:=
 ⟨fun i H=>∃xs x,je K H a xs/\xs[i]? = some x,fun i H x H'=>H'=H/\∀xs,je K H a xs->xs[i]? = some x,fun i H=>∃xs,je K H a xs/\xs.length<=i⟩
def Uo(K:PySem.W.Frag)(a:Addr):It:=
 ⟨fun i H=>∃xs x,ox K H a xs/\xs[i]? = some x,fun i H x H'=>H'=H/\∀xs,ox K H a xs->xs[i]? = some x,fun i H=>∃xs,ox K H a xs/\xs.length<=i⟩
def Px(lo:Int)(n:Nat):It:=⟨fun i _=>i<n,fun i H x H'=>H'=H/\x=.int (lo+i),fun i _=>n<=i⟩
theorem A0{P:Program}{w:World}{K:PySem.W.Frag}{tg:Expr}(a it:Addr):Turn P w K tg (Up K a) [it] it (fun i h=>h.IsListIter it a i) where
 mem:=by simp
 obj:=fun i h st b hb=>by
  have e:b=it:=by simpa using hb
  subst e
  obtain⟨o,e,c,d⟩:=st
  exact⟨o,e,fun v z=>by rw[d] at z;cases z⟩
 keep:=fun i h h' st k=>st.at fun o e=>k it (by simp) o e
 item:=by
  intro X hP hw hK hc i pins s σ H E I hf st hg
  subst hP hw hK
  obtain⟨xs,x,hq,hx⟩:=hg
  obtain⟨its,rv,p,hz⟩:=I.list hq
  obtain⟨u,hu,ru⟩:=rv.get hx
  obtain⟨f0,f1,f2,f3,f4,f5⟩:=hf it (by simp)
  refine wpAny_pyNext_list_item st p.isList (x:=u) (by simpa using hu) fun h' Co sb=>?_
  have I1:Inv X pins σ H {s with heap:=h'}:=I.turned (t':=s.toks) (fun b o hb e=>(sb.2 b hb).trans e) f0 f1 f3 f4 f5
  obtain⟨o,e,c,d⟩:=id Co
  exact⟨u,rfl,Ar (s:={s with heap:=h'}) e c d (by decide) ⟨x,H,I1,ru,⟨rfl,fun ys hy=>by rw[I.xv hy hq];exact hx⟩,Co,fun b hb=>(hf b hb).1⟩⟩
 done:=by
  intro X hP hw hK hc i pins s σ H E I hf st hg
  subst hP hw hK
  obtain⟨xs,hq,hx⟩:=hg
  obtain⟨its,rv,p,hz⟩:=I.list hq
  obtain⟨f0,f1,f2,f3,f4,f5⟩:=hf it (by simp)
  have hl:=rv.length
  exact wpAny_pyNext_list_end (I.ok.hd hc) st p.isList (by simp;omega) fun h' eb=>⟨rfl,I.turned (t':=s.toks) (fun b o hb e=>eb b o hb e) f0 f1 f3 f4 f5⟩
 self:=fun _ _ _ _ _ st h=>wpAny_pyIter_listiter st h
theorem yo{P:Program}{w:World}{K:PySem.W.Frag}{tg:Expr}(a it:Addr):Turn P w K tg (Uo K a) [it] it (fun i h=>h.IsTupleIter it a i) where
 mem:=by simp
 obj:=fun i h st b hb=>by
  have e:b=it:=by simpa using hb
  subst e
  obtain⟨o,e,c,d⟩:=st
  exact⟨o,e,fun v z=>by rw[d] at z;cases z⟩
 keep:=fun i h h' st k=>st.at fun o e=>k it (by simp) o e
 item:=by
  intro X hP hw hK hc i pins s σ H E I hf st hg
  subst hP hw hK
  obtain⟨xs,x,hq,hx⟩:=hg
  obtain⟨its,rv,p,hz⟩:=I.tuple hq
  obtain⟨u,hu,ru⟩:=rv.get hx
  obtain⟨f0,f1,f2,f3,f4,f5⟩:=hf it (by simp)
  refine wpAny_pyNext_tuple_item st (show s.heap.IsTuple a its.toArray from p) (x:=u) (by simpa using hu) fun h' Co sb=>?_
  have I1:Inv X pins σ H {s with heap:=h'}:=I.turned (t':=s.toks) (fun b o hb e=>(sb.2 b hb).trans e) f0 f1 f3 f4 f5
  obtain⟨o,e,c,d⟩:=id Co
  exact⟨u,rfl,Ar (s:={s with heap:=h'}) e c d (by decide) ⟨x,H,I1,ru,⟨rfl,fun ys hy=>by rw[I.A4 hy hq];exact hx⟩,Co,fun b hb=>(hf b hb).1⟩⟩
 done:=by
  intro X hP hw hK hc i pins s σ H E I hf st hg
  subst hP hw hK
  obtain⟨xs,hq,hx⟩:=hg
  obtain⟨its,rv,p,hz⟩:=I.tuple hq
  obtain⟨f0,f1,f2,f3,f4,f5⟩:=hf it (by simp)
  have hl:=rv.length
  exact wpAny_pyNext_tuple_end (I.ok.hd hc) st (show s.heap.IsTuple a its.toArray from p) (by simp;omega) fun h' eb=>⟨rfl,I.turned (t':=s.toks) (fun b o hb e=>eb b o hb e) f0 f1 f3 f4 f5⟩
 self:=fun _ _ _ _ _ st h=>wpAny_pyIter_tupleiter st h
theorem yp{P:Program}{w:World}{K:PySem.W.Frag}{tg:Expr}(it:Addr)(lo:Int)(n:Nat):Turn P w K tg (Px lo n) [it] it (fun i h=>IsRangeIter h it (lo+(i:Nat) * 1) ((n:Int)-(i:Nat)) 1) where
 mem:=by simp
 obj:=fun i h st b hb=>by
  have e:b=it:=by simpa using hb
  subst e
  exact⟨_,st,fun v z=>by
   have z':Data.fields _=Data.cell v:=z
   cases z'⟩
 keep:=fun i h h' st k=>k it (by simp) _ st
 item:=by
  intro X hP hw hK hc i pins s σ H E I hf st hg
  subst hP hw hK
  obtain⟨f0,f1,f2,f3,f4,f5⟩:=hf it (by simp)
  have W:=Walks.range (prog:=X.prog) (w:=X.w) (I.ok.hd hc) it lo 1 n
  refine W.item i s _ _ hg st fun v h' tk hv Co kk=>?_
  obtain⟨t,rfl⟩:=hv
  have I1:Inv X pins σ H {s with heap:=h',toks:=tk}:=I.turned (fun b o hb e=>kk b o (by simpa using hb) e) f0 f1 f3 f4 f5
  refine⟨_,rfl,Ar (s:={s with heap:=h',toks:=tk}) (n := "range_iterator") Co rfl rfl (by decide) ⟨.int (lo+i),H,I1,⟨t,?_⟩,⟨rfl,rfl⟩,Co,fun b hb=>(hf b hb).1⟩⟩
  rw[Int.mul_one]
 done:=by
  intro X hP hw hK hc i pins s σ H E I hf st hg
  subst hP hw hK
  obtain⟨f0,f1,f2,f3,f4,f5⟩:=hf it (by simp)
  exact wpAny_pyNext_range_end (I.ok.hd hc) st (by have:n<=i:=hg;omega) fun h' eb=>⟨rfl,I.turned (t':=s.toks) (fun b o hb e=>eb b o hb e) f0 f1 f3 f4 f5⟩
 self:=fun _ _ _ _ _ st h=>wpAny_pyIter_rangeiter st h
end L2
namespace L2
open PySem PySem.Spec PyProof.Rows
section
variable {X:Cx}{tg:Expr}
def Jf(K:PySem.W.Frag)(tl:TE):TI:=fun σ H R=>tl σ H fun x H1=>∃a,x=.ref a/\(∃xs,je K H1 a xs)/\R (Up K a) H1
def Og(K:PySem.W.Frag)(tl:TE):TI:=fun σ H R=>tl σ H fun x H1=>∃a,x=.ref a/\(∃xs,ox K H1 a xs)/\R (Uo K a) H1
theorem Hk{l:Expr}{tl:TE}(hl:PE X l tl):PI X tg l (Jf X.K tl):=by
 intro pins s σ H R I h
 refine cq (hl pins s σ H _ I h) fun v s1 ⟨x,H1,I1,r1,q1⟩=>?_
 obtain⟨a,e,⟨xs,hq⟩,q⟩:=q1
 subst e
 cases r1
 obtain⟨its,rv,p,hz⟩:=I1.list hq
 refine wpAny_pyIter_list p.isList ?_
 refine⟨s1.heap.objs.size,[s1.heap.objs.size],_,_,H1,rfl,I1.kept (t':=s1.toks) fun b o e=>Heap.get?_push_of_some _ e,A0 a _,⟨_,Heap.get?_push_size _ rfl,rfl,rfl⟩,fun b hb=>?_,q⟩
 have e:b=s1.heap.objs.size:=by simpa using hb
 subst e
 exact I1.B9 (Nat.le_refl _) (I1.cb.fresh (Nat.le_refl _))
theorem Kr{l:Expr}{tl:TE}(hl:PE X l tl):PI X tg l (Og X.K tl):=by
 intro pins s σ H R I h
 refine cq (hl pins s σ H _ I h) fun v s1 ⟨x,H1,I1,r1,q1⟩=>?_
 obtain⟨a,e,⟨xs,hq⟩,q⟩:=q1
 subst e
 cases r1
 obtain⟨its,rv,p,hz⟩:=I1.tuple hq
 refine wpAny_pyIter_tuple (show s1.heap.IsTuple a its.toArray from p) ?_
 refine⟨s1.heap.objs.size,[s1.heap.objs.size],_,_,H1,rfl,I1.kept (t':=s1.toks) fun b o e=>Heap.get?_push_of_some _ e,yo a _,⟨_,Heap.get?_push_size _ rfl,rfl,rfl⟩,fun b hb=>?_,q⟩
 have e:b=s1.heap.objs.size:=by simpa using hb
 subst e
 exact I1.B9 (Nat.le_refl _) (I1.cb.fresh (Nat.le_refl _))
theorem DS{pins:List (Addr×Obj)}{σ:St}{H:Hp}{s:Shared}{R:It->Hp->Prop}{E:Value->Shared->Prop}{lo hi:Int}{t u v:Tok}{tk:Nat}(I:Inv X pins σ H s)(h1:-(2 ^ 62)<=lo)(h2:lo<2 ^ 62)(h3:-(2 ^ 62)<=hi)(h4:hi<2 ^ 62)
  (q:R (Px lo (hi-lo).toNat) H):wpAny (model X.prog X.w) X.A (pyIter (.ref s.heap.objs.size)) (WO X pins σ tg R) E {s with heap:=s.heap.push {cls:=.type "range",data:=.fields #[.int lo t,.int hi u,.int 1 v]},toks:=tk}:=by
 refine wpAny_pyIter_range (IsRange.new ..) (small_one h1 h2 h3 h4) ?_
 have I1:Inv X pins σ H {s with heap:=s.heap.push {cls:=.type "range",data:=.fields #[.int lo t,.int hi u,.int 1 v]},toks:=tk}:=I.kept fun b o e=>Heap.get?_push_of_some _ e
 refine⟨(s.heap.push {cls:=.type "range",data:=.fields #[.int lo t,.int hi u,.int 1 v]}).objs.size,[(s.heap.push {cls:=.type "range",data:=.fields #[.int lo t,.int hi u,.int 1 v]}).objs.size],_,_,H,rfl,
  I1.kept (t':=tk) fun b o e=>Heap.get?_push_of_some _ e,yp _ lo (hi-lo).toNat,?_,fun b hb=>?_,q⟩
 ·have e1:lo+((0:Nat):Int) * 1=lo:=by simp
  have e2:(((hi-lo).toNat:Nat):Int)-((0:Nat):Int)=Builtin.Range.rangeSize lo hi 1:=by rw[rangeSize_one];split<;>omega
  show IsRangeIter _ _ (lo+((0:Nat):Int) * 1) ((((hi-lo).toNat:Nat):Int)-((0:Nat):Int)) 1
  rw[e1,e2]
  exact Heap.get?_push_size _ rfl
 ·have e:b=(s.heap.push {cls:=.type "range",data:=.fields #[.int lo t,.int hi u,.int 1 v]}).objs.size:=by simpa using hb
  subst e
  exact I1.B9 (Nat.le_refl _) (I1.cb.fresh (Nat.le_refl _))
def Je(ta:TA):TI:=fun σ H R=>ta σ H fun vs H1=>∃j:Int,vs=[.int j]/\-(2 ^ 62)<=j/\j<2 ^ 62/\R (Px 0 j.toNat) H1
def Vi(ta:TA):TI:=fun σ H R=>ta σ H fun vs H1=>∃i j:Int,vs=[.int i,.int j]/\(-(2 ^ 62)<=i/\i<2 ^ 62/\-(2 ^ 62)<=j/\j<2 ^ 62)/\R (Px i (j-i).toNat) H1
theorem BJ{a:Expr}{ta:TA}{p pos:Pos}(hg:Gl X "range")(hm:X.mg "range" = none)(ha:PA X [a] ta)(hs:starEach [a] X.env=[(false,eval a X.env)]:=by rfl):PI X tg (.Call (.Name "range" p) [a] [] pos) (Je ta):=by
 intro pins s σ H R I h
 refine Call_ (qX I hg hm boot_range (PyProof.Rows.callWith_type1 (cq (ha pos pins s σ H _ I h) fun us s1 ⟨vs,H1,I1,r1,q1⟩=>?_) hs rfl))
 obtain⟨j,e,q1,q2,q⟩:=q1
 subst e
 cases r1 with
 |cons r rr=>
  cases rr
  obtain⟨t,rfl⟩:=r
  exact call_range_1 (DS I1 (by omega) (by omega) q1 q2 (by simpa using q))
def JX(wi:TI)(g:TG)(tb:TS):TS:=fun D σ H=>wi σ H fun J H1=>∃W:Nat->Nat->St->Hp->Prop,(∃m,W 0 m σ H1)/\∀i m σ H,W i m σ H ->
 (J.stop i H/\D.nx σ H)\/(J.go i H/\∃N:St->Hp->Prop,(∀bU H',N bU H'->∃m',m'<m/\W (i+1) m' bU H')/\∀x H',J.Mp i H x H'->g x σ H' fun uO H2=>tb {D with nx:=N,ct:=N,bk:=D.nx} uO H2)
def qH(fp:List Addr)(h:Heap):List (Addr×Obj):=fp.filterMap fun b=>(h.get? b).map fun o=>(b,o)
theorem jx{fp:List Addr}{h:Heap}{b:Addr}{o:Obj}(hb:b∈fp)(e:h.get? b=some o):(b,o)∈qH fp h:=List.mem_filterMap.mpr ⟨b,hb,by rw[e];rfl⟩
theorem BQ{fp:List Addr}{h:Heap}{p:Addr×Obj}(hp:p∈qH fp h):p.1∈fp/\h.get? p.1=some p.2:=by
 obtain⟨b,hb,e⟩:=List.mem_filterMap.mp hp
 cases q:h.get? b with
 |none=>rw[q] at e;cases e
 |some o=>
  rw[q] at e
  have e':(b,o)=p:=Option.some.inj e
  subst e'
  exact⟨hb,q⟩
theorem Inv.pinned{pins:List (Addr×Obj)}{σ:St}{H:Hp}{s:Shared}{fp:List Addr}(I:Inv X pins σ H s)(hf:∀b∈fp,m7 X pins H b)(ho:∀b∈fp,∃o,s.heap.get? b=some o/\∀v,o.data≠.cell v):Inv X (pins++qH fp s.heap) σ H s:=
 I.vj fun p hp=>(List.mem_append.mp hp).elim (fun z=>I.pin p (List.mem_append_right _ z)) fun z=>by
  obtain⟨hb,e⟩:=BQ z
  obtain⟨f0,f1,f2,_⟩:=hf p.1 hb
  obtain⟨o,e',d⟩:=ho p.1 hb
  rw[e] at e';cases e'
  exact⟨e,f0,f1,f2,d⟩
theorem Inv.jW{pins pl:List (Addr×Obj)}{σ:St}{H:Hp}{s:Shared}(I:Inv X (pins++pl) σ H s):Inv X pins σ H s:=I.vj fun p hp=>I.pin p (List.mem_append_right _ (List.mem_append_left _ hp))
theorem D5{iter:Expr}{body:List Stmt}{wi:TI}{g:TG}{tb:TS}{pos:Pos}(hp:PassesOwn (model X.prog X.w) X.A X.env X.xe)(hc:X.calm=true)(hi:PI X tg iter wi)(hg:PG X tg g)(hb:zD X body tb)
  (hs:∀x,foldedSetIterable iter X.env x=pure x:=by intro _;rfl):PS X (.For tg iter body [] pos) (JX wi g tb):=by
 intro pins s σ H D I h
 refine wpAny_For (cq (hi pins s σ H _ I h) fun v s1 h1=>cq h1 fun Lh s2 h2=>?_) hs
 obtain⟨it,fp,tn,J,H2,e,I2,T,yb,f2,W,⟨m0,w0⟩,turn⟩:=h2
 subst e
 have yz:∀{H':Hp},(∀b∈fp,H' b=none)->∀b∈fp,m7 X pins H' b:=fun hn b hb=>⟨hn b hb,(f2 b hb).2⟩
 refine codeAny_forLoop_any (fun n s'=>∃i bU H',Inv X pins bU H' s'/\tn i s'.heap/\(∀b∈fp,H' b=none)/\W i n bU H') ?_ m0 ⟨0,σ,H2,I2,yb,fun b hb=>(f2 b hb).1,w0⟩
 rintro n s3 ⟨i,we,H3,I3,Ba,OT,w3⟩
 rcases turn i n we H3 w3 with⟨stop,qn⟩|⟨go,N,hN,step⟩
 ·refine wpAny_passesOwn hp (cq (T.done X rfl rfl rfl hc i pins s3 we H3 X.xe I3 (yz OT) Ba stop) fun r s4 ⟨hr,I4⟩=>?_)
  subst hr
  exact wpAny_execs_nil ⟨we,H3,I4,qn⟩
 ·refine wpAny_passesOwn hp (cq (T.item X rfl rfl rfl hc i pins s3 we H3 X.xe I3 (yz OT) Ba go) fun r s4 ⟨u,hr,h4⟩=>?_)
  subst hr
  refine wpAny_passesOwn hp (cq h4 fun _ s5 ⟨x,H5,I5,r5,y5,JZ,T4⟩=>?_)
  have Us:=I5.pinned (yz T4) (T.obj _ _ JZ)
  refine wpAny_passesOwn hp (cq (hg _ s5 we H5 x u _ Us r5 (step x H5 y5)) fun _ s6 ⟨PF,H6,I6,q6⟩=>?_)
  refine wpAny_passesOwn hp (cq (hb _ s6 PF H6 _ I6 q6) fun f s7 q7=>?_)
  have again:∀{wd:St}{H7:Hp},Inv X (pins++qH fp s5.heap) wd H7 s7->N wd H7->∃m,m<n/\∃i bU H',Inv X pins bU H' s7/\tn i s7.heap/\(∀b∈fp,H' b=none)/\W i m bU H':=fun{wd H7} I7 n7=>by
   obtain⟨m',hm,w7⟩:=hN wd H7 n7
   refine⟨m',hm,i+1,wd,H7,I7.jW,T.keep _ _ _ JZ fun b hb o e=>(I7.pin (b,o) (List.mem_append_right _ (List.mem_append_right _ (jx hb e)))).1,fun b hb=>?_,w7⟩
   obtain⟨o,e,d⟩:=T.obj _ _ JZ b hb
   exact(I7.pin (b,o) (List.mem_append_right _ (List.mem_append_right _ (jx hb e)))).2.1
  cases f with
  |next=>obtain⟨wd,H7,I7,n7⟩:=q7;exact again I7 n7
  |cont=>obtain⟨wd,H7,I7,n7⟩:=q7;exact again I7 n7
  |brk=>obtain⟨wd,H7,I7,q7⟩:=q7;exact⟨wd,H7,I7.jW,q7⟩
  |ret v=>obtain⟨x7,wd,H7,I7,r7,q7⟩:=q7;exact⟨x7,wd,H7,I7.jW,r7,q7⟩
end
end L2
namespace L2
open PySem PySem.Spec PyProof.Rows
abbrev R2:=V->V->Hp->VK->Prop
def jf(X:Cx)(f:Value->Value->Sem Value)(r:R2):Prop:=
 ∀(pins:List (Addr×Obj)) (s:Shared) (σ:St) (H:Hp) (x y:V) (v u:Value) (Q:VK),Inv X pins σ H s->RelV x v->RelV y u->r x y H Q ->
  wpAny (model X.prog X.w) X.A (f v u) (EP X pins σ Q) X.xe s
def Ui(X:Cx)(f:Value->Sem Value)(r:V->Hp->VK->Prop):Prop:=
 ∀(pins:List (Addr×Obj)) (s:Shared) (σ:St) (H:Hp) (x:V) (v:Value) (Q:VK),Inv X pins σ H s->RelV x v->r x H Q ->
  wpAny (model X.prog X.w) X.A (f v) (EP X pins σ Q) X.xe s
def gT(X:Cx)(f:Value)(r:List V->Hp->VK->Prop):Prop:=
 ∀(pins:List (Addr×Obj)) (s:Shared) (σ:St) (H:Hp) (xs:List V) (us:List Value) (Q:VK),Inv X pins σ H s->Vals xs us->r xs H Q ->
  wpAny (model X.prog X.w) X.A (call f us) (EP X pins σ Q) X.xe s
def Uj(X:Cx)(r:V->Hp->(Bool->Hp->Prop)->Prop):Prop:=
 ∀(pins:List (Addr×Obj)) (s:Shared) (σ:St) (H:Hp) (x:V) (v:Value) (Q:Bool->Hp->Prop),Inv X pins σ H s->RelV x v->r x H Q ->
  wpAny (model X.prog X.w) X.A (truthy v) (TP X pins σ Q) X.xe s
def Gw(r:R2)(ta tb:TE):TE:=fun σ H Q=>ta σ H fun x H1=>tb σ H1 fun y H2=>r x y H2 Q
def UJ(r:V->Hp->VK->Prop)(ta:TE):TE:=fun σ H Q=>ta σ H fun x H1=>r x H1 Q
def rI(C:Int->Int->Prop)(g:Int->Int->V):R2:=fun x y H Q=>∃i j,x=.int i/\y=.int j/\C i j/\Q (g i j) H
def yN(g:Int->Int->V):R2:=fun x y H Q=>∃i j,x=.int i/\y=.int j/\Q (g i j) H
def rU(g:Int->V):V->Hp->VK->Prop:=fun x H Q=>∃i,x=.int i/\Q (g i) H
section
variable {X:Cx}{a b c:Expr}{ta tb tc:TE}{pos:Pos}
theorem Mc(ha:PE X a ta)(hb:PE X b tb){pins:List (Addr×Obj)}{s:Shared}{σ:St}{H:Hp}{R:V->V->Hp->Prop}(I:Inv X pins σ H s)
  (h:ta σ H fun x H1=>tb σ H1 fun y H2=>R x y H2) {Q:Value->Shared->Prop}{f:Value->Value->Sem Value}
  (hf:∀v u s2 x y H2,Inv X pins σ H2 s2->RelV x v->RelV y u->R x y H2->wpAny (model X.prog X.w) X.A (f v u) Q X.xe s2) :
  wpAny (model X.prog X.w) X.A (eval a X.env) (fun v cG=>wpAny (model X.prog X.w) X.A (eval b X.env) (fun u nv=>wpAny (model X.prog X.w) X.A (f v u) Q X.xe nv) X.xe cG) X.xe s:=by
 refine cq (ha pins s σ H _ I h) fun v s1 ⟨x,H1,I1,r1,q1⟩=>?_
 refine cq (hb pins s1 σ H1 _ I1 q1) fun u s2 ⟨y,H2,I2,r2,q2⟩=>?_
 exact hf v u s2 x y H2 I2 r1 r2 q2
theorem NL{op:Operator}{r:R2}(ho:jf X (binaryOp op) r)(ha:PE X a ta)(hb:PE X b tb):PE X (.BinOp a op b pos) (Gw r ta tb):=by
 intro pins s σ H Q I h
 exact wpAny_BinOp (Mc ha hb I h fun v u s2 x y H2 I2 rx ry q=>ho pins s2 σ H2 x y v u Q I2 rx ry q)
theorem NK{op:UnaryOp}{r:V->Hp->VK->Prop}(ho:Ui X (unaryOp op) r)(ha:PE X a ta):PE X (.UnaryOp op a pos) (UJ r ta):=by
 intro pins s σ H Q I h
 exact UnaryOp_ (cq (ha pins s σ H _ I h) fun v s1 ⟨x,H1,I1,r1,q1⟩=>ho pins s1 σ H1 x v Q I1 r1 q1)
theorem QD{f:Value->Value->Sem Value}{C:Int->Int->Prop}{g:Int->Int->Int}
  (rule:∀(i j:Int) (t u:Tok) (s:Shared) (Q:Value->Shared->Prop) (E:Value->Shared->Prop),C i j->Q (.int (g i j) s.toks) {s with toks:=s.toks+1}->wpAny (model X.prog X.w) X.A (f (.int i t) (.int j u)) Q E s) :
  jf X f (rI C fun i j=>.int (g i j)):=by
 intro pins s σ H x y v u Q I rx ry h
 obtain⟨i,j,rfl,rfl,hc,q⟩:=h
 obtain⟨t,rfl⟩:=rx
 obtain⟨t',rfl⟩:=ry
 exact rule i j t t' s _ _ hc ⟨.int (g i j),H,I.tok _,⟨_,rfl⟩,q⟩
theorem NS{f:Value->Value->Sem Value}{g:Int->Int->Int}
  (rule:∀(i j:Int) (t u:Tok) (s:Shared) (Q:Value->Shared->Prop) (E:Value->Shared->Prop),Q (.int (g i j) s.toks) {s with toks:=s.toks+1}->wpAny (model X.prog X.w) X.A (f (.int i t) (.int j u)) Q E s) :
  jf X f (yN fun i j=>.int (g i j)):=by
 intro pins s σ H x y v u Q I rx ry h
 obtain⟨i,j,rfl,rfl,q⟩:=h
 obtain⟨t,rfl⟩:=rx
 obtain⟨t',rfl⟩:=ry
 exact rule i j t t' s _ _ ⟨.int (g i j),H,I.tok _,⟨_,rfl⟩,q⟩
theorem HA{f:Value->Value->Sem Value}{g:Int->Int->Bool}
  (rule:∀(i j:Int) (t u:Tok) (s:Shared) (Q:Value->Shared->Prop) (E:Value->Shared->Prop),Q (.bool (g i j)) s->wpAny (model X.prog X.w) X.A (f (.int i t) (.int j u)) Q E s) :
  jf X f (yN fun i j=>.bl (g i j)):=by
 intro pins s σ H x y v u Q I rx ry h
 obtain⟨i,j,rfl,rfl,q⟩:=h
 obtain⟨t,rfl⟩:=rx
 obtain⟨t',rfl⟩:=ry
 exact rule i j t t' s _ _ ⟨.bl (g i j),H,I,rfl,q⟩
def ZH(i j:Int):Prop:=0<j/\j<1073741824
def WV(i j:Int):Prop:=j≠0/\j.natAbs<1073741824
def ya(i j:Int):Prop:=0<=j/\j<=1000000/\i.natAbs<2 ^ 64
def jV(i j:Int):Prop:=(-(2 ^ 64)<i/\i<2 ^ 64)\/(-(2 ^ 64)<j/\j<2 ^ 64)
theorem jV.ok{i j:Int}(h:jV i j):IntMulOk i j:=by
 rcases h with⟨h1,h2⟩|⟨h1,h2⟩
 ·exact .of_left (intBits_le_64 h1 h2)
 ·exact .of_right (intBits_le_64 h1 h2)
theorem fQ:jf X (binaryOp .Add) (yN fun i j=>.int (i+j)):=NS fun _ _ _ _ _ _ _ q=>add_int q
theorem yW:jf X (binaryOp .Sub) (yN fun i j=>.int (i-j)):=NS fun _ _ _ _ _ _ _ q=>sub_int q
theorem iT:jf X (binaryOp .Mult) (rI jV fun i j=>.int (i * j)):=QD fun _ _ _ _ _ _ _ hc q=>mul_int q hc.ok
theorem gq:jf X (binaryOp .Mod) (rI (fun _ j=>0<j) fun i j=>.int (i % j)):=QD fun i j _ _ _ _ _ hc q=>by
 have h1:(0:Int)<j:=hc
 exact mod_int' (by omega) (by rw[Int.fmod_eq_emod_of_nonneg i (by omega)];exact q)
theorem yX:jf X (binaryOp .Pow) (rI ya fun i j=>.int (i ^ j.toNat)):=QD fun _ _ _ _ _ _ _ hc q=>pow_int_small hc.1 hc.2.1 hc.2.2 q
theorem W6{f:Value->Sem Value}{g:Int->Int}
  (rule:∀(i:Int) (t:Tok) (s:Shared) (Q:Value->Shared->Prop) (E:Value->Shared->Prop),Q (.int (g i) s.toks) {s with toks:=s.toks+1}->wpAny (model X.prog X.w) X.A (f (.int i t)) Q E s) :
  Ui X f (rU fun i=>.int (g i)):=by
 intro pins s σ H x v Q I rx h
 obtain⟨i,rfl,q⟩:=h
 obtain⟨t,rfl⟩:=rx
 exact rule i t s _ _ ⟨.int (g i),H,I.tok _,⟨_,rfl⟩,q⟩
theorem JO:Ui X (unaryOp .USub) (rU fun i=>.int (-i)):=W6 fun _ _ _ _ _ q=>neg_int q
end
def DC:V->V->Bool
 | .bJ,.bJ=>true | .bJ,.int _=>true | .int _,.bJ=>true | .bJ,.bl _=>true | .bl _,.bJ=>true | .bJ,.str _=>true | .str _,.bJ=>true
 | .int _,.int _=>true | .bl _,.bl _=>true | .str _,.str _=>true | .vU _,.vU _=>true
 | .int _,.str _=>true | .str _,.int _=>true | .bl _,.str _=>true | .str _,.bl _=>true
 |_,_=>false
def U8:R2:=fun x y H Q=>DC x y=true/\Q (.bl (decide (x=y))) H
def U7:R2:=fun x y H Q=>DC x y=true/\Q (.bl (!decide (x=y))) H
theorem AB{i j:Int}:decide (V.int i=V.int j)=(i==j):=by
 rw[Bool.eq_iff_iff]
 simp
theorem Fo{i j:Bool}:decide (V.bl i=V.bl j)=(i==j):=by
 rw[Bool.eq_iff_iff]
 simp
theorem Az{i j:Str}:decide (V.str i=V.str j)=(i==j):=by
 rw[Bool.eq_iff_iff]
 simp
theorem AD{i j:Array UInt8}:decide (V.vU i=V.vU j)=(i.toList==j.toList):=by
 rw[Bool.eq_iff_iff]
 cases i
 cases j
 simp
section
variable {X:Cx}{a b c:Expr}{ta tb tc:TE}{pos:Pos}
theorem bX{pins:List (Addr×Obj)}{σ:St}{H:Hp}{s:Shared}{Q:VK}{k k':Bool}(I:Inv X pins σ H s)(q:Q (.bl k) H)(e:k=k'):EP X pins σ Q (.bool k') s:=by
 subst e
 exact⟨.bl k,H,I,rfl,q⟩
theorem eE:jf X (compareOp .Eq) U8:=by
 intro pins s σ H x y v u Q I rx ry h
 obtain⟨hs,q⟩:=h
 cases x with
 |bJ=>
  cases rx
  cases y with
  |bJ=>cases ry;exact PySem.EqNone.eq_none_none (bX I q (by simp))
  |bl j=>cases ry;exact PySem.EqNone.eq_none_bool (bX I q (by simp))
  |int j=>obtain⟨t',rfl⟩:=ry;exact PySem.EqNone.eq_none_int (bX I q (by simp))
  |str j=>obtain⟨t',rfl⟩:=ry;exact PySem.EqNone.eq_none_str (bX I q (by simp))
  |_=>exact absurd (show false=true from hs) Bool.false_ne_true
 |bl i=>
  cases rx
  cases y with
  |bJ=>cases ry;exact PySem.EqNone.eq_bool_none (bX I q (by simp))
  |bl j=>cases ry;exact eq_bool (bX I q Fo)
  |str j=>obtain⟨t',rfl⟩:=ry;exact PySem.EqMixed.eq_bool_str (bX I q (by simp))
  |_=>exact absurd (show false=true from hs) Bool.false_ne_true
 |int i=>
  obtain⟨t,rfl⟩:=rx
  cases y with
  |bJ=>cases ry;exact PySem.EqNone.eq_int_none (bX I q (by simp))
  |int j=>obtain⟨t',rfl⟩:=ry;exact eq_int (bX I q AB)
  |str j=>obtain⟨t',rfl⟩:=ry;exact PySem.EqMixed.eq_int_str (bX I q (by simp))
  |_=>exact absurd (show false=true from hs) Bool.false_ne_true
 |str i=>
  obtain⟨t,rfl⟩:=rx
  cases y with
  |bJ=>cases ry;exact PySem.EqNone.eq_str_none (bX I q (by simp))
  |bl j=>cases ry;exact PySem.EqMixed.eq_str_bool (bX I q (by simp))
  |int j=>obtain⟨t',rfl⟩:=ry;exact PySem.EqMixed.eq_str_int (bX I q (by simp))
  |str j=>obtain⟨t',rfl⟩:=ry;exact eq_str (bX I q Az)
  |_=>exact absurd (show false=true from hs) Bool.false_ne_true
 |vU i=>
  obtain⟨t,rfl⟩:=rx
  cases y with
  |vU j=>obtain⟨t',rfl⟩:=ry;exact PySem.W.eq_bytes (bX I q AD)
  |_=>exact absurd (show false=true from hs) Bool.false_ne_true
 |_=>cases y<;>exact absurd (show false=true from hs) Bool.false_ne_true
theorem Ae:jf X (compareOp .NotEq) U7:=by
 intro pins s σ H x y v u Q I rx ry h
 obtain⟨hs,q⟩:=h
 cases x with
 |bJ=>
  cases rx
  cases y with
  |bJ=>cases ry;exact PySem.EqNone.ne_none_none (bX I q (by simp))
  |bl j=>cases ry;exact PySem.EqNone.ne_none_bool (bX I q (by simp))
  |int j=>obtain⟨t',rfl⟩:=ry;exact PySem.EqNone.ne_none_int (bX I q (by simp))
  |str j=>obtain⟨t',rfl⟩:=ry;exact PySem.EqNone.ne_none_str (bX I q (by simp))
  |_=>exact absurd (show false=true from hs) Bool.false_ne_true
 |bl i=>
  cases rx
  cases y with
  |bJ=>cases ry;exact PySem.EqNone.ne_bool_none (bX I q (by simp))
  |bl j=>cases ry;exact ne_bool (bX I q (congrArg not Fo))
  |str j=>obtain⟨t',rfl⟩:=ry;exact PySem.EqMixed.ne_bool_str (bX I q (by simp))
  |_=>exact absurd (show false=true from hs) Bool.false_ne_true
 |int i=>
  obtain⟨t,rfl⟩:=rx
  cases y with
  |bJ=>cases ry;exact PySem.EqNone.ne_int_none (bX I q (by simp))
  |int j=>obtain⟨t',rfl⟩:=ry;exact ne_int (bX I q (congrArg not AB))
  |str j=>obtain⟨t',rfl⟩:=ry;exact PySem.EqMixed.ne_int_str (bX I q (by simp))
  |_=>exact absurd (show false=true from hs) Bool.false_ne_true
 |str i=>
  obtain⟨t,rfl⟩:=rx
  cases y with
  |bJ=>cases ry;exact PySem.EqNone.ne_str_none (bX I q (by simp))
  |bl j=>cases ry;exact PySem.EqMixed.ne_str_bool (bX I q (by simp))
  |int j=>obtain⟨t',rfl⟩:=ry;exact PySem.EqMixed.ne_str_int (bX I q (by simp))
  |str j=>obtain⟨t',rfl⟩:=ry;exact ne_str (bX I q (congrArg not Az))
  |_=>exact absurd (show false=true from hs) Bool.false_ne_true
 |vU i=>
  obtain⟨t,rfl⟩:=rx
  cases y with
  |vU j=>obtain⟨t',rfl⟩:=ry;exact PySem.W.ne_bytes (bX I q (congrArg not AD))
  |_=>exact absurd (show false=true from hs) Bool.false_ne_true
 |_=>cases y<;>exact absurd (show false=true from hs) Bool.false_ne_true
theorem xb:jf X (compareOp .Lt) (yN fun i j=>.bl (decide (i<j))):=HA fun _ _ _ _ _ _ _ q=>lt_int q
theorem NQ:jf X (compareOp .LtE) (yN fun i j=>.bl (decide (i<=j))):=HA fun _ _ _ _ _ _ _ q=>le_int q
theorem I_:jf X (compareOp .Gt) (yN fun i j=>.bl (decide (j<i))):=HA fun _ _ _ _ _ _ _ q=>gt_int q
theorem NR:jf X (compareOp .GtE) (yN fun i j=>.bl (decide (j<=i))):=HA fun _ _ _ _ _ _ _ q=>ge_int q
def isObj:HO->Bool
 | .lst _=>true
 | .ins _ _ _=>true
 |_=>false
theorem jf.or{f:Value->Value->Sem Value}{r r':R2}(h:jf X f r)(h':jf X f r'):jf X f (fun x y H Q=>r x y H Q\/r' x y H Q):=by
 intro pins s σ H x y v u Q I rx ry q
 rcases q with q|q
 ·exact h pins s σ H x y v u Q I rx ry q
 ·exact h' pins s σ H x y v u Q I rx ry q
theorem bp(b:Expr){op:CmpOp}(h:op≠.In:=by decide)(h2:op≠.NotIn:=by decide):behindInMarks op b=false:=by
 have e1:(op==CmpOp.In)=false:=by cases op<;>first|rfl|exact absurd rfl h
 have e2:(op==CmpOp.NotIn)=false:=by cases op<;>first|rfl|exact absurd rfl h2
 cases b<;>simp[behindInMarks,e1,e2]
theorem Hu{op:CmpOp}{r:R2}(ho:jf X (compareOp op) r)(ha:PE X a ta)(hb:PE X b tb)(hm:behindInMarks op b=false):PE X (.Compare a [op] [b] pos) (Gw r ta tb):=by
 intro pins s σ H Q I h
 exact wpAny_Compare1 (Mc ha hb I h fun v u s2 x y H2 I2 rx ry q=>ho pins s2 σ H2 x y v u Q I2 rx ry q) hm
def C3(t:TE):TT:=fun σ H Q=>t σ H fun x H'=>∃k,x=.bl k/\Q k H'
theorem Hd{op:CmpOp}{r:R2}(ho:jf X (compareOp op) r)(ha:PE X a ta)(hb:PE X b tb)(hm:behindInMarks op b=false):PT X (.Compare a [op] [b] pos) (C3 (Gw r ta tb)):=by
 intro pins s σ H Q I h
 refine wpAny_isTrue_Compare1 (cq (ha pins s σ H _ I h) fun v s1 ⟨x,H1,I1,r1,q1⟩=>cq (hb pins s1 σ H1 _ I1 q1) fun u s2 ⟨y,H2,I2,r2,q2⟩=>
  cq (ho pins s2 σ H2 x y v u _ I2 r1 r2 q2) fun c s3 ⟨z,H3,I3,r3,k,e,q3⟩=>?_) hm
 subst e
 cases r3
 exact wpAny_truthy_bool ⟨H3,I3,q3⟩
def C8(r r':R2)(ta tb tc:TE):TE:=fun σ H Q=>ta σ H fun x H1=>tb σ H1 fun y H2=>r x y H2 fun z H3=>∃k,z=.bl k /\
 (if k=true then tc σ H3 fun w' H4=>r' y w' H4 Q else Q (.bl false) H3)
theorem DZ{op KY:CmpOp}{r r':R2}(ho:jf X (compareOp op) r)(gh:jf X (compareOp KY) r')(ha:PE X a ta)(hb:PE X b tb)(hc:PE X c tc)
  (hm:lastMarks [op,KY] [b,c]=false:=by with_unfolding_all rfl):PT X (.Compare a [op,KY] [b,c] pos) (C3 (C8 r r' ta tb tc)):=by
 intro pins s σ H Q I h
 refine isTrue_chain (cq (ha pins s σ H _ I h) fun v s1 ⟨x,H1,I1,r1,q1⟩=>test_link (cq (hb pins s1 σ H1 _ I1 q1) fun u s2 ⟨y,H2,I2,r2,q2⟩=>
  cq (ho pins s2 σ H2 x y v u _ I2 r1 r2 q2) fun d s3 ⟨z,H3,I3,r3,k,e,q3⟩=>?_)) hm
 subst e
 cases r3
 refine wpAny_truthy_bool ?_
 cases k with
 |false=>
  obtain⟨k',e',q'⟩:=q3
  cases e'
  exact ite_ff ⟨H3,I3,q'⟩
 |true=>
  refine ite_tt (test_last (cq (hc pins s3 σ H3 _ I3 q3) fun w' s4 ⟨z',H4,I4,r4,q4⟩=>cq (gh pins s4 σ H4 y z' u w' _ I4 r2 r4 q4) fun d' s5 ⟨z2,H5,I5,r5,k2,e2,q5⟩=>?_))
  subst e2
  cases r5
  exact wpAny_truthy_bool ⟨H5,I5,q5⟩
def Mf(K:PySem.W.Frag)(x:V)(H:Hp)(k:Bool):Prop:=
 match x with
 | .bJ=>k=false
 | .bl b=>k=b
 | .int i=>k=(i != 0)
 | .str y=>y.length<=sizeLine/\k=((y.length:Int) != 0)
 | .vU y=>y.size<=sizeLine/\k=((y.size:Int) != 0)
 | .ref p=>(∃xs,je K H p xs/\k = !xs.isEmpty)\/(∃xs,ox K H p xs/\k = !xs.isEmpty)\/∃aw,H p=some (.dK aw)/\k = !aw.isEmpty
 |_=>False
theorem y9{κ:Type}{aw:List (κ×V)}{vs:List (κ×Value)}(r:KV aw vs):(!vs.isEmpty) = !aw.isEmpty:=by
 cases r<;>rfl
theorem q9{xs:List V}{its:List Value}(r:Vals xs its):(!its.toArray.isEmpty) = !xs.isEmpty:=by
 cases r<;>simp
theorem n6:(sizeLine:Nat)<2 ^ 63:=by rw[sizeLine_eq];decide
theorem JP:Uj X (fun x H Q=>∃k,Mf X.K x H k/\Q k H):=by
 intro pins s σ H x v Q I rx h
 obtain⟨k,e,q⟩:=h
 have hl:=n6
 have hs:sizeLine=16777216:=sizeLine_eq
 cases x with
 |bJ=>
  cases rx
  have e':k=false:=e
  subst e'
  exact truthy_none ⟨H,I,q⟩
 |bl b=>
  cases rx
  have e':k=b:=e
  subst e'
  exact wpAny_truthy_bool ⟨H,I,q⟩
 |int i=>
  obtain⟨t,rfl⟩:=rx
  have e':k=(i != 0):=e
  subst e'
  exact PySem.P.truthy_int ⟨H,I,q⟩
 |str y=>
  obtain⟨t,rfl⟩:=rx
  obtain⟨hy,e'⟩:y.length<=sizeLine/\k=((y.length:Int) != 0):=e
  subst e'
  exact PySem.P.truthy_str (by omega) ⟨H,I.tok _,q⟩
 |vU y=>
  obtain⟨t,rfl⟩:=rx
  obtain⟨hy,e'⟩:y.size<=sizeLine/\k=((y.size:Int) != 0):=e
  subst e'
  exact PySem.W.truthy_bytes (by omega) ⟨H,I.tok _,q⟩
 |ref p=>
  cases rx
  have e':(∃xs,je X.K H p xs/\k = !xs.isEmpty)\/(∃xs,ox X.K H p xs/\k = !xs.isEmpty)\/∃aw,H p=some (.dK aw)/\k = !aw.isEmpty:=e
  rcases e' with⟨xs,hx,e'⟩|⟨xs,hx,e'⟩|⟨aw,hx,e'⟩
  ·subst e'
   obtain⟨its,r,pl,hz⟩:=I.list hx
   have hlen:=r.length
   exact wpAny_truthy_list pl.isList (by simp only[List.size_toArray];omega) ⟨H,I.tok _,by rw[q9 r];exact q⟩
  ·subst e'
   obtain⟨its,r,pl,hz⟩:=I.tuple hx
   have hlen:=r.length
   exact truthy_tuple pl (by simp only[List.size_toArray];omega) ⟨H,I.tok _,by rw[q9 r];exact q⟩
  ·subst e'
   obtain⟨hz,hS,vs,r,m⟩:aw.length<=sizeLine/\(p==sysModules)=false/\∃vs,KV aw vs/\s.heap.DictOf (bA X.prog X.w) p vs:=I.cb p _ hx
   have hlen:aw.length=vs.length:=Paired.length r
   exact wpAny_truthy_dict hS m (by omega) ⟨H,I.tok _,by rw[y9 r];exact q⟩
 |_=>exact(show False from e).elim
theorem DY(ha:PE X a ta)(he:∀whole,isTrue a X.env whole=(do let v <-whole;standAt a.pos;holding [v] (truthy v))) :
  PT X a (fun σ H Q=>ta σ H fun x H'=>∃k,Mf X.K x H' k/\Q k H'):=by
 intro pins s σ H Q I h
 exact isTrue_plain (cq (ha pins s σ H _ I h) fun v s1 ⟨x,H1,I1,r1,q1⟩=>JP pins s1 σ H1 x v Q I1 r1 q1) (he _)
theorem lE:jf X (binaryOp .Add) (fun x y H Q=>∃i j,x=.str i/\y=.str j/\i.length+j.length<=sizeLine/\Q (.str (i++j)) H):=by
 intro pins s σ H x y v u Q I rx ry h
 obtain⟨i,j,rfl,rfl,hz,q⟩:=h
 obtain⟨t,rfl⟩:=rx
 obtain⟨t',rfl⟩:=ry
 exact add_str (fun t' tk=>⟨.str (i++j),H,I.tok _,⟨_,rfl⟩,q⟩) hz
def Pl(b:Expr):Prop:=∀o i,subscripted b false o i=operate [o,i] (getItem o i)
theorem vals1{x:V}{us:List Value}(r:Vals [x] us):∃u,us=[u]/\RelV x u:=by
 cases r with
 |cons r1 r2=>cases r2;exact⟨_,rfl,r1⟩
def ZD(K:PySem.W.Frag)(x:V)(H:Hp)(n:Nat):Prop:=
 match x with
 | .str y=>y.length<=sizeLine/\n=y.length
 | .vU y=>y.size<=sizeLine/\n=y.size
 | .ref p=>(∃xs,je K H p xs/\n=xs.length)\/∃xs,ox K H p xs/\n=xs.length
 |_=>False
end
end L2
namespace L2
open PySem PySem.Spec PyProof.Rows
structure Pq(h:Heap)(x dx C:Addr)(mA:Str->Option Value):Prop where
 obj:h.get? x=some (PySem.W.instObj C dx)
 ns:h.Ns1 dx mA
 ne:dx≠x
theorem BU{h:Heap}{dx:Addr}{mA:Str->Option Value}(n:h.Ns1 dx mA):∃od,h.get? dx=some od/\∀name,PySem.W.lookIn name od=some (mA name):=by
 obtain⟨o,es,ep,ho,hd,hk,_,hm⟩:=n
 refine⟨o,ho,fun name=>?_⟩
 have e:=hm name
 unfold nsFind findBy at e
 rw[<-Array.find?_toList] at e
 unfold PySem.W.lookIn
 rw[hd]
 dsimp only
 split
 ·rename_i y q
  rw[q] at e
  exact congrArg some e
 ·rename_i q
  rw[q] at e
  have a:es.toList.any (·.refKey)=false:=by
   rw[List.any_eq_false]
   intro y hy
   obtain⟨z,t,B5⟩:=hk y (Array.mem_toList_iff.mp hy)
   simp[DictEntry.refKey,B5]
  have a':¬es.toList.any (·.refKey)=true:=by rw[a];exact Bool.false_ne_true
  rw[if_neg a']
  exact congrArg some e
theorem Pq.look{h:Heap}{x dx C:Addr}{mA:Str->Option Value}(I:Pq h x dx C mA):∃od,PySem.W.InstAt h x (PySem.W.instObj C dx) C (some od)/\∀name,PySem.W.lookIn name od=some (mA name):=
 let ⟨od,ho,hl⟩:=BU I.ns
 ⟨od,⟨I.obj,rfl,rfl,ho⟩,hl⟩
section
variable {prog:Program}{w:World}{A:Around}{E:Value->Shared->Prop}{s:Shared}{K:PySem.W.Frag}{x dx C f:Addr}{mA:Str->Option Value}{name:Str}{v:Value}
end
def Kj(f:Str)(v:V):List (Str×V)->List (Str×V)
 | []=>[(f,v)]
 |(g,x)::r=>if g=f then(g,v)::r else(g,x)::Kj f v r
theorem oA.some_of{v:V}{o:Option Value}(r:oA (some v) o):∃u,o=some u/\RelV v u:=by
 cases o with
 |none=>exact(show False from r).elim
 |some u=>exact⟨u,rfl,r⟩
section
variable {P:Program}{w:World}{H H':Hp}{h h':Heap}{a C dx:Addr}{fs LR:List (Str×V)}
end
structure Mj(K:PySem.W.Frag)(C:Addr):Prop where
 pg:PySem.W.plainGet K C Str.empty=true
 hd:PySem.W.hasDictIn K C=true
 po:PySem.W.plainOver K C=true
 sa:PySem.W.findIn K (.ref C) "__setattr__" = some (some (.builtin "object.__setattr__"))
theorem Mj.get{K:PySem.W.Frag}{C:Addr}(c:Mj K C)(f:Str):PySem.W.plainGet K C f=true:=c.pg
def zE(K:PySem.W.Frag)(C:Addr)(f:Str):Prop:=PySem.W.findIn K (.ref C) f=some none
structure ZG(K:PySem.W.Frag)(C:Addr)(f:Str)(v:V)(u:Value):Prop where
 at_:PySem.W.findIn K (.ref C) f=some (some u)
 rel:RelV v u
 get:PySem.W.specialIn K u "__get__" = some none
 cp:PySem.W.copiedNames.contains f=false
structure Meth(K:PySem.W.Frag)(C:Addr)(m:Str)(f:Addr):Prop where
 at_:PySem.W.findIn K (.ref C) m=some (some (.ref f))
 fn:PySem.W.isFn K (.ref f)=true
 kp:PySem.W.keepIn K (.ref f)=true
section
variable {X:Cx}{pins:List (Addr×Obj)}{σ:St}{H:Hp}{s:Shared}{a C dx:Addr}{fs:List (Str×V)}{f:Str}{v:V}{A:Around}{E:Value->Shared->Prop}
theorem Inv.made(I:Inv X pins σ H s):Inv X pins σ (upd (upd H s.heap.objs.size (.own (s.heap.objs.size+1))) (s.heap.objs.size+1) (.ins C s.heap.objs.size []))
  {s with heap:=(s.heap.push PySem.W.emptyDict).push (PySem.W.instObj C s.heap.objs.size)}:=by
 have e1:(s.heap.push PySem.W.emptyDict).get? s.heap.objs.size=some PySem.W.emptyDict:=Heap.get?_push_size s.heap rfl
 have e2:((s.heap.push PySem.W.emptyDict).push (PySem.W.instObj C s.heap.objs.size)).get? (s.heap.objs.size+1)=some (PySem.W.instObj C s.heap.objs.size):=by
  have:=Heap.get?_push_size (s.heap.push PySem.W.emptyDict) (o:=PySem.W.instObj C s.heap.objs.size) rfl
  rwa [Heap.size_push] at this
 have e3:(s.heap.push PySem.W.emptyDict).Ns s.heap.objs.size (fun _=>none):=⟨PySem.W.emptyDict,#[],_,e1,rfl,(fun e he=>absurd he (by simp)),fun _=>rfl⟩
 have I1:=I.laid (a:=s.heap.objs.size) (o:=.own (s.heap.objs.size+1)) (h':=s.heap.push PySem.W.emptyDict) (t':=s.toks) (fun b u q=>Heap.get?_push_of_some _ q) (Nat.le_refl _) ⟨_,e1⟩
 refine I1.laid (a:=s.heap.objs.size+1) (o:=.ins C s.heap.objs.size []) (t':=s.toks) (fun b u q=>Heap.get?_push_of_some _ q) (Nat.le_of_eq (Heap.size_push _ _)) ?_
 have ne:s.heap.objs.size≠s.heap.objs.size+1:=Nat.ne_of_lt (Nat.lt_succ_self _)
 refine⟨by rw[aE ne,aB],Nat.zero_le _,ne,e2,fun _=>none,(Heap.Ns1.of_empty e3).at fun o q=>Heap.get?_push_of_some _ q,fun _=>True.intro,fun y hy=>absurd rfl hy⟩
end
def Xj(K:PySem.W.Frag)(ta:TE)(f:Str):TE:=fun σ H Q=>ta σ H fun x H1=>∃a C dx fs v,x=.ref a/\H1 a=some (.ins C dx fs)/\Mj K C/\zE K C f/\fs.lookup f=some v/\Q v H1
def Xl(K:PySem.W.Frag)(ta:TE)(f:Str):TE:=fun σ H Q=>ta σ H fun x H1=>∃a C dx fs v u,x=.ref a/\H1 a=some (.ins C dx fs)/\Mj K C/\ZG K C f v u/\fs.lookup f=none/\Q v H1
def Xw(K:PySem.W.Frag)(ta tv:TE)(f:Str):TS:=fun D σ H=>tv σ H fun y H1=>ta σ H1 fun x H2=>∃a C dx fs,x=.ref a/\H2 a=some (.ins C dx fs)/\Mj K C/\zE K C f/\fs.length<1000 /\
 D.nx σ (upd H2 a (.ins C dx (Kj f y fs)))
def ZF(X:Cx)(op:Operator)(rd:V->V->Hp->VK->Prop):Prop:=
 ∀(pins:List (Addr×Obj)) (s:Shared) (σ:St) (H:Hp) (x y:V) (u v:Value) (Q:VK),Inv X pins σ H s->RelV x u->RelV y v->rd x y H Q->wpAny (model X.prog X.w) X.A (inplaceOp op u v) (EP X pins σ Q) X.xe s
def Qw(K:PySem.W.Frag)(ta tv:TE)(rd:V->V->Hp->VK->Prop)(f:Str):TS:=fun D σ H=>ta σ H fun x H1=>∃a C dx fs v,x=.ref a/\H1 a=some (.ins C dx fs)/\Mj K C/\zE K C f/\fs.lookup f=some v /\
 tv σ H1 fun y H2=>rd v y H2 fun z H3=>∃WM LR,H3 a=some (.ins C WM LR)/\LR.length<1000/\D.nx σ (upd H3 a (.ins C WM (Kj f z LR)))
section
variable {X:Cx}{o e value:Expr}{f:Str}{pos pos' yq:Pos}{ta tv:TE}
def XA:V->V->Hp->VK->Prop:=fun x y H Q=>∃i j,x=.int i/\y=.int j/\Q (.int (i+j)) H
def Xx:V->V->Hp->VK->Prop:=fun x y H Q=>∃i j,x=.int i/\y=.int j/\Q (.int (i-j)) H
end
section
variable {X:Cx}{pins:List (Addr×Obj)}{σ:St}{H:Hp}{s:Shared}{A:Around}{E:Value->Shared->Prop}{Q:Value->Shared->Prop}{c:Value}{b:Bool}
inductive rW (K:PySem.W.Frag) (H:Hp):V->Value->Prop where
 |bJ:rW K H .bJ (.type "NoneType")
 |bl (x:Bool):rW K H (.bl x) (.type "bool")
 |int (i:Int):rW K H (.int i) (.type "int")
 |str (x:Str):rW K H (.str x) (.type "str")
 |FN (x:UInt64):rW K H (.FN x) (.type "float")
 |lst {a:Addr}{xs:List V} (e:H a=some (.lst xs)):rW K H (.ref a) (.type "list")
 |aT {a:Addr}{o:Obj}{xs:List V} (e:H a=some (.aT o (.lst xs))):rW K H (.ref a) (.type "list")
 |tup {a:Addr}{xs:List V} (e:H a=some (.tup xs)):rW K H (.ref a) (.type "tuple")
 |dK {a:Addr}{aw:List (Key×V)} (e:H a=some (.dK aw)):rW K H (.ref a) (.type "dict")
 |dT {a:Addr}{aw:List (List Key×V)} (e:H a=some (.dT aw)):rW K H (.ref a) (.type "dict")
 |ins {a C dx:Addr}{fs:List (Str×V)} (e:H a=some (.ins C dx fs)) (cl:Mj K C) (ha:PySem.W.findIn K (.ref C) "__class__" = some (some (.builtin "object.__class__")))
   (hn:PySem.W.specialIn K (.builtin "object.__class__") "__get__" = some (some (.builtin "getset_descriptor.__get__"))) (Z8:PySem.W.takesIn K (.builtin "object.__class__")=some true)
   (hm:PySem.W.mroIn K C (.type "object")=some true):rW K H (.ref a) (.ref C)
end
end L2
namespace L2
open PySem PySem.Spec PyProof.Rows
structure eB(k:Nat)(A:Around):Prop where
 hd:A.handled=none
 dp:A.depth+3 * k+5<recursionLimit
 un:A.units+16 * k+200<cLine
theorem eB.mono{j k:Nat}{A:Around}(r:eB k A)(h:j<=k):eB j A:=⟨r.hd,by have:=r.dp;omega,by have:=r.un;omega⟩
theorem eB.deeper{k:Nat}{A:Around}(r:eB (k+1) A)(env:Env):eB k (A.deeper env):=
 ⟨r.hd,by have:=r.dp;show A.depth+1+3 * k+5<_;omega,by have:=r.un;show A.units+3+16 * k+200<_;omega⟩
theorem eB.in1{k:Nat}{A:Around}(r:eB (k+1) A):eB k A.in1:=
 ⟨r.hd,by have:=r.dp;show A.depth+3 * k+5<_;omega,by have:=r.un;show A.units+1+16 * k+200<_;omega⟩
theorem eB.depth{k:Nat}{A:Around}(r:eB k A):A.depth<recursionLimit:=by have:=r.dp;omega
theorem eB.units{k:Nat}{A:Around}(r:eB k A):A.units+64<cLine:=by have:=r.un;omega
def wF:TA:=fun _ H Q=>Q [] H
def k7(ta:TE)(tr:TA):TA:=fun σ H Q=>ta σ H fun x H1=>tr σ H1 fun xs H2=>Q (x::xs) H2
section
variable {X:Cx}{e:Expr}{es:List Expr}{te:TE}{t:TA}{pos:Pos}
theorem lD:PA X [] wF:=fun _ _ _ _ H Q I h=>Calls.spliced_nil ⟨[],H,I,.nil,h⟩
theorem Hy(ha:PE X e te)(hr:PA X es t)(hs:starEach (e::es) X.env=(false,eval e X.env)::starEach es X.env:=by rfl):PA X (e::es) (k7 te t):=by
 intro pos pins s σ H Q I h
 rw[hs]
 show wpAny _ _ (spliced ((false,eval e X.env)::backTo pos (starEach es X.env))) _ _ s
 refine Calls.spliced_cons (cq (ha pins s σ H _ I h) fun u s1 ⟨x,H1,I1,r1,q1⟩=>?_)
 exact cq (hr pos pins s1 σ H1 _ I1 q1) fun us s2 ⟨xs,H2,I2,r2,q2⟩=>⟨x::xs,H2,I2,.cons r1 r2,q2⟩
def Xb(t:TA):TE:=fun σ H Q=>t σ H fun xs H1=>xs.length<=sizeLine/\∀p,H1 p=none->Q (.ref p) (upd H1 p (.tup xs))
def Xh(t:TA):TE:=fun σ H Q=>t σ H fun xs H1=>xs.length<=sizeLine/\∀p,H1 p=none->Q (.ref p) (upd H1 p (.lst xs))
end
abbrev Sp:=List V->Hp->VK->XK->Prop
abbrev Cz:=List Env->Hp->Shared->XK->Value->Shared->Prop
structure zF(P:Program)(w:World)(K:PySem.W.Frag)(mg:Str->Option Value)(base:Heap)(A:Around)(outer:List Env)(s:Shared)(H:Hp):Prop where
 frames:A.frames=some outer
 mod:Mod K mg base
 bs:∀b o,base.get? b=some o->s.heap.get? b=some o/\H b=none
 FQ:base.objs.size<=s.heap.objs.size
 pK:s.heap.FunFrames base outer
 LU:∀b∈E_ outer,H b=none
 cb:lq P w H s.heap
 bare:AllBare s.gens
def CE(outer:List Env)(P:Program)(w:World)(H:Hp)(s:Shared)(Q:VK)(u:Value)(s':Shared):Prop:=
 ∃v H',s'.os=s.os/\AllBare s'.gens/\Un (E_ outer) [] H H' s.heap s'.heap/\lq P w H' s'.heap/\RelV v u/\Q v H'
def CR(CX:Cz)(outer:List Env)(P:Program)(w:World)(H:Hp)(s:Shared)(Q:VK)(E:XK)(r:Result)(s':Shared):Prop:=
 match r with
 | .ok (.ret u)=>CE outer P w H s Q u s'
 | .ok _=>False
 | .error e=>CX outer H s E e s'
structure cA(P:Program)(w:World)(K:PySem.W.Frag)(mg:Str->Option Value)(base:Heap)(CX:Cz)(k:Nat)(f:Addr)(fd:FuncData)(ps:List Str)(sp:Sp):Prop where
 len:∀vs H Q E,sp vs H Q E->vs.length=ps.length
 run:∀(A:Around) (outer:List Env) (s:Shared) (H:Hp) (args:Args) (us:List Value) (vs:List V) (Q:VK) (E:XK),eB k A->zF P w K mg base A outer s H->BindsTo s fd args (ps.zip us)->Vals vs us->sp vs H Q E ->
  codeAny (model P w) A (.call (.ref f) args) (CR CX outer P w H s Q E) s
theorem cA.mono{P:Program}{w:World}{K:PySem.W.Frag}{mg:Str->Option Value}{base:Heap}{CX:Cz}{j k:Nat}{f:Addr}{fd:FuncData}{ps:List Str}{sp:Sp}(F:cA P w K mg base CX j f fd ps sp)(h:j<=k) :
  cA P w K mg base CX k f fd ps sp:=⟨F.len,fun A outer s H args us vs Q E hr=>F.run A outer s H args us vs Q E (hr.mono h)⟩
theorem cA.imp{P:Program}{w:World}{K:PySem.W.Frag}{mg:Str->Option Value}{base:Heap}{CX:Cz}{k:Nat}{f:Addr}{fd:FuncData}{ps:List Str}{sp U0:Sp}(F:cA P w K mg base CX k f fd ps sp)
  (h:∀vs H Q E,U0 vs H Q E->sp vs H Q E):cA P w K mg base CX k f fd ps U0:=
 ⟨fun vs H Q E q=>F.len vs H Q E (h _ _ _ _ q),fun A outer s H args us vs Q E hr he hb hv hs=>F.run A outer s H args us vs Q E hr he hb hv (h _ _ _ _ hs)⟩
theorem zF.in1{P:Program}{w:World}{K:PySem.W.Frag}{mg:Str->Option Value}{base:Heap}{A:Around}{outer:List Env}{s:Shared}{H:Hp}(e:zF P w K mg base A outer s H) :
  zF P w K mg base A.in1 outer s H:=⟨e.frames,e.mod,e.bs,e.FQ,e.pK,e.LU,e.cb,e.bare⟩
section
variable {X:Cx}{pins:List (Addr×Obj)}{σ:St}{H:Hp}{s s':Shared}
theorem Inv.T_(I:Inv X pins σ H s):zF X.prog X.w X.K X.mg X.base X.A X.stack s H:=
 ⟨I.ok.frames,I.ok.mod,I.bs,Nat.le_trans I.ok.FQ I.sz,I.stack,I.zV,I.cb,I.bare⟩
theorem Inv.after{Q:VK}{u:Value}(I:Inv X pins σ H s)(h:CE X.stack X.prog X.w H s Q u s'):EP X pins σ Q u s':=by
 obtain⟨v,H',os,bare,un,cb,r,q⟩:=h
 obtain⟨hh,g,d,t,Si⟩:=s'
 obtain rfl:Si=s.os:=os
 exact⟨v,H',I.call (h':=hh) (g':=g) (d':=d) (t':=t) (ch:=[]) un cb bare (fun b z=>absurd z (by simp)),r,q⟩
end
def tN(sp:Sp)(Cs:List V)(E:XK)(t:TA):TE:=fun σ H Q=>t σ H fun vs H1=>sp (vs++Cs) H1 Q E
def UP(C:Addr)(m:Str)(sp:Sp)(Cs:List V)(E:XK)(ta:TE)(t:TA):TE:=fun σ H Q=>ta σ H fun x H1=>∃a dx fs,x=.ref a/\H1 a=some (.ins C dx fs)/\fs.lookup m=none /\
 t σ H1 fun vs H2=>sp (x::(vs++Cs)) H2 Q E
def UQ(C:Addr)(sp:Sp)(Cs:List V)(E:XK)(t:TA):TE:=fun σ H Q=>t σ H fun vs H1=>∀x dx,H1 x=none->H1 dx=none->dx≠x ->
 sp (.ref x::(vs++Cs)) (upd (upd H1 dx (.own x)) x (.ins C dx [])) (fun v H2=>v=.bJ/\Q (.ref x) H2) E
def Binds(K:PySem.W.Frag)(fd:FuncData)(ps:List Str)(ds:List Value):Prop:=
 ∀(s:Shared) (us:List Value),K.In s.heap->(us++ds).length=ps.length->BindsTo s fd ⟨us,[]⟩ (ps.zip (us++ds))
theorem Binds.all{K:PySem.W.Frag}{fd:FuncData}{ps:List Str}(h:∀us:List Value,us.length=ps.length->bindArgs fd ⟨us,[]⟩=pure (ps.zip us)):Binds K fd ps []:=fun s us _ hl=>by
 rw[List.append_nil] at hl ⊢
 exact .of_eq (h us hl)
def Passes(CX:Cz)(X:Cx)(E:XK):Prop:=∀(pins:List (Addr×Obj)) (σ:St) (H:Hp) (s:Shared) (e:Value) (s':Shared),Inv X pins σ H s->CX X.stack H s E e s'->X.xe e s'
section
variable {X:Cx}{CX:Cz}{k:Nat}{f C:Addr}{fd:FuncData}{ps:List Str}{sp:Sp}{Cs:List V}{ds:List Value}{E:XK}{x m:Str}{p pos apos:Pos}{e o:Expr}{es:List Expr}{ta:TE}{t:TA}
theorem DO{pins:List (Addr×Obj)}{σ:St}{H:Hp}{s:Shared}{Q:VK}{us:List Value}{vs:List V}(F:cA X.prog X.w X.K X.mg X.base CX k f fd ps sp)(hr:eB k X.A)(hb:Binds X.K fd ps ds)(hd:Vals Cs ds)(hx:Passes CX X E)
  (I:Inv X pins σ H s) (r:Vals vs us) (h:sp (vs++Cs) H Q E):wpAny (model X.prog X.w) X.A (call (.ref f) us) (EP X pins σ Q) X.xe s:=by
 have r2:Vals (vs++Cs) (us++ds):=r.append hd
 have hl:(us++ds).length=ps.length:=by rw[<-r2.length];exact F.len _ _ _ _ h
 refine wpAny_call (codeAny_mono (F.run X.A X.stack s H ⟨us,[]⟩ (us++ds) (vs++Cs) Q E hr I.T_ (hb s us I.Ld hl) r2 h) fun r s' hq=>?_)
 cases r with
 |error e=>exact hx pins σ H s e s' I hq
 |ok fl=>
  cases fl with
  |ret u=>exact I.after hq
  |next=>exact False.elim hq
  |brk=>exact False.elim hq
  |cont=>exact False.elim hq
theorem Hv(F:cA X.prog X.w X.K X.mg X.base CX k f fd ps sp)(hr:eB k X.A)(hg:Gl X x)(hm:X.mg x=some (.ref f))(hk:PySem.W.keepIn X.K (.ref f)=true)(hb:Binds X.K fd ps ds)(hd:Vals Cs ds)(hx:Passes CX X E)
  (ha:PA X (e::es) t) (i_:(x==("__debug__":Str))=false:=by decide) (he:starEach (e::es) X.env=(false,eval e X.env)::starEach es X.env:=by rfl) (r6:(backTo pos (starEach es X.env)).any (·.1)=false:=by rfl) :
  PE X (.Call (.Name x p) (e::es) [] pos) (tN sp Cs E t):=by
 intro pins s σ H Q I h
 refine wpAny_Call_Name_kw (Aj I hg hm ?_ i_)
 refine PySem.W.callWith_K (h₀:=X.base) I.ok.mod.QK hk (cq (ha pos pins s σ H _ I h) fun us s1 ⟨vs,H1,I1,r,q⟩=>⟨I1.Ld,?_⟩) he r6
 exact DO F hr hb hd hx I1 r q
structure Mk(K:PySem.W.Frag)(C f:Addr):Prop where
 makes:PySem.W.makesIn K C=true
 init:PySem.W.findIn K (.ref C) "__init__" = some (some (.ref f))
 fn:PySem.W.isFn K (.ref f)=true
 kp:PySem.W.keepIn K (.ref C)=true
end
def PK(X:Cx)(Vg:List Keyword)(t:TA):Prop:=
 ∀(pos:Pos) (pins:List (Addr×Obj)) (s:Shared) (σ:St) (H:Hp) (Q:List V->Hp->Prop),Inv X pins σ H s->t σ H Q->wpAny (model X.prog X.w) X.A (evalAll ((backToKw pos (keywordEach Vg X.env)).map (·.2))) (AP X pins σ Q) X.xe s
section
variable {X:Cx}{CX:Cz}{k:Nat}{f C:Addr}{fd:FuncData}{ps ks:List Str}{sp:Sp}{E:XK}{x m:Str}{p pos apos XH:Pos}{e o:Expr}{es:List Expr}{Vg:List Keyword}{te ta:TE}{t tk:TA}{nm:Option Str}
structure Um(K:PySem.W.Frag)(fd:FuncData)(ps ks:List Str)(g:List Value->List Value->List Value)(gV:List V->List V->List V):Prop where
 to:∀(s:Shared) (us ws:List Value),K.In s.heap->(g us ws).length=ps.length->BindsTo s fd ⟨us,ks.zip ws⟩ (ps.zip (g us ws))
 rel:∀{vs:List V}{us:List Value}{zs:List V}{ws:List Value},Vals vs us->Vals zs ws->Vals (gV vs zs) (g us ws)
def RY(sp:Sp)(gV:List V->List V->List V)(E:XK)(t tk:TA):TE:=fun σ H Q=>t σ H fun vs H1=>tk σ H1 fun zs H2=>sp (gV vs zs) H2 Q E
variable {g:List Value->List Value->List Value}{gV:List V->List V->List V}
end
structure aK(N P:List Str)(sc:Scope):Prop where
 kind:sc.kind=.function
 co:sc.isCoroutine=false
 gen:sc.isGenerator=false
 nd:N.Nodup
 pre:N.take P.length=P
 par:∀x∈P,sc.names.lookup x=some .local\/sc.names.lookup x=some .cell
 K2:∀y∈sc.names,y.2≠.free
theorem uH{kindOf:Str->Option NameKind}{x:Str}:∀{binds:List (Str×Value)}{m:Str->Option Value},(∀v,(x,v)∉binds)->bindL kindOf binds m x=m x
 | [],_,_=>rfl
 |(n,v)::r,m,h=>by
  unfold bindL
  rw[uH fun w hw=>h w (List.mem_cons_of_mem _ hw)]
  split
  ·have:x≠n:=by rintro rfl;exact h v List.mem_cons_self
   simp[this]
  ·rfl
theorem uJ{kindOf:Str->Option NameKind}{x:Str}:∀{binds:List (Str×Value)}{m:Str->Option Value},(∀v,(x,v)∉binds)->bindC kindOf binds m x=m x
 | [],_,_=>rfl
 |(n,v)::r,m,h=>by
  unfold bindC
  rw[uJ fun w hw=>h w (List.mem_cons_of_mem _ hw)]
  split
  ·rfl
  ·have:x≠n:=by rintro rfl;exact h v List.mem_cons_self
   simp[this]
theorem uI{kindOf:Str->Option NameKind}{x:Str}{v:Value}:∀{P:List Str}{vs:List Value}{i:Nat}{m:Str->Option Value},P.Nodup->P[i]? = some x->vs[i]? = some v->kindOf x=some .local ->
  bindL kindOf (P.zip vs) m x=some v
 | [],_,_,_,_,h,_,_=>by simp at h
 |_::_,[],_,_,_,_,h,_=>by simp at h
 |p::P,w::vs,0,m,nd,h1,h2,hk=>by
  simp at h1 h2;subst h1;subst h2
  show bindL kindOf ((p,w)::P.zip vs) m p=_
  unfold bindL
  rw[uH fun v hv=>(List.nodup_cons.mp nd).1 (List.of_mem_zip hv).1,if_pos hk]
  simp
 |p::P,w::vs,i+1,m,nd,h1,h2,hk=>by
  show bindL kindOf ((p,w)::P.zip vs) m x=_
  unfold bindL
  exact uI (i:=i) (List.nodup_cons.mp nd).2 (by simpa using h1) (by simpa using h2) hk
theorem uK{kindOf:Str->Option NameKind}{x:Str}{v:Value}:∀{P:List Str}{vs:List Value}{i:Nat}{m:Str->Option Value},P.Nodup->P[i]? = some x->vs[i]? = some v->kindOf x≠some .local ->
  bindC kindOf (P.zip vs) m x=some v
 | [],_,_,_,_,h,_,_=>by simp at h
 |_::_,[],_,_,_,_,h,_=>by simp at h
 |p::P,w::vs,0,m,nd,h1,h2,hk=>by
  simp at h1 h2;subst h1;subst h2
  show bindC kindOf ((p,w)::P.zip vs) m p=_
  unfold bindC
  rw[uJ fun v hv=>(List.nodup_cons.mp nd).1 (List.of_mem_zip hv).1,if_neg hk]
  simp
 |p::P,w::vs,i+1,m,nd,h1,h2,hk=>by
  show bindC kindOf ((p,w)::P.zip vs) m x=_
  unfold bindC
  exact uK (i:=i) (List.nodup_cons.mp nd).2 (by simpa using h1) (by simpa using h2) hk
def start(N:List Str)(vs:List V):St:=vs.map some++List.replicate (N.length-vs.length) none
def zx(CX:Cz)(P:Program)(w:World)(K:PySem.W.Frag)(mg:Str->Option Value)(base:Heap)(N:List Str)(qual:Str)(scope:Scope)(f:Addr)(cd:Value)(A:Around)(outer:List Env)(s:Shared)(H:Hp)(E:XK):Cx where
 prog:=P
 w:=w
 K:=K
 mg:=mg
 base:=base
 A:=A.deeper (envOfC qual scope s.heap.objs.size f cd)
 N:=N
 gW:=s
 Cn:=H
 env:=envOfC qual scope s.heap.objs.size f cd
 outer:=outer
 stack:=envOfC qual scope s.heap.objs.size f cd::outer
 ex:=[]
 calm:=true
 fn:=fun _=>true
 pn:=[]
 xe:=fun e s'=>wpAny (model P w) (A.deeper (envOfC qual scope s.heap.objs.size f cd)) (leaving (envOfC qual scope s.heap.objs.size f cd) e) (fun _ GZ=>CX outer H s E e GZ) (fun e' GZ=>CX outer H s E e' GZ) s'
theorem xW{sc:Scope}{n:Nat}{x:Str}(h:sc.names.lookup x=some .cell):∃c,(cellsFrom n sc.names []).lookup x=some c:=by
 have q:=PySem.W.cellsFrom_some sc.names n [] (.inl h)
 exact Option.isSome_iff_exists.mp q
theorem BZ{CX:Cz}{P:Program}{w:World}{K:PySem.W.Frag}{mg:Str->Option Value}{base:Heap}{N ps:List Str}{qual:Str}{scope:Scope}{f:Addr}{cd:Value}{A:Around}{outer:List Env}{s s1:Shared}{H:Hp}{E:XK}{us:List Value}{vs:List V}
  (S:aK N ps scope) (hd:A.handled=none) (e0:zF P w K mg base A outer s H) (hl:vs.length=ps.length) (r:Vals vs us)
  (x:InCallC s s.heap.objs.size (bindL (envOfC qual scope s.heap.objs.size f cd).kindOf (ps.zip us) fun _=>none) (cellsFrom (s.heap.objs.size+1) scope.names []) (bindC (envOfC qual scope s.heap.objs.size f cd).kindOf (ps.zip us) fun _=>none) s1) :
  Inv (zx CX P w K mg base N qual scope f cd A outer s H E) [] (start N vs) H s1:=by
 have r6:ps.length<=N.length:=by have:=congrArg List.length S.pre;rw[List.length_take] at this;omega
 obtain⟨h1,tk,rfl,hk⟩:=x.done
 have NZ:∀b:Addr,b∉(zx CX P w K mg base N qual scope f cd A outer s H E).ex:=fun b z=>absurd (show b∈([]:List Addr) from z) (by simp)
 refine⟨⟨e0.mod,S.kind,rfl,rfl,Nat.le_refl _,fun y z c h1 h2=>?_,fun y hy=>?_,fun y c _ h=>?_,fun _=>hd,Around.frames_deeper e0.frames,.inr ⟨rfl,rfl⟩,fun b z=>absurd z (NZ b),e0.bs,e0.FQ,fun b _ _=>NZ b,fun b z=>absurd z (NZ b),e0.pK,e0.LU⟩,
  rfl,e0.bare,Un.kept hk,⟨_,x.toInCall.ns,fun i y v h1 h2 h3=>?_⟩,fun y c h=>⟨_,x.cell y c h⟩,e0.cb.fresh (Nat.le_refl _),fun y c h=>?_,fun p hp=>absurd (show p∈([]:List (Addr×Obj)) from hp) (by simp),e0.cb.kept hk,?_⟩
 ·exact name_of_addr x.apart (PySem.mem_of_lookup h1) (PySem.mem_of_lookup h2)
 ·have hy:scope.names.lookup y=some .cell\/scope.names.lookup y=some .free:=hy
  rcases hy with hy|hy
  ·exact xW hy
  ·exact absurd rfl (S.K2 _ (PySem.mem_of_lookup hy))
 ·exact Nat.le_of_lt (x.above y c (PySem.mem_of_lookup h))
 ·have hi:i<vs.length:=by
   unfold start at h2
   by_cases hi:i<vs.length
   ·exact hi
   ·rw[List.getElem?_append_right (by simpa using hi)] at h2
    rw[List.getElem?_replicate] at h2
    split at h2<;>cases h2
  have ha:vs[i]? = some v:=by
   unfold start at h2
   rw[List.getElem?_append_left (by simpa using hi),List.getElem?_map] at h2
   cases e:vs[i]? with
   |none=>rw[e] at h2;cases h2
   |some a=>rw[e] at h2;cases h2;rfl
  obtain⟨u,hu,rv⟩:=r.get ha
  have hp:ps[i]? = some y:=by
   rw[<-S.pre,List.getElem?_take_of_lt (by omega)];exact h1
  have Vc:ps.Nodup:=by rw[<-S.pre];exact S.nd.sublist (List.take_sublist _ _)
  refine⟨u,rv,?_⟩
  rcases S.par y (List.mem_of_getElem? hp) with k|k
  ·exact .inl ⟨k,uI Vc hp hu k⟩
  ·obtain⟨c,e⟩:=xW (n:=s.heap.objs.size+1) k
   refine .inr ⟨.inl k,c,e,?_⟩
   have q:=x.cell y c e
   rw[uK Vc hp hu (by show scope.names.lookup y≠_;rw[k];decide)] at q
   exact q
 ·exact e0.cb.fresh (Nat.le_of_lt (x.above y c (PySem.mem_of_lookup h)))
 ·unfold start
  show _=N.length
  rw[List.length_append,List.length_map,List.length_replicate]
  omega
theorem OU{CX:Cz}{P:Program}{w:World}{K:PySem.W.Frag}{mg:Str->Option Value}{base:Heap}{k:Nat}{f:Addr}{name qual:Str}{params:Arguments}{body:List Stmt}{scope:Scope}{dV kV doc pm dZ ct oc:Value}{an od:Option Addr}
  {I9:Array (Option Value)}{N ps:List Str}{sp:Sp} (lk:K.lookup f=some ⟨oc,od,.func (PySem.W.fnOf name qual params body scope dV kV doc pm an dZ ct),I9⟩) (fB:PySem.W.codeIn K dZ qual=true) (S:aK N ps scope)
  (len:∀vs H Q E,sp vs H Q E->vs.length=ps.length)
  (E2:∀(A:Around) (outer:List Env) (s:Shared) (H:Hp) (vs:List V) (Q:VK) (E:XK),eB k (A.deeper (envOfC qual scope s.heap.objs.size f dZ))->sp vs H Q E ->
   ∃t,zD (zx CX P w K mg base N qual scope f dZ A outer s H E) body t/\t {nx:=fun _ H'=>Q .bJ H',rt:=Q} (start N vs) H) :
  cA P w K mg base CX (k+1) f (PySem.W.fnOf name qual params body scope dV kV doc pm an dZ ct) ps sp:=by
 refine⟨len,fun A outer s H args us vs Q E hr e0 hb r Jh=>?_⟩
 have hl:=len _ _ _ _ Jh
 have KX:K.In s.heap:=e0.mod.QK.keeps fun b o e=>(e0.bs b o e).1
 have lim:s.heap.NoLimit:=e0.mod.nolimit.keeps fun b o e=>(e0.bs b o e).1
 have OG:∀y∈ps.zip us,scope.names.lookup y.1=some .local\/(scope.names.lookup y.1=some .cell/\((cellsFrom (s.heap.objs.size+1) scope.names []).lookup y.1).isSome=true):=fun⟨n,v⟩ hy=>by
  rcases S.par n (List.of_mem_zip hy).1 with q|q
  ·exact .inl q
  ·exact .inr ⟨q,PySem.W.cellsFrom_some _ _ _ (.inl q)⟩
 refine codeAny_call_function hr.depth (KX _ _ lk) rfl S.co S.gen rfl (PySem.W.codeRec_of KX fB) (hb _ _ _ _ ?_)
 refine wpAny_newFunctionEnv_cells S.kind OG fun env he s1 x=>?_
 subst he
 refine⟨lim.keeps x.toInCall.keep,codeAny_func ?_⟩
 obtain⟨t,ht,hq⟩:=E2 A outer s H vs Q E (hr.deeper _) Jh
 have I:Inv (zx CX P w K mg base N qual scope f dZ A outer s H E) [] (start N vs) H s1:=BZ S hr.hd e0 hl r x
 refine wpAny_mono (ht [] s1 (start N vs) H _ I hq) (fun fl s' hs=>?_) fun e s' hs=>hs
 have fin:∀{bU:St}{H':Hp}{v:V}{u:Value},Inv (zx CX P w K mg base N qual scope f dZ A outer s H E) [] bU H' s'->RelV v u->Q v H'->CE outer P w H s Q u s':=
  fun{bU H' v u} J rv q=>⟨v,H',J.os,J.bare,J.base,J.cb,rv,q⟩
 cases fl with
 |ret u=>
  obtain⟨v,bU,H',J,rv,q⟩:=hs
  exact fin J rv q
 |next=>
  obtain⟨bU,H',J,q⟩:=hs
  exact fin (v:=V.bJ) (u:=Value.none) J rfl q
 |brk=>
  obtain⟨_,_,_,q⟩:=hs
  exact False.elim q
 |cont=>
  obtain⟨_,_,_,q⟩:=hs
  exact False.elim q
end L2
namespace L2
open PySem PySem.Spec PyProof.Rows
section
variable {X:Cx}{x:Str}{p pos:Pos}{e:Expr}{es:List Expr}{t:TA}{id T:String}{r:List V->Hp->VK->Prop}
def Gx(r:List V->Hp->VK->Prop)(t:TA):TE:=fun σ H Q=>t σ H fun vs H1=>r vs H1 Q
theorem Ef(hc:gT X (.builtin id) r)(hg:Gl X x)(hm:X.mg x=none)(hv:bootBuiltins x=some (.builtin id))(ha:PA X (e::es) t)(hn:x≠"__name__":=by decide)(i_:(x==("__debug__":Str))=false:=by decide)
  (he:starEach (e::es) X.env=(false,eval e X.env)::starEach es X.env:=by rfl) (r6:(backTo pos (starEach es X.env)).any (·.1)=false:=by rfl):PE X (.Call (.Name x p) (e::es) [] pos) (Gx r t):=by
 intro pins s σ H Q I h
 refine wpAny_Call_Name_kw (qX I hg hm hv ?_ hn i_)
 exact PyProof.Rows.callWith_builtin1 (cq (ha pos pins s σ H _ I h) fun us s1 ⟨vs,H1,I1,r1,q1⟩=>hc pins s1 σ H1 vs us Q I1 r1 q1) he r6
theorem BK(hc:gT X (.type T) r)(hg:Gl X x)(hm:X.mg x=none)(hv:bootBuiltins x=some (.type T))(ha:PA X (e::es) t)(hn:x≠"__name__":=by decide)(i_:(x==("__debug__":Str))=false:=by decide)
  (he:starEach (e::es) X.env=(false,eval e X.env)::starEach es X.env:=by rfl) (r6:(backTo pos (starEach es X.env)).any (·.1)=false:=by rfl):PE X (.Call (.Name x p) (e::es) [] pos) (Gx r t):=by
 intro pins s σ H Q I h
 refine wpAny_Call_Name_kw (qX I hg hm hv ?_ hn i_)
 exact PyProof.Rows.callWith_type1 (cq (ha pos pins s σ H _ I h) fun us s1 ⟨vs,H1,I1,r1,q1⟩=>hc pins s1 σ H1 vs us Q I1 r1 q1) he r6
end
end L2
namespace HT
open PySem PyProof.Rows
def lexLt:List Int->List Int->Bool
 | [],[]=>false
 | [],_::_=>true
 |_::_,[]=>false
 |x::xs,y::ys=>if x=y then lexLt xs ys else decide (x<y)
section
open PySem.SeqAt
open PySem.AutoSeq1 (wpAny_loadPart')
open PySem.MeetsSeq PySem.MeetsSeq2 PySem.MeetsSeq3
end
section
variable {prog:Program}{w:World}{A:Around}{E:Value->Shared->Prop}{s:Shared}
def eQ(n d:Nat):Option Int->Nat
 |none=>d
 |some v=>if v<0 then(v+(n:Int)).toNat else min v.toNat n
theorem J_(n d:Nat)(hd:d<=n)(o:Option Int):eQ n d o<=n:=by
 cases o with
 |none=>exact hd
 |some v=>
  show(if v<0 then(v+(n:Int)).toNat else min v.toNat n)<=n
  by_cases hv:v<0
  ·rw[if_pos hv];omega
  ·rw[if_neg hv];exact Nat.min_le_right _ _
theorem AE(v:Int)(n d:Nat):(if v<0 then max (v+(n:Int)) 0 else min v (n:Int))=((eQ n d (some v):Nat):Int):=by
 show(if v<0 then max (v+(n:Int)) 0 else min v (n:Int))=(((if v<0 then(v+(n:Int)).toNat else min v.toNat n):Nat):Int)
 by_cases hv:v<0
 ·simp only[if_pos hv];omega
 ·simp only[if_neg hv];omega
theorem zC(lo hi:Option Int)(n:Nat):Builtin.Slice.sliceAdjust lo hi 1 (n:Int)=(((eQ n 0 lo:Nat):Int),((eQ n n hi:Nat):Int)):=by
 have h1:¬((1:Int)<0):=by omega
 unfold Builtin.Slice.sliceAdjust
 simp only[h1,if_false]
 refine Prod.ext ?_ ?_
 ·cases lo with
  |none=>rfl
  |some v=>exact AE v n 0
 ·cases hi with
  |none=>rfl
  |some v=>exact AE v n n
theorem yT(i j:Nat):Builtin.Slice.slicePlaces (i:Int) (j:Int) 1=j-i:=by
 unfold Builtin.Slice.slicePlaces
 have h1:(1:Int) > 0:=by omega
 simp only[h1,if_true,Int.ediv_one]
 split<;>omega
theorem qm{v:Value}{o:Option Int}{Q:Option Int->Shared->Prop}(p:IsPart v o)(h:Q o s):wpAny (model prog w) A (Builtin.Slice.slicePartIndex v) Q E s:=by
 cases p with
 |none=>exact slicePart_none h
 |int i t=>exact slicePart_int h
theorem nE{sl:Addr}{vl vu:Value}{lo hi:Option Int}{n:Nat}{Q:Int×Int×Nat->Shared->Prop}(hs:s.heap.IsSliceOf sl vl vu .none)(pl:IsPart vl lo)(pu:IsPart vu hi)
  (h:Q (((eQ n 0 lo:Nat):Int),1,eQ n n hi-eQ n 0 lo) s):wpAny (model prog w) A (Builtin.Slice.sliceApplied (.ref sl) (pure (n:Int))) Q E s:=by
 obtain⟨os,Oy,V0,MO⟩:=id hs
 unfold Builtin.Slice.sliceApplied Builtin.Slice.sliceFields
 refine wpAny_bind (wpAny_bind (wpAny_field Oy MO (x:=vl) rfl (wpAny_bind (wpAny_field Oy MO (x:=vu) rfl (wpAny_bind (wpAny_field Oy MO (x:=.none) rfl (wpAny_pure ?_)))))))
 refine wpAny_bind (slicePart_none ?_)
 show wpAny _ _ (if ((1:Int)==0)=true then _ else _) _ _ s
 rw[if_neg (by decide)]
 refine wpAny_bind (qm pl (wpAny_bind (qm pu (wpAny_bind (wpAny_pure ?_)))))
 show wpAny _ _ (match Builtin.Slice.sliceAdjust lo hi 1 (n:Int) with|(lo,hi)=>pure (lo,(1:Int),Builtin.Slice.slicePlaces lo hi 1)) _ _ s
 rw[zC lo hi n]
 show wpAny _ _ (pure (((eQ n 0 lo:Nat):Int),(1:Int),Builtin.Slice.slicePlaces ((eQ n 0 lo:Nat):Int) ((eQ n n hi:Nat):Int) 1)) _ _ s
 rw[yT]
 exact wpAny_pure h
theorem D_(xs:Array Value)(i k:Nat):((List.range k).filterMap fun(m:Nat)=>xs[((i:Int)+(m:Int) * 1).toNat]?).toArray=((xs.toList.drop i).take k).toArray:=by
 have e:(fun(m:Nat)=>xs[((i:Int)+(m:Int) * 1).toNat]?)=fun m=>xs[i+m]?:=by
  funext m
  have:((i:Int)+(m:Int) * 1).toNat=i+m:=by omega
  rw[this]
 rw[e]
 have:=pick_run xs i k
 rw[List.filterMap_map] at this
 have e2:((fun x=>xs[x]?) ∘ fun x=>i+x)=fun m=>xs[i+m]?:=rfl
 rw[e2] at this
 rw[this]
theorem mB{t sl:Addr}{items:Array Value}{vl vu:Value}{lo hi:Option Int}{Q:Value->Shared->Prop}(ht:IsTup s.heap t items)(hs:s.heap.IsSliceOf sl vl vu .none)(pl:IsPart vl lo)(pu:IsPart vu hi)
  (hw:¬(eQ items.size 0 lo=0/\eQ items.size items.size hi=items.size))
  (h:Q (.ref s.heap.objs.size) {s with heap:=s.heap.push {cls:=.type "tuple",data:=.seq ((items.toList.drop (eQ items.size 0 lo)).take (eQ items.size items.size hi-eQ items.size 0 lo)).toArray}})
  (hsz:items.size<=sizeLine):wpAny (model prog w) A (getItem (.ref t) (.ref sl)) Q E s:=by
 have rj:sizeOk (.seq ((items.toList.drop (eQ items.size 0 lo)).take (eQ items.size items.size hi-eQ items.size 0 lo)).toArray):=by
  show((items.toList.drop (eQ items.size 0 lo)).take (eQ items.size items.size hi-eQ items.size 0 lo)).toArray.size<=sizeLine
  rw[List.size_toArray,List.length_take,List.length_drop,Array.length_toList]
  omega
 have hj:eQ items.size items.size hi<=items.size:=J_ _ _ (Nat.le_refl _) hi
 obtain⟨os,Oy,V0,MO⟩:=id hs
 have Y_:s.TypeIs (.ref sl) "slice":=⟨os,Oy,V0⟩
 unfold getItem
 try with_reducible refine wpAny_holding ?_
 first|refine wpAny_bind (wpAny_pure ?_)|skip
 refine wpAny_bind (wpAny_sequenceKey ht.typeIs (by decide) ?_)
 refine wpAny_bind (wpAny_callSpecial?_slot (name:=Str.ofString "__getitem__") ht.typeIs PyProof.Rows.slot_tuple_getitem
  (wpAny_call_entry PyProof.Rows.slot_tuple_getitem ht.typeIs entry_tuple_getitem ?_ (args_tuple_getitem _ _)))
 show wpAny _ _ (Builtin.Tuple.tupleItemsOf (.ref t) >>= _) _ _ s
 refine wpAny_bind (tupleItemsOf_ ht ?_)
 refine wpAny_bind (wpAny_typeOf Y_ ?_)
 rw[if_pos (by decide)]
 refine wpAny_bind (nE hs pl pu ?_)
 have yd:¬((((eQ items.size 0 lo:Nat):Int)==0&&(1:Int)==1&&(eQ items.size items.size hi-eQ items.size 0 lo)==items.size)=true):=by
  intro q
  rw[Bool.and_eq_true,Bool.and_eq_true] at q
  have q1:((eQ items.size 0 lo:Nat):Int)=0:=eq_of_beq q.1.1
  have q2:eQ items.size items.size hi-eQ items.size 0 lo=items.size:=eq_of_beq q.2
  exact hw ⟨by omega,by omega⟩
 show wpAny _ _ (if (((eQ items.size 0 lo:Nat):Int)==0&&(1:Int)==1&&(eQ items.size items.size hi-eQ items.size 0 lo)==items.size)=true then _ else _) _ _ s
 rw[if_neg yd,D_]
 first
  |exact wpAny_bind (m:=Builtin.Tuple.tupleExact _) (wpAny_newObj_type (wpAny_pure ⟨_,rfl,wpAny_pure h⟩) rj)
  |exact wpAny_bind (m:=Builtin.Tuple.tupleExact _) (wpAny_newObj_type (wpAny_bind (wpAny_pure (wpAny_pure ⟨_,rfl,wpAny_pure h⟩))) rj)
  |exact wpAny_bind (wpAny_bind (m:=Builtin.Tuple.tupleExact _) (wpAny_newObj_type (wpAny_pure (wpAny_pure ⟨_,rfl,wpAny_pure h⟩)) rj))
  |exact wpAny_bind (wpAny_bind (m:=Builtin.Tuple.tupleExact _) (wpAny_newObj_type (wpAny_pure ⟨_,rfl,wpAny_pure h⟩) rj))
end
end HT
namespace L2
open PySem PySem.Spec PyProof.Rows
abbrev TO:=St->Hp->(Option Int->Hp->Prop)->Prop
def PO(X:Cx)(e:Option Expr)(t:TO):Prop:=
 ∀(pins:List (Addr×Obj)) (s:Shared) (σ:St) (H:Hp) (Q:Option Int->Hp->Prop),Inv X pins σ H s->t σ H Q ->
  wpAny (model X.prog X.w) X.A (evalPart e X.env) (fun u s'=>∃o H',Inv X pins σ H' s'/\IsPart u o/\Q o H') X.xe s
def zP:TO:=fun _ H Q=>Q none H
def ID(t:TE):TO:=fun σ H Q=>t σ H fun x H1=>∃i,x=.int i/\Q (some i) H1
section
variable {X:Cx}{e:Expr}{te:TE}{lo hi:Option Expr}{tl th:TO}{pos p2:Pos}
theorem Hi:PO X none zP:=by
 intro pins s σ H Q I h
 rw[evalPart_none]
 exact wpAny_pure ⟨none,H,I,.none,h⟩
theorem Hh(h:PE X e te):PO X (some e) (ID te):=by
 intro pins s σ H Q I hw
 rw[evalPart_some]
 refine cq (h pins s σ H _ I hw) fun u s1 ⟨x,H1,I1,r1,q1⟩=>?_
 obtain⟨i,rfl,q⟩:=q1
 obtain⟨t,rfl⟩:=r1
 exact⟨some i,H1,I1,.int i t,q⟩
def Ju(X:Cx)(r:V->Option Int->Option Int->Hp->VK->Prop):Prop:=
 ∀(pins:List (Addr×Obj)) (s:Shared) (σ:St) (H:Hp) (x:V) (v vl vu:Value) (lo hi:Option Int) (sl:Addr) (Q:VK),Inv X pins σ H s->RelV x v->s.heap.IsSliceOf sl vl vu .none->IsPart vl lo->IsPart vu hi->r x lo hi H Q ->
  ∃T id,typeLookup (.type T) "__getitem__" = pure (some (.builtin id))/\s.TypeIs v T/\wpAny (model X.prog X.w) X.A (getItem v (.ref sl)) (EP X pins σ Q) X.xe s
theorem Ju.or{r r':V->Option Int->Option Int->Hp->VK->Prop}(h:Ju X r)(h':Ju X r'):Ju X (fun x lo hi H Q=>r x lo hi H Q\/r' x lo hi H Q):=by
 intro pins s σ H x v vl vu lo hi sl Q I rx hs pl pu q
 rcases q with q|q
 ·exact h pins s σ H x v vl vu lo hi sl Q I rx hs pl pu q
 ·exact h' pins s σ H x v vl vu lo hi sl Q I rx hs pl pu q
def Qt(r:V->Option Int->Option Int->Hp->VK->Prop)(te:TE)(tl th:TO):TE:=fun σ H Q=>te σ H fun x H1=>tl σ H1 fun l H2=>th σ H2 fun u H3=>r x l u H3 Q
theorem qI{r:V->Option Int->Option Int->Hp->VK->Prop}(hr:Ju X r)(he:PE X e te)(hl:PO X lo tl)(hu:PO X hi th):PE X (.Subscript e (.Slice lo hi none p2) pos) (Qt r te tl th):=by
 intro pins s σ H Q I h
 refine Subscript_ (cq (he pins s σ H _ I h) fun v s1 ⟨x,H1,I1,r1,q1⟩=>?_)
 refine wpAny_Slice (cq (hl pins s1 σ H1 _ I1 q1) fun vl s2 ⟨l,H2,I2,pl,q2⟩=>cq (hu pins s2 σ H2 _ I2 q2) fun vu s3 ⟨u,H3,I3,pu,q3⟩=>?_)
 rw[evalPart_none]
 refine wpAny_pure ?_
 have I4:Inv X pins σ H3 {s3 with heap:=s3.heap.push {cls:=.type "slice",data:=.fields #[vl,vu,.none]}}:=I3.kept (t':=s3.toks) fun b ob q=>Heap.get?_push_of_some _ q
 obtain⟨T,id,hT,ht,hg⟩:=hr pins {s3 with heap:=s3.heap.push {cls:=.type "slice",data:=.fields #[vl,vu,.none]}} σ H3 x v vl vu l u s3.heap.objs.size Q I4 r1 (Heap.IsSliceOf.new ..) pl pu q3
 show wpAny (model X.prog X.w) X.A (subscriptTail e (.Slice lo hi none p2) v (.ref s3.heap.objs.size)) (EP X pins σ Q) X.xe {s3 with heap:=s3.heap.push {cls:=.type "slice",data:=.fields #[vl,vu,.none]}}
 exact tail_any (ops:=[.ref s3.heap.objs.size,v]) ht hT hg (by with_unfolding_all rfl)
def ki(xs:List V)(lo hi:Option Int):List V:=(xs.drop (HT.eQ xs.length 0 lo)).take (HT.eQ xs.length xs.length hi-HT.eQ xs.length 0 lo)
theorem oS(xs:List V)(lo hi:Option Int):(ki xs lo hi).length<=xs.length:=by
 unfold ki
 rw[List.length_take,List.length_drop]
 omega
def NC(K:PySem.W.Frag):V->Option Int->Option Int->Hp->VK->Prop:=fun x lo hi H Q=>∃a xs,x=.ref a/\ox K H a xs /\
 ¬(HT.eQ xs.length 0 lo=0/\HT.eQ xs.length xs.length hi=xs.length)/\∀p,H p=none->Q (.ref p) (upd H p (.tup (ki xs lo hi)))
theorem J3:Ju X (NC X.K):=by
 intro pins s σ H x v vl vu lo hi sl Q I rx hs pl pu h
 obtain⟨a,xs,rfl,hx,hw,q⟩:=h
 cases rx
 obtain⟨its,r,ht,hz⟩:=I.tuple hx
 have hlen:its.toArray.size=xs.length:=by rw[List.size_toArray];exact r.length.symm
 refine⟨"tuple",_,PyProof.Rows.slot_tuple_getitem.lookup,ht.typeIs,?_⟩
 refine HT.mB ht hs pl pu (by rw[hlen];exact hw) ?_ (by rw[hlen];exact hz)
 rw[hlen]
 refine⟨.ref s.heap.objs.size,_,I.laid (t':=s.toks) (o:=.tup (ki xs lo hi)) (fun b ob q=>Heap.get?_push_of_some _ q) (Nat.le_refl _) ?_,rfl,q _ (I.cb.fresh (Nat.le_refl _))⟩
 exact⟨Nat.le_trans (oS xs lo hi) hz,_,(r.drop (HT.eQ xs.length 0 lo)).take (HT.eQ xs.length xs.length hi-HT.eQ xs.length 0 lo),IsTup.new _ _⟩
def Xz(K:PySem.W.Frag):R2:=fun x y H Q=>∃a b ns ms,x=.ref a/\y=.ref b/\ox K H a (ns.map V.int)/\ox K H b (ms.map V.int)/\Q (.bl (HT.lexLt ns ms)) H
def U9(K:PySem.W.Frag):R2:=fun x y H Q=>∃a b xs ys,x=.ref a/\y=.ref b/\ox K H a xs/\ox K H b ys/\xs≠[]/\xs.length+ys.length<=sizeLine /\
 (ys=[]->Q (.ref a) H)/\(ys≠[]->∀p,H p=none->Q (.ref p) (upd H p (.tup (xs++ys))))
end
end L2
namespace L2
open PySem PySem.Spec PyProof.Rows
def xy(n:Nat)(i:Int):Option Nat:=if 0<=i then(if i<n then some i.toNat else none) else if -(n:Int)<=i then some (i+n).toNat else none
def g_{α:Type}(xs:List α)(i:Int):Option α:=(xy xs.length i).bind fun j=>xs[j]?
theorem Al{n:Nat}{i:Int}{j:Nat}(h:xy n i=some j):seqIndex? i n=some j/\j<n/\-(n:Int)<=i/\i<n:=by
 unfold xy at h
 by_cases h0:0<=i
 ·rw[if_pos h0] at h
  by_cases h1:i<n
  ·rw[if_pos h1] at h
   have e:i.toNat=j:=Option.some.inj h
   exact⟨by rw[seqIndex_of h0 h1,e],by omega,by omega,h1⟩
  ·rw[if_neg h1] at h;cases h
 ·rw[if_neg h0] at h
  by_cases h1:-(n:Int)<=i
  ·rw[if_pos h1] at h
   have e:(i+n).toNat=j:=Option.some.inj h
   exact⟨by rw[seqIndex_neg (by omega) h1,e],by omega,h1,by omega⟩
  ·rw[if_neg h1] at h;cases h
theorem vV{α:Type}{xs:List α}{i:Int}{v:α}(h:g_ xs i=some v):∃j,seqIndex? i xs.length=some j/\xs[j]? = some v/\j<xs.length/\-(xs.length:Int)<=i/\i<xs.length:=by
 unfold g_ at h
 cases e:xy xs.length i with
 |none=>rw[e] at h;cases h
 |some j=>
  rw[e] at h
  obtain⟨h1,h2,h3,h4⟩:=Al e
  exact⟨j,h1,h,h2,h3,h4⟩
theorem fi{α:Type}{xs:List α}{j:Nat}{v:α}(h:xs[j]? = some v):g_ xs (j:Int)=some v:=by
 have hj:j<xs.length:=(List.getElem?_eq_some_iff.mp h).1
 have e:xy xs.length (j:Int)=some j:=by
  unfold xy
  rw[if_pos (by omega),if_pos (by omega)];simp
 unfold g_;rw[e];exact h
def jE(b:Expr):Prop:=∀o i,subscripted b false o i=operate [o,i] (getItem o i)
def Iy(X:Cx)(r:R2):Prop:=
 ∀(value slice:Expr) (pins:List (Addr×Obj)) (s:Shared) (σ:St) (H:Hp) (x y:V) (v u:Value) (Q:VK),Inv X pins σ H s->RelV x v->RelV y u->r x y H Q ->
  subscripted slice false v u=operate [v,u] (getItem v u)->wpAny (model X.prog X.w) X.A (subscriptTail value slice v u) (EP X pins σ Q) X.xe s
def Jv(X:Cx)(id:String)(r:V->List V->Hp->VK->Prop):Prop:=
 ∀(pins:List (Addr×Obj)) (s:Shared) (σ:St) (H:Hp) (x:V) (xs:List V) (v:Value) (us:List Value) (Q:VK),Inv X pins σ H s->RelV x v->Vals xs us->r x xs H Q ->
  wpAny (model X.prog X.w) X.A (call (.builtin id) (v::us)) (EP X pins σ Q) X.xe s
section
variable {X:Cx}{a b:Expr}{ta tb:TE}{pos:Pos}
theorem Iy.or{r r':R2}(h:Iy X r)(h':Iy X r'):Iy X (fun x y H Q=>r x y H Q\/r' x y H Q):=by
 intro value slice pins s σ H x y v u Q I rx ry q hs
 rcases q with q|q
 ·exact h value slice pins s σ H x y v u Q I rx ry q hs
 ·exact h' value slice pins s σ H x y v u Q I rx ry q hs
theorem Jv.or{id:String}{r r':V->List V->Hp->VK->Prop}(h:Jv X id r)(h':Jv X id r'):Jv X id (fun x xs H Q=>r x xs H Q\/r' x xs H Q):=by
 intro pins s σ H x xs v us Q I rx rs q
 rcases q with q|q
 ·exact h pins s σ H x xs v us Q I rx rs q
 ·exact h' pins s σ H x xs v us Q I rx rs q
theorem IW{r:R2}(hr:Iy X r)(ha:PE X a ta)(hb:PE X b tb)(hs:jE b):PE X (.Subscript a b pos) (Gw r ta tb):=by
 intro pins s σ H Q I h
 exact Subscript_ (Mc ha hb I h fun v u s2 x y H2 I2 rx ry q=>hr a b pins s2 σ H2 x y v u Q I2 rx ry q (hs _ _))
def DU(K:PySem.W.Frag):R2:=fun x y H Q=>∃p xs i v,x=.ref p/\y=.int i/\je K H p xs/\g_ xs i=some v/\Q v H
def DT(K:PySem.W.Frag):R2:=fun x y H Q=>∃p xs i v,x=.ref p/\y=.int i/\ox K H p xs/\g_ xs i=some v/\Q v H
def Kf:R2:=fun x y H Q=>∃z i c,x=.str z/\y=.int i/\z.length<=sizeLine/\g_ z.cps.toList i=some c/\Q (.str ⟨#[c]⟩) H
theorem Ak:Iy X (DU X.K):=by
 intro value slice pins s σ H x y v u Q I rx ry h hs
 obtain⟨p,xs,i,z,rfl,rfl,hq,he,q⟩:=h
 cases rx
 obtain⟨t,rfl⟩:=ry
 obtain⟨its,r,pl,hz⟩:=I.list hq
 obtain⟨j,h1,h2,h3,h4,h5⟩:=vV he
 obtain⟨w,ew,BC⟩:=r.get h2
 have hl:=r.length
 have hn:=n6
 have fin:EP X pins σ Q w s:=⟨z,H,I,BC,q⟩
 by_cases h0:0<=i
 ·have hj:i.toNat=j:=by
   rw[seqIndex_of h0 h5] at h1
   exact Option.some.inj h1
  exact item_listR pl.isList h0 (by omega) (by rw[hj];simpa using ew) fin hs
 ·have hj:(i+(its.toArray.size:Int)).toNat=j:=by
   rw[seqIndex_neg (by omega) h4] at h1
   rw[List.size_toArray,<-hl]
   exact Option.some.inj h1
  exact subscriptTail_builtinR (x:=w) pl.isList.typeIs slot_list_getitem.lookup
   (wpAny_getItem_list_neg (Q:=fun r s'=>r=w/\EP X pins σ Q r s') pl.isList (by omega) (by rw[List.size_toArray]<;>omega) (by omega) (by rw[hj];simpa using ew) ⟨rfl,fin⟩) hs
theorem Le:Iy X (DT X.K):=by
 intro value slice pins s σ H x y v u Q I rx ry h hs
 obtain⟨p,xs,i,z,rfl,rfl,hq,he,q⟩:=h
 cases rx
 obtain⟨t,rfl⟩:=ry
 obtain⟨its,r,pl,hz⟩:=I.tuple hq
 obtain⟨j,h1,h2,h3,h4,h5⟩:=vV he
 obtain⟨w,ew,BC⟩:=r.get h2
 have hl:=r.length
 have hn:=n6
 have fin:EP X pins σ Q w s:=⟨z,H,I,BC,q⟩
 exact subscriptTail_builtinR (x:=w) pl.typeIs slot_tuple_getitem.lookup
  (getItem_tuple (j:=j) (Q:=fun r s'=>r=w/\EP X pins σ Q r s') pl (by omega) (by omega) (by rw[List.size_toArray,<-hl];exact h1) (by simpa using ew) ⟨rfl,fin⟩) hs
theorem Lf:Iy X Kf:=by
 intro value slice pins s σ H x y v u Q I rx ry h hs
 obtain⟨z,i,c,rfl,rfl,hz,he,q⟩:=h
 obtain⟨t,rfl⟩:=rx
 obtain⟨t',rfl⟩:=ry
 obtain⟨j,h1,h2,h3,h4,h5⟩:=vV he
 have hl:z.cps.toList.length=z.length:=by simp[Str.length]
 rw[hl] at h1 h4 h5
 have hn:=n6
 exact tail_any (typeIs_str s z t) slot_str_getitem.lookup (getItem_str (c:=c) (by
  have e1:decide (i < -(2 ^ 63:Int))=false:=decide_eq_false (by omega)
  have e2:decide (i >= 2 ^ 63)=false:=decide_eq_false (by omega)
  rw[e1,e2,Bool.or_false]) (by rw[h1];simpa using h2) ⟨.str ⟨#[c]⟩,H,I.tok _,⟨_,rfl⟩,q⟩) hs
def ZT(K:PySem.W.Frag):R2:=fun x y H Q=>DU K x y H Q\/DT K x y H Q\/Kf x y H Q
theorem y0(its:List Value)(n j:Nat)(u:Value):Obj.mapSeq (·.setIfInBounds j u) {cls:=.type "list",data:=.seq its.toArray n}={cls:=.type "list",data:=.seq (its.set j u).toArray n}:=by
 simp[Obj.mapSeq]
theorem Inv.lst{pins:List (Addr×Obj)}{σ:St}{H:Hp}{s:Shared}{p:Addr}{xs:List V}(I:Inv X pins σ H s)(h:H p=some (.lst xs)) :
  ∃(its:List Value) (n:Nat),Vals xs its/\s.heap.get? p=some {cls:=.type "list",data:=.seq its.toArray n}/\xs.length<=sizeLine:=by
 obtain⟨z,its,n,r,e⟩:=I.cb p _ h
 exact⟨its,n,r,e,z⟩
theorem Inv.K8{pins:List (Addr×Obj)}{σ:St}{H:Hp}{s:Shared}{p:Addr}{xs ys:List V}{its its':List Value}{n n':Nat}{f:Obj->Obj}(I:Inv X pins σ H s)(h:H p=some (.lst xs))
  (ho:s.heap.get? p=some {cls:=.type "list",data:=.seq its.toArray n}) (hf:f {cls:=.type "list",data:=.seq its.toArray n}={cls:=.type "list",data:=.seq its'.toArray n'}) (r:Vals ys its') (hz:ys.length<=sizeLine) (t:Nat) :
  Inv X pins σ (upd H p (.lst ys)) {s with heap:=s.heap.update p f,toks:=t}:=by
 have e:(s.heap.update p f).get? p=some {cls:=.type "list",data:=.seq its'.toArray n'}:=by
  rw[Heap.get?_update_self f ho (by rw[hf]<;>rfl),hf]
 refine I.write (x:=p) (e:=p) (by rw[h];trivial) (.inl rfl) (fun b u hb q=>(Heap.get?_update_other _ _ (Ne.symm hb)).trans q) ⟨_,e⟩ ?_
 exact⟨hz,its',n',r,e⟩
def IS:V->V->V->Hp->(Hp->Prop)->Prop:=fun o i v H Q=>∃p xs k j,o=.ref p/\i=.int k/\H p=some (.lst xs)/\xy xs.length k=some j/\Q (upd H p (.lst (xs.set j v)))
theorem set_list:Pm X IS:=by
 intro pins s σ H o i v ov iv u Q I ro ri rv h
 obtain⟨p,xs,k,j,rfl,rfl,hp,hj,q⟩:=h
 cases ro
 obtain⟨t,rfl⟩:=ri
 obtain⟨its,n,r,ho,hz⟩:=I.lst hp
 obtain⟨h1,h2,h3,h4⟩:=Al hj
 have hl:=r.length
 have hn:=n6
 have I':Inv X pins σ (upd H p (.lst (xs.set j v))) {s with heap:=s.heap.update p (Obj.mapSeq (·.setIfInBounds j u))}:=
  I.K8 hp ho (y0 its n j u) (r.set rv j) (by rw[List.length_set];exact hz) s.toks
 by_cases h0:0<=k
 ·have hk:k.toNat=j:=by
   rw[seqIndex_of h0 h4] at h1
   exact Option.some.inj h1
  exact PySem.W.ki_setAt ho h0 (by omega) (by rw[List.size_toArray,<-hl];exact h4) (by rw[hk];exact⟨_,I',q⟩)
 ·have hk:(k+(its.toArray.size:Int)).toNat=j:=by
   rw[seqIndex_neg (by omega) h3] at h1
   rw[List.size_toArray,<-hl]
   exact Option.some.inj h1
  exact PySem.W.ki_setBack ho (by omega) (by rw[List.size_toArray,<-hl];exact h3) (by omega) (by rw[hk];exact⟨_,I',q⟩)
theorem u9(lo hi:Option Int)(n:Nat):(sliceBounds lo hi none n).1=((HT.eQ n 0 lo:Nat):Int)/\(sliceBounds lo hi none n).2.1=((HT.eQ n n hi:Nat):Int)/\(sliceBounds lo hi none n).2.2=1:=by
 refine⟨?_,?_,rfl⟩
 ·cases lo with
  |none=>simp[sliceBounds,HT.eQ]
  |some i=>
   simp only[sliceBounds,HT.eQ,Option.getD_none,show(1:Int) > 0 by decide,if_true]
   by_cases h:i<0
   ·simp only[h,if_true]<;>omega
   ·simp only[h,if_false]<;>omega
 ·cases hi with
  |none=>simp[sliceBounds,HT.eQ]
  |some i=>
   simp only[sliceBounds,HT.eQ,Option.getD_none,show(1:Int) > 0 by decide,if_true]
   by_cases h:i<0
   ·simp only[h,if_true]<;>omega
   ·simp only[h,if_false]<;>omega
theorem se(its:List Value)(lo hi:Option Int):slicePick its.toArray lo hi none=((its.drop (HT.eQ its.length 0 lo)).take (HT.eQ its.length its.length hi-HT.eQ its.length 0 lo)).toArray:=by
 obtain⟨h1,h2,h3⟩:=u9 lo hi its.toArray.size
 unfold slicePick
 rw[h1,h2,h3]
 simp only[sliceRange_one,pick_run,List.size_toArray]<;>rfl
def R7(K:PySem.W.Frag):V->Option Int->Option Int->Hp->VK->Prop:=fun x lo hi H Q=>∃a xs,x=.ref a/\je K H a xs/\∀p,H p=none->Q (.ref p) (upd H p (.lst (ki xs lo hi)))
theorem GS:Ju X (R7 X.K):=by
 intro pins s σ H x v vl vu lo hi sl Q I rx hs pl pu h
 obtain⟨a,xs,rfl,hx,q⟩:=h
 cases rx
 obtain⟨its,r,ht,hz⟩:=I.list hx
 have hlen:=r.length
 refine⟨"list",_,slot_list_getitem.lookup,ht.isList.typeIs,?_⟩
 refine wpAny_getItem_list_slice ht.isList hs pl pu .none (by simp) ?_ (by rw[List.size_toArray]<;>omega)
 rw[se,<-hlen]
 refine⟨.ref s.heap.objs.size,_,I.laid (t':=s.toks) (o:=.lst (ki xs lo hi)) (fun b ob q=>Heap.get?_push_of_some _ q) (Nat.le_refl _) ?_,rfl,q _ (I.cb.fresh (Nat.le_refl _))⟩
 exact⟨Nat.le_trans (oS xs lo hi) hz,_,0,(r.drop (HT.eQ xs.length 0 lo)).take (HT.eQ xs.length xs.length hi-HT.eQ xs.length 0 lo),Heap.get?_push_size _ rfl⟩
def lg:V->Bool
 | .bJ=>true
 | .bl _=>true
 | .int _=>true
 | .str _=>true
 |_=>false
def FO:V->V->Bool
 | .bJ,.bJ=>true
 | .bl a,.bl b=>a==b
 | .bl a,.int b=>(if a then 1 else 0)==b
 | .int a,.bl b=>a==(if b then 1 else 0)
 | .int a,.int b=>a==b
 | .str a,.str b=>a==b
 |_,_=>false
theorem L6{A:Around}{s:Shared}{y x:V}{u v:Value}(ry:RelV y u)(rx:RelV x v)(fy:lg y=true)(fx:lg x=true):SeqAt.EqAt A s u v (FO y x):=by
 cases y with
 |bJ=>
  cases ry
  cases x with
  |bJ=>cases rx;exact SeqAt.EqAt.same _
  |bl b=>cases rx;exact SeqAt.EqAt.none_bool b
  |int b=>obtain⟨t,rfl⟩:=rx;exact SeqAt.EqAt.none_int b t
  |str b=>obtain⟨t,rfl⟩:=rx;exact SeqAt.EqAt.none_str b t
  |_=>exact absurd (show false=true from fx) Bool.false_ne_true
 |bl a=>
  cases ry
  cases x with
  |bJ=>cases rx;exact SeqAt.EqAt.bool_none a
  |bl b=>cases rx;exact SeqAt.EqAt.bool_bool a b
  |int b=>obtain⟨t,rfl⟩:=rx;exact SeqAt.EqAt.bool_int a b t
  |str b=>obtain⟨t,rfl⟩:=rx;exact SeqAt.EqAt.bool_str a b t
  |_=>exact absurd (show false=true from fx) Bool.false_ne_true
 |int a=>
  obtain⟨t',rfl⟩:=ry
  cases x with
  |bJ=>cases rx;exact SeqAt.EqAt.int_none a t'
  |bl b=>cases rx;exact SeqAt.EqAt.int_bool a t' b
  |int b=>obtain⟨t,rfl⟩:=rx;exact SeqAt.EqAt.int_int a t' b t
  |str b=>obtain⟨t,rfl⟩:=rx;exact SeqAt.EqAt.int_str a t' b t
  |_=>exact absurd (show false=true from fx) Bool.false_ne_true
 |str a=>
  obtain⟨t',rfl⟩:=ry
  cases x with
  |bJ=>cases rx;exact SeqAt.EqAt.str_none a t'
  |bl b=>cases rx;exact SeqAt.EqAt.str_bool a t' b
  |int b=>obtain⟨t,rfl⟩:=rx;exact SeqAt.EqAt.str_int a t' b t
  |str b=>obtain⟨t,rfl⟩:=rx;exact SeqAt.EqAt.str_str a t' b t
  |_=>exact absurd (show false=true from fx) Bool.false_ne_true
 |_=>exact absurd (show false=true from fy) Bool.false_ne_true
def zt(x:V)(u:Value):Bool:=match u with
 | .none=>FO .bJ x
 | .bool b=>FO (.bl b) x
 | .int i _=>FO (.int i) x
 | .str z _=>FO (.str z) x
 |_=>false
theorem Ff{x y:V}{u:Value}(r:RelV y u)(f:lg y=true):zt x u=FO y x:=by
 cases y with
 |bJ=>cases r;rfl
 |bl b=>cases r;rfl
 |int i=>obtain⟨t,rfl⟩:=r;rfl
 |str z=>obtain⟨t,rfl⟩:=r;rfl
 |_=>exact absurd (show false=true from f) Bool.false_ne_true
theorem mM{x:V}:∀{xs:List V}{us:List Value},Vals xs us->xs.all lg=true->us.any (zt x)=xs.any fun y=>FO y x
 |_,_,.nil,_=>rfl
 |y::xs,u::us,.cons r t,f=>by
  rw[List.all_cons,Bool.and_eq_true] at f
  rw[List.any_cons,List.any_cons,Ff r f.1,mM t f.2]
theorem j7{A:Around}{s:Shared}{x:V}{v:Value}(rx:RelV x v)(fx:lg x=true):∀{xs:List V}{us:List Value},Vals xs us->xs.all lg=true->∀u∈us,SeqAt.EqAt A s u v (zt x u)
 |_,_,.nil,_=>fun u hu=>by cases hu
 |y::xs,u::us,.cons r t,f=>fun u' hu=>by
  rw[List.all_cons,Bool.and_eq_true] at f
  rcases List.mem_cons.mp hu with rfl|hu
  ·rw[Ff r f.1];exact L6 r rx f.1 fx
  ·exact j7 rx fx t f.2 u' hu
def QM(x:V)(xs:List V):Bool:=xs.any fun y=>FO y x
def R9(K:PySem.W.Frag)(neg:Bool):R2:=fun x y H Q=>∃p xs,y=.ref p/\(je K H p xs\/ox K H p xs)/\lg x=true/\xs.all lg=true/\Q (.bl (if neg then !QM x xs else QM x xs)) H
theorem nP:jf X (compareOp .In) (R9 X.K false):=by
 intro pins s σ H x y v u Q I rx ry h
 obtain⟨p,xs,rfl,hq,fx,fs,q⟩:=h
 cases ry
 rcases hq with hq|hq
 ·obtain⟨its,r,pl,hz⟩:=I.list hq
  refine SeqAt.in_listAt (zt x) pl.isList (fun w hw=>j7 rx fx r fs w (by simpa using hw)) ⟨.bl _,H,I,rfl,?_⟩
  rw[show its.toArray.any (zt x)=its.any (zt x) by simp,mM r fs]
  exact q
 ·obtain⟨its,r,pl,hz⟩:=I.tuple hq
  refine SeqAt.in_tupleAt (zt x) pl (fun w hw=>j7 rx fx r fs w (by simpa using hw)) ⟨.bl _,H,I,rfl,?_⟩
  rw[show its.toArray.any (zt x)=its.any (zt x) by simp,mM r fs]
  exact q
theorem jt:jf X (compareOp .NotIn) (R9 X.K true):=by
 intro pins s σ H x y v u Q I rx ry h
 obtain⟨p,xs,rfl,hq,fx,fs,q⟩:=h
 cases ry
 rcases hq with hq|hq
 ·obtain⟨its,r,pl,hz⟩:=I.list hq
  refine SeqAt.notIn_listAt (zt x) pl.isList (fun w hw=>j7 rx fx r fs w (by simpa using hw)) ⟨.bl _,H,I,rfl,?_⟩
  rw[show its.toArray.any (zt x)=its.any (zt x) by simp,mM r fs]
  exact q
 ·obtain⟨its,r,pl,hz⟩:=I.tuple hq
  refine SeqAt.notIn_tupleAt (zt x) pl (fun w hw=>j7 rx fx r fs w (by simpa using hw)) ⟨.bl _,H,I,rfl,?_⟩
  rw[show its.toArray.any (zt x)=its.any (zt x) by simp,mM r fs]
  exact q
theorem vR:gT X (.builtin "len") (fun xs H Q=>∃p ys,xs=[.ref p]/\(je X.K H p ys\/ox X.K H p ys)/\Q (.int ys.length) H):=by
 intro pins s σ H xs us Q I r h
 obtain⟨p,ys,rfl,hq,q⟩:=h
 obtain⟨u,rfl,rx⟩:=vals1 r
 cases rx
 have hn:=n6
 rcases hq with hq|hq
 ·obtain⟨its,r',pl,hz⟩:=I.list hq
  have hlen:=r'.length
  exact Calls.call_len_list pl.isList (by simp only[List.size_toArray]<;>omega) ⟨.int ys.length,H,I.tok _,⟨s.toks+1,by rw[List.size_toArray,hlen]⟩,q⟩
 ·obtain⟨its,r',pl,hz⟩:=I.tuple hq
  have hlen:=r'.length
  exact len_tuple pl (by simp only[List.size_toArray]<;>omega) ⟨.int ys.length,H,I.tok _,⟨s.toks+1,by rw[List.size_toArray,hlen]⟩,q⟩
theorem gT.or{f:Value}{r r':List V->Hp->VK->Prop}(h:gT X f r)(h':gT X f r'):gT X f (fun xs H Q=>r xs H Q\/r' xs H Q):=by
 intro pins s σ H xs us Q I rs q
 rcases q with q|q
 ·exact h pins s σ H xs us Q I rs q
 ·exact h' pins s σ H xs us Q I rs q
theorem vQ:gT X (.type "list") (fun xs H Q=>∃p ys,xs=[.ref p]/\(je X.K H p ys\/ox X.K H p ys)/\∀l,H l=none->Q (.ref l) (upd H l (.lst ys))):=by
 intro pins s σ H xs us Q I r h
 obtain⟨p,ys,rfl,hq,q⟩:=h
 obtain⟨u,rfl,rx⟩:=vals1 r
 cases rx
 have fin:∀(its:List Value),Vals ys its->ys.length<=sizeLine->∀(h':Heap) (c':Nat),(∀b o',s.heap.get? b=some o'->h'.get? b=some o') ->
   h'.get? s.heap.objs.size=some {cls:=.type "list",dict:=none,data:=.seq its.toArray c',slots:=#[]}->EP X pins σ Q (.ref s.heap.objs.size) {s with heap:=h'}:=fun its r' hz h' c' kp e=>
  ⟨.ref s.heap.objs.size,_,I.laid (t':=s.toks) kp (Nat.le_refl _) (show d8 X.prog X.w _ h' _ (.lst ys) from⟨hz,its,c',r',e⟩),rfl,q _ (I.cb.fresh (Nat.le_refl _))⟩
 rcases hq with hq|hq
 ·obtain⟨its,r',pl,hz⟩:=I.list hq
  have hlen:=r'.length
  obtain⟨o,ho,hc,n,hd⟩:=pl.isList
  exact call_list_seq p (.inl rfl) ho hc hd (fun h' c' kp e=>fin its r' hz h' c' kp e) (by simp only[List.size_toArray]<;>omega)
 ·obtain⟨its,r',pl,hz⟩:=I.tuple hq
  have hlen:=r'.length
  obtain⟨o,ho,hc,n,hd⟩:=pl
  exact call_list_seq p (.inr rfl) ho hc hd (fun h' c' kp e=>fin its r' hz h' c' kp e) (by simp only[List.size_toArray]<;>omega)
def RN(K:PySem.W.Frag)(T:String)(x:V)(H:Hp):Prop:=match x with
 | .str _=>T = "str"
 | .int _=>T = "int"
 | .ref p=>(T = "list"/\∃xs,je K H p xs)\/(T = "tuple"/\∃o,K.lookup p=some o/\o.cls=.type "tuple"/\o.dict=none) \/
   (T = "dict"/\((∃aw,H p=some (.dK aw))\/∃aw,H p=some (.dT aw)))\/(T = "set"/\∃S n,H p=some (.set S n))
 |_=>False
theorem CY{pins:List (Addr×Obj)}{σ:St}{H:Hp}{s:Shared}{T:String}{x:V}{v:Value}(I:Inv X pins σ H s)(r:RelV x v)(ty:RN X.K T x H) :
  s.TypeIs v T/\∀a,v=.ref a->∃ob,s.heap.get? a=some ob/\ob.dict=none:=by
 cases x with
 |str z=>
  obtain⟨t,rfl⟩:=r
  cases (show T = "str" from ty)
  exact⟨typeIs_str s z t,fun _ e=>nomatch e⟩
 |int i=>
  obtain⟨t,rfl⟩:=r
  cases (show T = "int" from ty)
  exact⟨typeIs_int s i t,fun _ e=>nomatch e⟩
 |ref p=>
  cases r
  rcases ty with⟨rfl,xs,hq⟩|⟨rfl,o,hk,hc,hd⟩|⟨rfl,hk⟩|⟨rfl,S,n,hk⟩
  ·obtain⟨its,_,pl,_⟩:=I.list hq
   refine⟨pl.isList.typeIs,fun a e=>?_⟩
   cases e
   obtain⟨o,n,e,c,hd,_⟩:=pl
   exact⟨o,e,hd⟩
  ·refine⟨⟨o,I.Ld p o hk,hc⟩,fun a e=>?_⟩
   cases e
   exact⟨o,I.Ld _ o hk,hd⟩
  ·have z:∃o,s.heap.get? p=some o/\o.ExactDict:=by
    rcases hk with⟨aw,hk⟩|⟨aw,hk⟩
    ·obtain⟨_,_,_,_,o,_,_,e,ex,_⟩:=I.cb p _ hk
     exact⟨o,e,ex⟩
    ·obtain⟨_,_,_,_,o,_,_,e,ex,_⟩:=I.cb p _ hk
     exact⟨o,e,ex⟩
   obtain⟨o,e,ex⟩:=z
   refine⟨⟨o,e,ex.1⟩,fun a e2=>?_⟩
   cases e2
   exact⟨o,e,ex.2.1⟩
  ·obtain⟨o,_,_,_,e,ex,_⟩:=I.cb p _ hk
   refine⟨⟨o,e,ex.1⟩,fun a e2=>?_⟩
   cases e2
   exact⟨o,e,ex.2.1⟩
 |_=>exact False.elim ty
def JY(K:PySem.W.Frag)(T:String)(r:V->List V->Hp->VK->Prop)(to:TE):TE:=fun σ H Q=>to σ H fun x H1=>RN K T x H1/\r x [] H1 Q
def Nx(K:PySem.W.Frag)(T:String)(r:V->List V->Hp->VK->Prop)(to:TE)(t:TA):TE:=fun σ H Q=>to σ H fun x H1=>RN K T x H1/\t σ H1 fun xs H2=>r x xs H2 Q
variable {o e:Expr}{es:List Expr}{to:TE}{t:TA}{name:Str}{apos bR:Pos}{T id:String}{r:V->List V->Hp->VK->Prop}
theorem Eg(pa:PlainAttrs T)(slot:Slot T name id)(Oj:typeOf (.builtin id)=pure (.type "method_descriptor"))(hm:Jv X id r)(ho:PE X o to)
  (dX:attributeBase o name X.env (eval o X.env)=eval o X.env:=by rfl) (dW:(apos.endLine==bR.line)=true:=by rfl):PE X (.Call (.Attribute o name apos) [] [] bR) (JY X.K T r to):=by
 intro pins s σ H Q I h
 refine wpAny_Call_method0_late dX dW (cq (ho pins s σ H _ I h) fun v s1 ⟨x,H1,I1,r1,ty,q1⟩=>?_)
 obtain⟨h1,h2⟩:=CY I1 r1 ty
 exact⟨T,id,pa,slot,Oj,h1,h2,Calls.callWith_builtin rfl (PySem.evalArgs_none (hm pins s1 σ H1 x [] v [] Q I1 r1 .nil q1))⟩
theorem NM(pa:PlainAttrs T)(slot:Slot T name id)(Oj:typeOf (.builtin id)=pure (.type "method_descriptor"))(hm:Jv X id r)(ho:PE X o to)(ha:PA X (e::es) t)
  (dX:attributeBase o name X.env (eval o X.env)=eval o X.env:=by rfl)
  (Tx:((backTo bR (starEach (e::es) X.env)).all (fun x=>!x.1)&&(backToKw bR (keywordEach [] X.env)).all (fun x=>x.1.isSome)
   && decide ((e::es).length+([]:List Keyword).length+(if ([]:List Keyword).isEmpty then 0 else 1)<30))=true:=by rfl)
  (dW:(apos.endLine==bR.line)=true:=by rfl) (hs:starEach (e::es) X.env=(false,eval e X.env)::starEach es X.env:=by rfl) (LA:(backTo bR (starEach es X.env)).any (·.1)=false:=by rfl) :
  PE X (.Call (.Attribute o name apos) (e::es) [] bR) (Nx X.K T r to t):=by
 intro pins s σ H Q I h
 refine wpAny_Call_method_late dX Tx dW rfl (cq (ho pins s σ H _ I h) fun v s1 ⟨x,H1,I1,r1,ty,q1⟩=>?_)
 obtain⟨h1,h2⟩:=CY I1 r1 ty
 refine⟨T,id,pa,slot,Oj,h1,h2,?_⟩
 have hA:=ha bR pins s1 σ H1 _ I1 q1
 rw[hs] at hA ⊢
 refine Calls.callWith_builtin (by show(false||(backTo bR (starEach es X.env)).any (·.1))=false;rw[LA]<;>rfl) (Calls.evalArgs_plain ?_)
 exact cq hA fun us s2 ⟨vs,H2,I2,r2,q2⟩=>hm pins s2 σ H2 x vs v us Q I2 r1 r2 q2
end
end L2
namespace L2
open PySem PySem.Spec PyProof.Rows
def Pt(X:Cx)(id:String)(r:V->List V->Hp->VK->Prop):Prop:=
 ∀(pins:List (Addr×Obj)) (s:Shared) (σ:St) (H:Hp) (x:V) (xs:List V) (v:Value) (us:List Value) (Q:VK),Inv X pins σ H s->RelV x v->Vals xs us->r x xs H Q ->
  wpAny (model X.prog X.w) X.A (call (.builtin id) (v::us)) (EP X pins σ Q) X.xe s
theorem Vals.one:∀{x:V}{us:List Value},Vals [x] us->∃u,us=[u]/\RelV x u
 |_,_,.cons r .nil=>⟨_,rfl,r⟩
theorem Vals.two:∀{x y:V}{us:List Value},Vals [x,y] us->∃u v,us=[u,v]/\RelV x u/\RelV y v
 |_,_,_,.cons r (.cons q .nil)=>⟨_,_,rfl,r,q⟩
theorem Vals.zero:∀{us:List Value},Vals [] us->us=[]
 |_,.nil=>rfl
theorem Vals.dropLast{xs:List V}{us:List Value}(h:Vals xs us):Vals xs.dropLast us.dropLast:=by
 induction h with
 |nil=>exact .nil
 |cons r t ih=>
  cases t with
  |nil=>exact .nil
  |cons q t'=>exact .cons r ih
theorem Vals.eraseIdx:∀{xs:List V}{us:List Value} (i:Nat),Vals xs us->Vals (xs.eraseIdx i) (us.eraseIdx i)
 |_,_,_,.nil=>.nil
 |_,_,0,.cons _ t=>t
 |_,_,i+1,.cons r t=>.cons r (Vals.eraseIdx i t)
theorem Vals.reverse{xs:List V}{us:List Value}(h:Vals xs us):Vals xs.reverse us.reverse:=by
 induction h with
 |nil=>exact .nil
 |cons r t ih=>rw[List.reverse_cons,List.reverse_cons];exact Vals.append ih (.cons r .nil)
theorem zr{α:Type}(l:List α):l.eraseIdx (l.length-1)=l.dropLast:=by
 induction l with
 |nil=>rfl
 |cons a r ih=>
  cases r with
  |nil=>rfl
  |cons b r=>
   have e:(a::b::r).length-1=((b::r).length-1)+1:=by
    have h1:(a::b::r).length=r.length+2:=rfl
    have h2:(b::r).length=r.length+1:=rfl
    omega
   rw[e,List.eraseIdx_cons_succ,ih]
   all_goals rfl
section
variable {X:Cx}{pins:List (Addr×Obj)}{σ:St}{H:Hp}{s:Shared}{l b:Addr}{xs ys zs:List V}
theorem Inv.HK{its its':List Value}{n:Nat}{f:Array Value->Array Value}{t':Nat}(I:Inv X pins σ H s)(hH:H l=some (.lst xs))
  (e:s.heap.get? l=some {cls:=.type "list",data:=.seq its.toArray n}) (hf:f its.toArray=its'.toArray) (hv:Vals ys its') (hz:ys.length<=sizeLine) :
  Inv X pins σ (upd H l (.lst ys)) {s with heap:=s.heap.update l (Obj.mapSeq f),toks:=t'}:=by
 have q:=PySem.IsL.update e f
 rw[hf] at q
 refine I.write (x:=l) (e:=l) (by rw[hH];exact trivial) (.inl rfl) (fun b' u hb hu=>(Heap.get?_update_other s.heap (Obj.mapSeq f) (Ne.symm hb)).trans hu) ⟨_,q⟩ ?_
 exact⟨hz,its',_,hv,q⟩
theorem Inv.K9{its:List Value}{t':Nat}(I:Inv X pins σ H s)(hv:Vals ys its)(hz:ys.length<=sizeLine) :
  Inv X pins σ (upd H s.heap.objs.size (.lst ys)) {s with heap:=s.heap.push {cls:=.type "list",data:=.seq its.toArray},toks:=t'}:=
 I.laid (fun _ _ q=>Heap.get?_push_of_some _ q) (Nat.le_refl _) ⟨hz,its,0,hv,Heap.get?_push_size _ rfl⟩
theorem Inv.fresh(I:Inv X pins σ H s):H s.heap.objs.size=none:=I.cb.fresh (Nat.le_refl _)
theorem Inv.y3(I:Inv X pins σ H s)(hH:H l=some (.lst xs)):xs.length<=sizeLine/\∃(its:List Value) (n:Nat),Vals xs its/\xs.length=its.length/\s.heap.get? l=some {cls:=.type "list",data:=.seq its.toArray n}:=by
 obtain⟨z,its,n,r,e⟩:=I.cb l _ hH
 exact⟨z,its,n,r,r.length,e⟩
theorem Eo{n:Nat}(h:n<=sizeLine):Builtin.List.listTooLong n=false:=by
 unfold Builtin.List.listTooLong
 exact decide_eq_false (by omega)
end
section
variable {X:Cx}
def G7:V->List V->Hp->VK->Prop:=fun x vs H Q=>∃l xs y,x=.ref l/\vs=[y]/\H l=some (.lst xs)/\xs.length<sizeLine/\Q .bJ (upd H l (.lst (xs++[y])))
theorem BS:Pt X "list.append" G7:=by
 intro pins s σ H x vs v us Q I rx rv h
 obtain⟨l,xs,y,rfl,rfl,hH,hz,q⟩:=h
 cases rx
 obtain⟨u,rfl,ru⟩:=rv.one
 obtain⟨z,its,n,r,hl,e⟩:=I.y3 hH
 refine call_meets F.slot_list_append ⟨_,e,rfl⟩ F.entry_list_append (F.args_list_append_2 _ _) (PySem.list_append l its.toArray n u (by rw[List.size_toArray];omega)) ⟨e,?_⟩
 refine⟨.bJ,_,I.HK (its':=its++[u]) hH e (by simp) (r.append (.cons ru .nil)) ?_,rfl,q⟩
 rw[List.length_append,List.length_singleton]
 omega
def z7:V->List V->Hp->VK->Prop:=fun x vs H Q=>∃l b xs zs,x=.ref l/\vs=[.ref b]/\H l=some (.lst xs)/\H b=some (.lst zs)/\xs.length+zs.length<=sizeLine/\Q .bJ (upd H l (.lst (xs++zs)))
theorem BR:Pt X "list.extend" z7:=by
 intro pins s σ H x vs v us Q I rx rv h
 obtain⟨l,b,xs,zs,rfl,rfl,hH,hB,hz,q⟩:=h
 cases rx
 obtain⟨u,rfl,ru⟩:=rv.one
 cases ru
 obtain⟨z,its,n,r,hl,e⟩:=I.y3 hH
 obtain⟨z2,y8,n2,r2,rm,e2⟩:=I.y3 hB
 have hsz:its.toArray.size+y8.toArray.size<=sizeLine:=by rw[List.size_toArray,List.size_toArray];omega
 have OD:¬(!its.toArray.isEmpty&&Builtin.List.listTooLong (its.toArray.size+y8.toArray.size))=true:=by
  rw[Eo hsz,Bool.and_false]
  exact Bool.false_ne_true
 refine call_meets F.slot_list_extend ⟨_,e,rfl⟩ F.entry_list_extend (F.args_list_extend_2 _ _)
  (AutoSeq1.list_extend_list_list_0 l its.toArray n b y8.toArray n2 OD (by rw[List.size_toArray];omega) (by omega)) ⟨e,e2,?_⟩
 refine⟨.bJ,_,I.HK (its':=its++y8) hH e (by simp) (r.append r2) ?_,rfl,q⟩
 rw[List.length_append]
 omega
def NF:V->List V->Hp->VK->Prop:=fun x vs H Q=>∃l xs y,x=.ref l/\vs=[]/\H l=some (.lst xs)/\xs[xs.length-1]? = some y/\Q y (upd H l (.lst xs.dropLast))
theorem K5:Pt X "list.pop" NF:=by
 intro pins s σ H x vs v us Q I rx rv h
 obtain⟨l,xs,y,rfl,rfl,hH,hy,q⟩:=h
 cases rx
 have Lx:=rv.zero
 subst Lx
 obtain⟨z,its,n,r,hl,e⟩:=I.y3 hH
 obtain⟨u,hu,ru⟩:=r.get hy
 have XW:its.toArray[its.toArray.size-1]? = some u:=by
  show its.toArray[its.length-1]? = some u
  rw[<-Array.getElem?_toList,<-hl]
  exact hu
 refine call_meets F.slot_list_pop ⟨_,e,rfl⟩ F.entry_list_pop (F.args_list_pop_1 _) (MeetsSeq.list_pop_last l its.toArray n u XW (by rw[List.size_toArray];omega)) ⟨e,?_⟩
 refine⟨y,_,I.HK (its':=its.dropLast) hH e ?_ r.dropLast ?_,ru,q⟩
 ·show its.toArray.eraseIdxIfInBounds (its.toArray.size-1)=its.dropLast.toArray
  rw[List.size_toArray,List.eraseIdxIfInBounds_toArray,zr]
 ·rw[List.length_dropLast]
  omega
def R8:V->List V->Hp->VK->Prop:=fun x vs H Q=>∃l xs i k y,x=.ref l/\vs=[.int i]/\H l=some (.lst xs)/\-(2 ^ 63)<=i/\i<2 ^ 63/\seqIndex? i xs.length=some k/\xs[k]? = some y/\Q y (upd H l (.lst (xs.eraseIdx k)))
def w4:V->List V->Hp->VK->Prop:=fun x vs H Q=>∃l xs,x=.ref l/\vs=[]/\H l=some (.lst xs)/\Q .bJ (upd H l (.lst xs.reverse))
theorem yZ:Pt X "list.reverse" w4:=by
 intro pins s σ H x vs v us Q I rx rv h
 obtain⟨l,xs,rfl,rfl,hH,q⟩:=h
 cases rx
 have Lx:=rv.zero
 subst Lx
 obtain⟨z,its,n,r,hl,e⟩:=I.y3 hH
 refine call_meets F.slot_list_reverse ⟨_,e,rfl⟩ F.entry_list_reverse (F.args_list_reverse_1 _) (AutoSeq1.list_reverse_list_0 l its.toArray n (by rw[List.size_toArray];omega)) ⟨e,?_⟩
 refine⟨.bJ,_,I.HK (its':=its.reverse) hH e (by simp) r.reverse ?_,rfl,q⟩
 rw[List.length_reverse]
 omega
def R':V->List V->Hp->VK->Prop:=fun x vs H Q=>∃l xs,x=.ref l/\vs=[]/\H l=some (.lst xs)/\Q .bJ (upd H l (.lst []))
def Sa:R2:=fun x y H Q=>∃l b xs zs,x=.ref l/\y=.ref b/\H l=some (.lst xs)/\H b=some (.lst zs)/\xs.length+zs.length<=sizeLine/\∀p,H p=none->Q (.ref p) (upd H p (.lst (xs++zs)))
theorem KU:jf X (binaryOp .Add) Sa:=by
 intro pins s σ H x y v u Q I rx ry h
 obtain⟨l,b,xs,zs,rfl,rfl,hH,hB,hz,q⟩:=h
 cases rx
 cases ry
 obtain⟨z,its,n,r,hl,e⟩:=I.y3 hH
 obtain⟨z2,y8,n2,r2,rm,e2⟩:=I.y3 hB
 refine PySem.P.add_list e e2 ?_ (by rw[List.size_toArray,List.size_toArray];omega)
 have ea:its.toArray++y8.toArray=(its++y8).toArray:=by simp
 rw[ea]
 exact⟨.ref _,_,I.K9 (t':=s.toks) (r.append r2) (by rw[List.length_append];omega),rfl,q _ I.fresh⟩
def Xy:R2:=fun x y H Q=>∃l k xs,x=.ref l/\y=.int k/\H l=some (.lst xs)/\-(2 ^ 63)<=k/\k<2 ^ 63/\xs.length * k.toNat<=sizeLine /\
 ∀p,H p=none->Q (.ref p) (upd H p (.lst (List.replicate k.toNat xs).flatten))
end
section
variable {prog:Program}{w:World}{A:Around}{E:Value->Shared->Prop}{s:Shared}
set_option maxRecDepth 100000 in
end
section
variable {X:Cx}
end
end L2
namespace L2
open PySem PySem.Spec PyProof.Rows
section
variable {κ:Type} [DecidableEq κ]
def gc(aw:List (κ×V))(k:κ):Option V:=(aw.find? fun kv=>decide (kv.1=k)).map (·.2)
def putK(aw:List (κ×V))(k:κ)(v:V):List (κ×V):=
 if (aw.any fun kv=>decide (kv.1=k))=true then aw.map (fun kv=>if kv.1=k then(kv.1,v) else kv) else aw++[(k,v)]
def xO(aw:List (κ×V))(k:κ):List (κ×V):=aw.filter fun kv=>decide (kv.1≠k)
theorem iW{p:κ×V}{r:List (κ×V)}{k:κ}(e:p.1=k):gc (p::r) k=some p.2:=by simp[gc,List.find?_cons,e]
theorem iX{p:κ×V}{r:List (κ×V)}{k:κ}(e:¬p.1=k):gc (p::r) k=gc r k:=by simp[gc,List.find?_cons,e]
theorem wx(k:κ):∀aw:List (κ×V),(aw.any fun kv=>decide (kv.1=k))=(gc aw k).isSome
 | []=>rfl
 |p::r=>by
  rw[List.any_cons]
  by_cases e:p.1=k
  ·simp only[iW e,decide_eq_true e,Bool.true_or,Option.isSome_some]
  ·rw[iX e,decide_eq_false e,Bool.false_or];exact wx k r
theorem gO(aw:List (κ×V))(k:κ)(v:V):(putK aw k v).length<=aw.length+1:=by
 unfold putK
 split
 ·rw[List.length_map];omega
 ·rw[List.length_append,List.length_cons,List.length_nil];omega
theorem oA.gB{o:Option V}{u:Option Value}(r:oA o u):o.isSome=u.isSome:=by
 cases o with
 |none=>cases u with
  |none=>rfl
  |some _=>exact(show False from r).elim
 |some _=>cases u with
  |none=>exact(show False from r).elim
  |some _=>rfl
theorem oA.getD{o:Option V}{u:Option Value}{d:V}{d':Value}(r:oA o u)(rd:RelV d d'):RelV (o.getD d) (u.getD d'):=by
 cases o with
 |none=>cases u with
  |none=>exact rd
  |some _=>exact(show False from r).elim
 |some _=>cases u with
  |none=>exact(show False from r).elim
  |some _=>exact r
theorem KV.val{aw:List (κ×V)}{vs:List (κ×Value)}(r:KV aw vs)(k:κ):oA (gc aw k) (valueAt vs k):=by
 unfold KV at r
 induction r with
 |nil=>exact True.intro
 | @cons p q ps qs h t ih=>
  obtain⟨h1,h2⟩:=h
  by_cases e:p.1=k
  ·have e':q.1=k:=h1.symm.trans e
   have b:valueAt (q::qs) k=some q.2:=by simp[valueAt,List.find?_cons,e']
   rw[iW e,b];exact h2
  ·have e':¬q.1=k:=fun z=>e (h1.trans z)
   have b:valueAt (q::qs) k=valueAt qs k:=by simp[valueAt,List.find?_cons,e']
   rw[iX e,b];exact ih
theorem KV.any{aw:List (κ×V)}{vs:List (κ×Value)}(r:KV aw vs)(k:κ):(aw.any fun kv=>decide (kv.1=k))=vs.any fun kv=>decide (kv.1=k):=by
 unfold KV at r
 induction r with
 |nil=>rfl
 |cons h t ih=>rw[List.any_cons,List.any_cons,ih,h.1]
theorem KV.Ka{aw:List (κ×V)}{vs:List (κ×Value)}(r:KV aw vs)(k:κ){y:V}{u:Value}(ry:RelV y u) :
  KV (aw.map fun kv=>if kv.1=k then(kv.1,y) else kv) (vs.map fun kv=>if kv.1=k then(kv.1,u) else kv):=by
 unfold KV at r ⊢
 induction r with
 |nil=>exact .nil
 | @cons p q ps qs h t ih=>
  rw[List.map_cons,List.map_cons]
  refine .cons ?_ ih
  obtain⟨h1,h2⟩:=h
  by_cases e:p.1=k
  ·rw[if_pos e,if_pos (h1.symm.trans e)];exact⟨h1,ry⟩
  ·rw[if_neg e,if_neg (fun z=>e (h1.trans z))];exact⟨h1,h2⟩
theorem KV.put{aw:List (κ×V)}{vs:List (κ×Value)}(r:KV aw vs)(k:κ){y:V}{u:Value}(ry:RelV y u):KV (putK aw k y) (stored vs k u):=by
 unfold putK stored
 rw[r.any k]
 by_cases e:(vs.any fun kv=>decide (kv.1=k))=true
 ·rw[if_pos e,if_pos e];exact r.Ka k ry
 ·rw[if_neg e,if_neg e];exact Paired.snoc r ⟨rfl,ry⟩
theorem KV.drop{aw:List (κ×V)}{vs:List (κ×Value)}(r:KV aw vs)(k:κ):KV (xO aw k) (without vs k):=by
 unfold KV at r ⊢
 unfold xO without
 induction r with
 |nil=>exact .nil
 | @cons p q ps qs h t ih=>
  obtain⟨h1,h2⟩:=h
  rw[List.filter_cons,List.filter_cons]
  by_cases e:p.1=k
  ·have a:¬decide (p.1≠k)=true:=by simp[e]
   have b:¬decide (q.1≠k)=true:=by simp[h1.symm.trans e]
   rw[if_neg a,if_neg b];exact ih
  ·have e':¬q.1=k:=fun z=>e (h1.trans z)
   have a:decide (p.1≠k)=true:=by simp[e]
   have b:decide (q.1≠k)=true:=by simp[e']
   rw[if_pos a,if_pos b];exact .cons ⟨h1,h2⟩ ih
theorem KV.keys{aw:List (κ×V)}{vs:List (κ×Value)}(r:KV aw vs):aw.map (·.1)=vs.map (·.1):=by
 unfold KV at r
 induction r with
 |nil=>rfl
 |cons h t ih=>rw[List.map_cons,List.map_cons,ih,h.1]
theorem KV.length{aw:List (κ×V)}{vs:List (κ×Value)}(r:KV aw vs):aw.length=vs.length:=Paired.length r
end
theorem ka{P:Program}{w:World}{k:Key}{u:Value}(r:RelV (kV k) u):(bA P w).is k u=true:=by
 cases k with
 |inl i=>obtain⟨t,e⟩:=(show ∃t,u=Value.int i t from r);subst e;exact xr P w i t
 |inr x=>obtain⟨t,e⟩:=(show ∃t,u=Value.str x t from r);subst e;exact xq P w x t
theorem uf{P:Program}{w:World}:∀{ks:List Key}{us:List Value},Vals (ks.map kV) us->ItemsAre (bA P w) ks us
 | [],_,r=>by rw[List.map_nil] at r;cases r;exact .nil
 |k::ks,_,r=>by
  rw[List.map_cons] at r
  cases r with
  |cons h t=>exact .cons (ka h) (uf t)
abbrev KT(H:Hp):List (List Key×V)->List (List Key×Addr×Value)->Prop:=Paired fun p q=>p.1=q.1/\H q.2.1=some (.tup (p.1.map kV))/\RelV p.2 q.2.2
theorem KT.val{H:Hp}{aw:List (List Key×V)}{xs:List (List Key×Addr×Value)}(r:KT H aw xs)(k:List Key):oA (gc aw k) ((atKey xs k).map (·.2)):=by
 induction r with
 |nil=>exact True.intro
 | @cons p q ps qs h t ih=>
  obtain⟨h1,_,h2⟩:=h
  by_cases e:p.1=k
  ·have e':q.1=k:=h1.symm.trans e
   have b:atKey (q::qs) k=some q.2:=by simp[atKey,List.find?_cons,e']
   rw[iW e,b];exact h2
  ·have e':¬q.1=k:=fun z=>e (h1.trans z)
   have b:atKey (q::qs) k=atKey qs k:=by simp[atKey,List.find?_cons,e']
   rw[iX e,b];exact ih
theorem KT.Ka{H:Hp}{aw:List (List Key×V)}{xs:List (List Key×Addr×Value)}(r:KT H aw xs)(k:List Key){y:V}{u:Value}(ry:RelV y u) :
  KT H (aw.map fun kv=>if kv.1=k then(kv.1,y) else kv) (xs.map (putAt k u)):=by
 induction r with
 |nil=>exact .nil
 | @cons p q ps qs h t ih=>
  rw[List.map_cons,List.map_cons]
  refine .cons ?_ ih
  obtain⟨h1,h2,h3⟩:=h
  unfold putAt
  by_cases e:p.1=k
  ·rw[if_pos e,if_pos (h1.symm.trans e)];exact⟨h1,h2,ry⟩
  ·rw[if_neg e,if_neg (fun z=>e (h1.trans z))];exact⟨h1,h2,h3⟩
theorem KT.put{H:Hp}{aw:List (List Key×V)}{xs:List (List Key×Addr×Value)}(r:KT H aw xs)(k:List Key){b:Addr}{y:V}{u:Value}(hb:H b=some (.tup (k.map kV)))(ry:RelV y u) :
  KT H (putK aw k y) (storedH xs k b u):=by
 have e:(aw.any fun kv=>decide (kv.1=k))=(atKey xs k).isSome:=by
  rw[wx,(r.val k).gB,Option.isSome_map]
 unfold putK storedH
 rw[e]
 by_cases q:(atKey xs k).isSome=true
 ·rw[if_pos q,if_pos q];exact r.Ka k ry
 ·rw[if_neg q,if_neg q];exact Paired.snoc r ⟨rfl,hb,ry⟩
theorem KT.keeps{H H':Hp}{aw:List (List Key×V)}{xs:List (List Key×Addr×Value)}(r:KT H aw xs)(ht:∀b ys,H b=some (.tup ys)->H' b=some (.tup ys)):KT H' aw xs:=
 Paired.K7 r fun _ _ z=>⟨z.1,ht _ _ z.2.1,z.2.2⟩
section
variable {P:Program}{w:World}{H:Hp}{h:Heap}{a:Addr}
theorem DR{u:HO}(ok:lq P w H h)(e:Rd H a u):d8 P w H h a u:=e.ok ok
theorem lh{aw:List (Key×V)}(ok:lq P w H h)(e:Rd H a (.dK aw)):aw.length<=sizeLine/\(a==sysModules)=false/\∃vs,KV aw vs/\h.DictOf (bA P w) a vs:=
 show d8 P w H h a (.dK aw) from DR ok e
theorem Fm{aw:List (Key×V)}(ok:lq P w H h)(e:H a=some (.dK aw)):aw.length<=sizeLine/\(a==sysModules)=false/\∃vs,KV aw vs/\h.DictOf (bA P w) a vs:=lh ok (.inl e)
theorem lL{ks:List Key}(ok:lq P w H h)(e:H a=some (.tup (ks.map kV))):(tupleKind (bA P w)).is h ks a:=by
 obtain⟨_,its,r,o,h1,h2,n,h3⟩:=(show d8 P w H h a (.tup (ks.map kV)) from ok a _ e)
 exact⟨o,its.toArray,n,h1,h2,h3,by simpa using uf r⟩
theorem rC{aw:List (List Key×V)}(ok:lq P w H h)(e:Rd H a (.dT aw)):aw.length<=sizeLine/\(a==sysModules)=false /\
  ∃xs,KT H aw xs/\h.DictOfH (tupleKind (bA P w)) a xs:=by
 obtain⟨z,y,xs,r,o,es,ep,h1,h2,h3,h4,h5⟩:=(show d8 P w H h a (.dT aw) from DR ok e)
 refine⟨z,y,xs,r,o,es,ep,h1,h2,h3,h4,fun x hx=>?_,h5⟩
 have all:∀{l:List (List Key×V)}{m:List (List Key×Addr×Value)},KT H l m->∀x∈m,(tupleKind (bA P w)).is h x.1 x.2.1:=by
  intro l m q
  induction q with
  |nil=>intro x hx;exact nomatch hx
  | @cons p q ps qs hq t ih=>
   intro x hx
   rcases List.mem_cons.mp hx with e|hx
   ·subst e
    exact lL ok (by rw[<-hq.1];exact hq.2.1)
   ·exact ih x hx
 exact all r x hx
theorem Jq{aw:List (List Key×V)}(ok:lq P w H h)(e:H a=some (.dT aw)):aw.length<=sizeLine/\(a==sysModules)=false /\
  ∃xs,KT H aw xs/\h.DictOfH (tupleKind (bA P w)) a xs:=rC ok (.inl e)
end
def jF(H:Hp)(a:Addr)(y:V)(r:Option V):Prop:=
 (∃aw k,Rd H a (.dK aw)/\y=kV k/\r=gc aw k)\/∃aw k b,Rd H a (.dT aw)/\y=.ref b/\H b=some (.tup (k.map kV))/\r=gc aw k
def tm(H:Hp)(a:Addr)(y v:V)(H':Hp):Prop:=
 (∃aw k,H a=some (.dK aw)/\y=kV k/\aw.length<sizeLine/\H'=upd H a (.dK (putK aw k v))) \/
 ∃aw k b,H a=some (.dT aw)/\y=.ref b/\H b=some (.tup (k.map kV))/\aw.length<sizeLine/\H'=upd H a (.dT (putK aw k v))
theorem jF.k{H:Hp}{a:Addr}{aw:List (Key×V)}{k:Key}(e:H a=some (.dK aw)):jF H a (kV k) (gc aw k):=.inl ⟨aw,k,.inl e,rfl,rfl⟩
theorem jF.t{H:Hp}{a b:Addr}{aw:List (List Key×V)}{k:List Key}(e:H a=some (.dT aw))(eb:H b=some (.tup (k.map kV))):jF H a (.ref b) (gc aw k):=.inr ⟨aw,k,b,.inl e,rfl,eb,rfl⟩
theorem tm.k{H:Hp}{a:Addr}{aw:List (Key×V)}{k:Key}{v:V}(e:H a=some (.dK aw))(hl:aw.length<sizeLine):tm H a (kV k) v (upd H a (.dK (putK aw k v))):=.inl ⟨aw,k,e,rfl,hl,rfl⟩
theorem tm.t{H:Hp}{a b:Addr}{aw:List (List Key×V)}{k:List Key}{v:V}(e:H a=some (.dT aw))(eb:H b=some (.tup (k.map kV)))(hl:aw.length<sizeLine) :
  tm H a (.ref b) v (upd H a (.dT (putK aw k v))):=.inr ⟨aw,k,b,e,rfl,eb,hl,rfl⟩
section
variable {X:Cx}{pins:List (Addr×Obj)}{σ:St}{H:Hp}{s:Shared}{a:Addr}{y v:V}{u r:Value}{o:Option V}{A:Around}{E:Value->Shared->Prop}
theorem Inv.big(I:Inv X pins σ H s):sysModules<s.heap.objs.size:=by
 have h:mainGlobals<s.heap.objs.size:=(I.mod.glob.keeps I.bk).lt
 exact Nat.lt_trans (by decide) h
theorem Cd{Q:Value->Shared->Prop}(hu:A.units+1<cLine)(I:Inv X pins σ H s)(g:jF H a y (some v))(ry:RelV y u)(h:∀w' s',Inv X pins σ H s'->RelV v w'->Q w' s') :
  wpAny (model X.prog X.w) A (getItem (.ref a) u) Q E s:=by
 rcases g with⟨aw,k,e,ey,l⟩|⟨aw,k,b,e,ey,eb,l⟩
 ·subst ey
  obtain⟨z,hd,vs,rel,dd⟩:=lh I.cb e
  obtain⟨w',hw,BC⟩:=oA.some_of (v:=v) (o:=valueAt vs k) (by rw[l];exact rel.val k)
  exact wpAny_getItem_of (ka ry) dd.mapOf hw (h w' _ (I.tok _) BC)
 ·subst ey
  cases (show u=Value.ref b from ry)
  obtain⟨z,hd,xs,rel,dd⟩:=rC I.cb e
  obtain⟨w',hw,BC⟩:=oA.some_of (v:=v) (o:=(atKey xs k).map (·.2)) (by rw[l];exact rel.val k)
  obtain⟨p,hp,ET⟩:=Option.map_eq_some_iff.mp hw
  refine wpAny_getItem_heap (tupleKind_room_in1 hu) (lL I.cb eb) dd hp ?_
  rw[ET]
  exact h w' _ (I.tok _) BC
theorem Uc{Q:Value->Shared->Prop}(hu:A.units+1<cLine)(I:Inv X pins σ H s)(g:jF H a y o)(ry:RelV y u)(h:∀s',Inv X pins σ H s'->Q (.bool o.isSome) s') :
  wpAny (model X.prog X.w) A (compareOp .In u (.ref a)) Q E s:=by
 rcases g with⟨aw,k,e,ey,l⟩|⟨aw,k,b,e,ey,eb,l⟩
 ·subst ey
  obtain⟨z,hd,vs,rel,dd⟩:=lh I.cb e
  refine wpAny_in_of (ka ry) hd dd.mapOf ?_
  rw[<-(rel.val k).gB,<-l]
  exact h _ (I.tok _)
 ·subst ey
  cases (show u=Value.ref b from ry)
  obtain⟨z,hd,xs,rel,dd⟩:=rC I.cb e
  refine wpAny_in_heap (tupleKind_room_in1 hu) (lL I.cb eb) hd dd ?_
  have q:=(rel.val k).gB
  rw[Option.isSome_map] at q
  rw[<-q,<-l]
  exact h _ (I.tok _)
theorem Iq{Q:Value->Shared->Prop}(hu:A.units+1<cLine)(I:Inv X pins σ H s)(g:jF H a y o)(ry:RelV y u)(h:∀s',Inv X pins σ H s'->Q (.bool (!o.isSome)) s') :
  wpAny (model X.prog X.w) A (compareOp .NotIn u (.ref a)) Q E s:=by
 rcases g with⟨aw,k,e,ey,l⟩|⟨aw,k,b,e,ey,eb,l⟩
 ·subst ey
  obtain⟨z,hd,vs,rel,dd⟩:=lh I.cb e
  refine wpAny_notIn_of (ka ry) hd dd.mapOf ?_
  rw[<-(rel.val k).gB,<-l]
  exact h _ (I.tok _)
 ·subst ey
  cases (show u=Value.ref b from ry)
  obtain⟨z,hd,xs,rel,dd⟩:=rC I.cb e
  refine wpAny_notIn_heap (tupleKind_room_in1 hu) (lL I.cb eb) hd dd ?_
  have q:=(rel.val k).gB
  rw[Option.isSome_map] at q
  rw[<-q,<-l]
  exact h _ (I.tok _)
theorem mI{h':Heap}{t':Nat}{ob:HO}(I:Inv X pins σ H s)(mu:Pr (H a))(hs:Heap.SameBut a s.heap h')(he:∃q,h'.get? a=some q)(new:d8 X.prog X.w (upd H a ob) h' a ob) :
  Inv X pins σ (upd H a ob) {s with heap:=h',toks:=t'}:=
 I.write (x:=a) (e:=a) mu (.inl rfl) (fun b q hb z=>(hs.2 b hb).trans z) he new
theorem rD{P:Program}{w:World}{H':Hp}{h':Heap}{aw:List (Key×V)}{vs:List (Key×Value)}(z:aw.length<=sizeLine)(hd:(a==sysModules)=false)(rel:KV aw vs)(dd:h'.DictOf (bA P w) a vs) :
  d8 P w H' h' a (.dK aw):=⟨z,hd,vs,rel,dd⟩
theorem Cc{H':Hp}{Q:Unit->Shared->Prop}(hu:A.units+1<cLine)(I:Inv X pins σ H s)(g:tm H a y v H')(ry:RelV y u)(rv:RelV v r)(h:∀s',Inv X pins σ H' s'->Q () s') :
  wpAny (model X.prog X.w) A (setItem (.ref a) u r) Q E s:=by
 rcases g with⟨aw,k,e,ey,l,eH⟩|⟨aw,k,b,e,ey,eb,l,eH⟩
 ·subst ey eH
  obtain⟨z,hd,vs,rel,dd⟩:=Fm I.cb e
  have hz:vs.length<=sizeLine:=by rw[<-rel.length];exact z
  have hl:(putK aw k v).length<=sizeLine:=by have:=gO aw k v;omega
  refine wpAny_setItem_pairs (hsz:=hz) (ka ry) dd fun h' xU hs=>h _ ?_
  have he:∃q,h'.get? a=some q:=let ⟨q,_,_,hq,_⟩:=xU;⟨q,hq⟩
  exact mI I (by rw[e];exact True.intro) hs he (rD hl hd (rel.put k rv) xU)
 ·subst ey eH
  cases (show u=Value.ref b from ry)
  obtain⟨z,hd,xs,rel,dd⟩:=Jq I.cb e
  have hz:xs.length<=sizeLine:=by rw[<-Paired.length rel];exact z
  have hl:(putK aw k v).length<=sizeLine:=by have:=gO aw k v;omega
  refine wpAny_setItem_heap (hsz:=hz) (tupleKind_room_in1 hu) (lL I.cb eb) dd fun h' xU hs=>h _ ?_
  obtain⟨q,es,ep,hq,h2,h3,h4,_,h5⟩:=xU
  refine mI I (by rw[e];exact True.intro) hs ⟨q,hq⟩ ⟨hl,hd,_,(rel.put k eb rv).keeps fun c ys ec=>?_,q,es,ep,hq,h2,h3,h4,h5⟩
  rw[aE (Eu ec e (fun z=>nomatch z))]
  exact ec
end
section
variable {X:Cx}{pins:List (Addr×Obj)}{σ:St}{H:Hp}{s:Shared}{a:Addr}{aw:List (Key×V)}{k:Key}{u:Value}{A:Around}{E:Value->Shared->Prop}
end
def vY(i:Expr):Prop:=∀ov iv,subscripted i false ov iv=operate [ov,iv] (getItem ov iv)
theorem zT{prog:Program}{w:World}{A:Around}{E:Value->Shared->Prop}{s:Shared}{env:Env}{value slice:Expr}{pos:Pos}{T id:String}{Q:Value->Shared->Prop}
  (hl:typeLookup (.type T) "__getitem__" = pure (some (.builtin id))) (hs:vY slice)
  (h:wpAny (model prog w) A (eval value env) (fun o cG=>wpAny (model prog w) A (eval slice env) (fun i nv=>nv.TypeIs o T/\wpAny (model prog w) A (getItem o i) Q E nv) E cG) E s) :
  wpAny (model prog w) A (eval (.Subscript value slice pos) env) Q E s:=by
 refine Subscript_ (wpAny_mono h (fun o cG SJ=>wpAny_mono SJ (fun i nv Lq=>?_) fun _ _ x=>x) fun _ _ x=>x)
 obtain⟨hT,Lq⟩:=Lq
 unfold subscriptTail
 refine wpAny_bind ?_
 rw[getitemInPython_of_ne hT.not_modules]
 refine wpAny_bind (wpAny_specialOf hT hl ?_)
 have fin:wpAny (model prog w) A (subscripted slice false o i) (fun r Gy=>wpAny (model prog w) A (letTemporaryGo value o r >>= fun _=>pure r) Q E Gy) E nv:=by
  rw[hs o i]
  exact wpAny_operating (wpAny_mono Lq (fun r Gy SI=>wpAny_bind (wpAny_letTemporaryGo (wpAny_pure SI))) fun _ _ x=>x)
 first
  |exact wpAny_pure (wpAny_bind fin)
  |exact wpAny_bind (wpAny_pure (wpAny_bind fin))
  |exact wpAny_bind fin
theorem xQ{X:Cx}{pins:List (Addr×Obj)}{σ:St}{H:Hp}{s:Shared}{a:Addr}{y:V}{o:Option V}(I:Inv X pins σ H s)(g:jF H a y o):s.TypeIs (.ref a) "dict":=by
 rcases g with⟨aw,k,e,_,_⟩|⟨aw,k,b,e,_,_,_⟩
 ·obtain⟨_,_,vs,_,dd⟩:=lh I.cb e
  exact dd.typeIs
 ·obtain⟨_,_,xs,_,dd⟩:=rC I.cb e
  exact dd.typeIs
def zR(td ty:TE):TE:=fun σ H Q=>td σ H fun x H1=>ty σ H1 fun y H2=>∃a v,x=.ref a/\jF H2 a y (some v)/\Q v H2
def Nw(ty td:TE):TE:=fun σ H Q=>ty σ H fun y H1=>td σ H1 fun x H2=>∃a o,x=.ref a/\jF H2 a y o/\Q (.bl o.isSome) H2
def zQ(ty td:TE):TE:=fun σ H Q=>ty σ H fun y H1=>td σ H1 fun x H2=>∃a o,x=.ref a/\jF H2 a y o/\Q (.bl (!o.isSome)) H2
def DM(td ty tv:TE):TS:=fun D σ H=>tv σ H fun v H1=>td σ H1 fun x H2=>ty σ H2 fun y H3=>∃a H4,x=.ref a/\tm H3 a y v H4/\D.nx σ H4
def U4(td ty tv:TE)(rd:V->V->Hp->VK->Prop):TS:=fun D σ H=>td σ H fun x H1=>ty σ H1 fun y H2=>∃a v,x=.ref a/\jF H2 a y (some v) /\
 tv σ H2 fun y2 H3=>rd v y2 H3 fun z H4=>∃H5,tm H4 a y z H5/\D.nx σ H5
def U1(td ty:TE):TS:=fun D σ H=>td σ H fun x H1=>ty σ H1 fun y H2=>∃a aw k,x=.ref a/\H2 a=some (.dK aw)/\y=kV k/\(gc aw k).isSome=true/\D.nx σ (upd H2 a (.dK (xO aw k)))
section
variable {X:Cx}{o i e value:Expr}{pos pos' yq:Pos}{td ty tv:TE}
theorem Ab(hu:X.A.units+1<cLine)(ho:PE X o td)(hi:PE X i ty)(hs:vY i):PE X (.Subscript o i pos) (zR td ty):=by
 intro pins s σ H Q I h
 refine zT PySem.F.slot_dict_getitem.lookup hs (cq (ho pins s σ H _ I h) fun u s1 ⟨x,H1,I1,rx,q1⟩=>cq (hi pins s1 σ H1 _ I1 q1) fun iv s2 ⟨y,H2,I2,ry,a,v,ex,g,q2⟩=>?_)
 subst ex
 obtain rfl:u=Value.ref a:=rx
 exact⟨xQ I2 g,Cd hu I2 g ry fun w' s3 I3 BC=>⟨v,H2,I3,BC,q2⟩⟩
theorem KG(hu:X.A.units+1<cLine)(hi:PE X i ty)(ho:PE X o td):PC X .In i o (Nw ty td):=by
 intro pins s σ H Q I h
 refine cq (hi pins s σ H _ I h) fun iv s1 ⟨y,H1,I1,ry,q1⟩=>cq (ho pins s1 σ H1 _ I1 q1) fun u s2 ⟨x,H2,I2,rx,a,ov,ex,g,q2⟩=>?_
 subst ex
 obtain rfl:u=Value.ref a:=rx
 exact Uc hu I2 g ry fun s3 I3=>⟨.bl ov.isSome,H2,I3,rfl,q2⟩
theorem BM(hu:X.A.units+1<cLine)(hi:PE X i ty)(ho:PE X o td):PC X .NotIn i o (zQ ty td):=by
 intro pins s σ H Q I h
 refine cq (hi pins s σ H _ I h) fun iv s1 ⟨y,H1,I1,ry,q1⟩=>cq (ho pins s1 σ H1 _ I1 q1) fun u s2 ⟨x,H2,I2,rx,a,ov,ex,g,q2⟩=>?_
 subst ex
 obtain rfl:u=Value.ref a:=rx
 exact Iq hu I2 g ry fun s3 I3=>⟨.bl (!ov.isSome),H2,I3,rfl,q2⟩
theorem z9(hu:X.A.units+1<cLine)(ho:PE X o td)(hi:PE X i ty)(hv:PE X value tv)(hs:swapsWith value (some (.Subscript o i pos')) pos.line X.env=pure false) :
  PS X (.Assign [.Subscript o i pos'] value pos) (DM td ty tv):=by
 intro pins s σ H D I h
 refine wpAny_Assign_Subscript (cq (hv pins s σ H _ I h) fun r s1 ⟨v,H1,I1,rv,q1⟩=>cq (ho pins s1 σ H1 _ I1 q1) fun u s2 ⟨x,H2,I2,rx,q2⟩=>cq (hi pins s2 σ H2 _ I2 q2) fun iv s3 ⟨y,H3,I3,ry,a,H4,ex,g,q3⟩=>?_) hs
 subst ex
 obtain rfl:u=Value.ref a:=rx
 exact Cc hu I3 g ry rv fun s4 I4=>⟨σ,H4,I4,q3⟩
end
theorem rE{P:Program}{w:World}{H:Hp}(h:Heap)(hb:sysModules<h.objs.size):d8 P w H (h.push {cls:=.type "dict",data:=.dict #[]}) h.objs.size (.dK []):=
 ⟨Nat.zero_le _,beq_eq_false_iff_ne.mpr (Ne.symm (Nat.ne_of_lt hb)),[],.nil,Heap.DictOf.new h⟩
theorem Fi{P:Program}{w:World}{H:Hp}(h:Heap)(hb:sysModules<h.objs.size):d8 P w H (h.push {cls:=.type "dict",data:=.dict #[]}) h.objs.size (.dT []):=
 ⟨Nat.zero_le _,beq_eq_false_iff_ne.mpr (Ne.symm (Nat.ne_of_lt hb)),[],.nil,_,#[],0,Heap.get?_push_size _ rfl,⟨rfl,rfl,rfl⟩,rfl,rfl,List.nodup_nil⟩
def C5:TE:=fun _ H Q=>∀p,H p=none->Q (.ref p) (upd H p (.dK []))
def RW:TE:=fun _ H Q=>∀p,H p=none->Q (.ref p) (upd H p (.dT []))
section
variable {X:Cx}{pos:Pos}
theorem Eb:PE X (.Dict [] [] pos) C5:=fun pins s σ H Q I h=>
 wpAny_Dict_empty ⟨.ref s.heap.objs.size,_,I.laid (a:=s.heap.objs.size) (o:=.dK []) (t':=s.toks) (fun _ _ q=>Heap.get?_push_of_some _ q) (Nat.le_refl _) (rE s.heap I.big),rfl,h _ (I.cb.fresh (Nat.le_refl _))⟩
end
def yu:List (TE×TE)->St->Hp->(List (V×V)->Hp->Prop)->Prop
 | [],_,H,Q=>Q [] H
 |(tk,tv)::r,σ,H,Q=>tk σ H fun x H1=>tv σ H1 fun y H2=>yu r σ H2 fun ps H3=>Q ((x,y)::ps) H3
abbrev VV:List (V×V)->List (Value×Value)->Prop:=Paired fun p q=>RelV p.1 q.1/\RelV p.2 q.2
def Pn(X:Cx)(pos:Pos)(keys:List (Option Expr))(values:List Expr)(Gu:List (TE×TE)):Prop:=
 ∀(pins:List (Addr×Obj)) (s:Shared) (σ:St) (H:Hp) (Q:List (V×V)->Hp->Prop),Inv X pins σ H s->yu Gu σ H Q ->
  wpAny (model X.prog X.w) X.A (evalPairs (pairTrees keys values X.env pos)) (fun vs s'=>∃ps H',Inv X pins σ H' s'/\VV ps vs/\Q ps H') X.xe s
theorem Hg{X:Cx}{pos:Pos}:Pn X pos [] [] []:=fun pins s σ H Q I h=>pairTrees_nil_walk ⟨[],H,I,.nil,h⟩
theorem D8{X:Cx}{pos:Pos}{k v:Expr}{ks:List (Option Expr)}{vs:List Expr}{tk tv:TE}{Gu:List (TE×TE)}(hk:PE X k tk)(hv:PE X v tv)(hr:Pn X pos ks vs Gu) :
  Pn X pos (some k::ks) (v::vs) ((tk,tv)::Gu):=fun pins s σ H Q I h=>
 pairTrees_cons_walk (cq (hk pins s σ H _ I h) fun u s1 ⟨x,H1,I1,rx,q1⟩=>cq (hv pins s1 σ H1 _ I1 q1) fun w2 s2 ⟨y,H2,I2,ry,q2⟩=>
  cq (hr pins s2 σ H2 _ I2 q2) fun ws s3 ⟨ps,H3,I3,rel,q3⟩=>⟨(x,y)::ps,H3,I3,.cons ⟨rx,ry⟩ rel,q3⟩)
def n4(aw more:List (Key×V)):List (Key×V):=more.foldl (fun acc kv=>putK acc kv.1 kv.2) aw
theorem KV.merge:∀{more:List (Key×V)}{rs:List (Key×Value)}{aw:List (Key×V)}{vs:List (Key×Value)},KV more rs->KV aw vs->KV (n4 aw more) (merged vs rs):=by
 intro more rs aw vs r
 unfold KV at r
 induction r generalizing aw vs with
 |nil=>intro q;exact q
 | @cons p q ps qs h t ih=>
  intro r0
  have e:KV (putK aw p.1 p.2) (stored vs q.1 q.2):=by
   have:=r0.put p.1 h.2
   rw[<-h.1];exact this
  exact ih e
theorem la:∀(more aw:List (Key×V)),(n4 aw more).length<=aw.length+more.length
 | [],aw=>by show aw.length<=aw.length+0;omega
 |p::r,aw=>by
  have h1:=la r (putK aw p.1 p.2)
  have h2:=gO aw p.1 p.2
  show(n4 (putK aw p.1 p.2) r).length<=_
  rw[List.length_cons];omega
theorem rN{P:Program}{w:World}:∀{aw:List (Key×V)}{ws:List (Value×Value)},VV (aw.map fun kv=>(kV kv.1,kv.2)) ws->∃rs,Carries (bA P w) ws rs/\KV aw rs
 | [],_,r=>by rw[List.map_nil] at r;cases r;exact⟨[],True.intro,.nil⟩
 |p::aw,_,r=>by
  rw[List.map_cons] at r
  cases r with
  | @cons a b as bs h t=>
   obtain⟨rs,c,q⟩:=rN (P:=P) (w:=w) t
   obtain⟨b1,b2⟩:=b
   exact⟨(p.1,b2)::rs,⟨ka h.1,rfl,c⟩,.cons ⟨rfl,h.2⟩ q⟩
def IJ(Gu:List (TE×TE)):TE:=fun σ H Q=>∀p,H p=none->yu Gu σ (upd H p (.dK [])) fun ps H2=>H2 p=some (.dK [])/\∃aw:List (Key×V),ps=aw.map (fun kv=>(kV kv.1,kv.2))/\aw.length<=15/\Q (.ref p) (upd H2 p (.dK (n4 [] aw)))
theorem Hs{X:Cx}{pos:Pos}{keys:List (Option Expr)}{values:List Expr}{Gu:List (TE×TE)}(h:Pn X pos keys values Gu)(E5:keys.all (·.isSome)=true)(hl:keys.length=values.length)(h0:keys≠[])
  (Zm:keys.length<=15):PE X (.Dict keys values pos) (IJ Gu):=by
 intro pins s σ H Q I q
 have hn:=I.cb.fresh (Nat.le_refl s.heap.objs.size)
 have I1:=I.laid (a:=s.heap.objs.size) (o:=.dK []) (h':=s.heap.push {cls:=.type "dict",data:=.dict #[]}) (t':=s.toks) (fun _ _ q=>Heap.get?_push_of_some _ q) (Nat.le_refl _) (rE s.heap I.big)
 refine wpAny_Dict_walk (knd:=bA X.prog X.w) E5 hl h0 Zm (cq (h pins _ σ _ _ I1 (q _ hn)) fun ws s2 ⟨ps,H2,I2,rel,e,aw,ep,lk,q2⟩=>?_)
 subst ep
 obtain⟨rs,c,rk⟩:=rN (P:=X.prog) (w:=X.w) rel
 obtain⟨z,hd,Qp,r0,dd⟩:=Fm I2.cb e
 cases r0
 refine⟨rs,c,dd,fun h' xU hs=>⟨.ref s.heap.objs.size,_,?_,rfl,q2⟩⟩
 have hz:(n4 [] aw).length<=sizeLine:=by
  have h1:=la aw []
  rw[List.length_nil] at h1
  rw[sizeLine_eq];omega
 have he:∃q,h'.get? s.heap.objs.size=some q:=let ⟨q,_,_,hq,_⟩:=xU;⟨q,hq⟩
 exact mI I2 (by rw[e];exact True.intro) hs he (rD hz hd (rk.merge .nil) xU)
structure M1(X:Cx)(o:Expr)(m:Str)(apos:Pos)(e:Expr)(bR:Pos):Prop where
 base:attributeBase o m X.env (eval o X.env)=eval o X.env
 WI:((backTo bR (starEach [e] X.env)).all (fun x=>!x.1)&&(backToKw bR (keywordEach [] X.env)).all (fun x=>x.1.isSome)
  && decide (([e]:List Expr).length+([]:List Keyword).length+(if ([]:List Keyword).isEmpty then 0 else 1)<30))=true
 line:(apos.endLine==bR.line)=true
 trees:backTo bR (starEach [e] X.env)=[(false,eval e X.env)]
structure M2(X:Cx)(o:Expr)(m:Str)(apos:Pos)(e f:Expr)(bR:Pos):Prop where
 base:attributeBase o m X.env (eval o X.env)=eval o X.env
 WI:((backTo bR (starEach [e,f] X.env)).all (fun x=>!x.1)&&(backToKw bR (keywordEach [] X.env)).all (fun x=>x.1.isSome)
  && decide (([e,f]:List Expr).length+([]:List Keyword).length+(if ([]:List Keyword).isEmpty then 0 else 1)<30))=true
 line:(apos.endLine==bR.line)=true
 trees:backTo bR (starEach [e,f] X.env)=[(false,eval e X.env),(false,eval f X.env)]
def Mg(H:Hp)(a:Addr):Prop:=(∃aw,Rd H a (.dK aw))\/∃aw,Rd H a (.dT aw)
theorem y_{X:Cx}{pins:List (Addr×Obj)}{σ:St}{H:Hp}{s:Shared}{a:Addr}(I:Inv X pins σ H s)(d:Mg H a) :
  s.TypeIs (.ref a) "dict"/\(∀b,Value.ref a=.ref b->∃ob,s.heap.get? b=some ob/\ob.dict=none)/\(a==sysModules)=false:=by
 rcases d with⟨aw,e⟩|⟨aw,e⟩
 ·obtain⟨_,hd,vs,_,dd⟩:=lh I.cb e
  refine⟨dd.typeIs,fun b q=>?_,hd⟩
  cases q
  obtain⟨ob,_,_,h1,h2,_⟩:=dd
  exact⟨ob,h1,h2.2.1⟩
 ·obtain⟨_,hd,xs,_,dd⟩:=rC I.cb e
  refine⟨dd.typeIs,fun b q=>?_,hd⟩
  cases q
  obtain⟨ob,_,_,h1,h2,_⟩:=dd
  exact⟨ob,h1,h2.2.1⟩
section
variable {X:Cx}{pins:List (Addr×Obj)}{σ:St}{H:Hp}{s:Shared}{a:Addr}{y d:V}{u r:Value}{o:Option V}{A:Around}{E:Value->Shared->Prop}
theorem L9{Q:Value->Shared->Prop}(hu:A.units+1<cLine)(I:Inv X pins σ H s)(g:jF H a y o)(ry:RelV y u)(rd:RelV d r)(h:∀w' s',Inv X pins σ H s'->RelV (o.getD d) w'->Q w' s') :
  wpAny (model X.prog X.w) A (call (.builtin "dict.get") [.ref a,u,r]) Q E s:=by
 rcases g with⟨aw,k,e,ey,l⟩|⟨aw,k,b,e,ey,eb,l⟩
 ·subst ey
  obtain⟨z,hd,vs,rel,dd⟩:=lh I.cb e
  refine call_meetsIn PySem.F.slot_dict_get dd.typeIs PySem.F.entry_dict_get (PySem.F.args_dict_get_3 _ _ _) (meets_dict_get_default (bA X.prog X.w) a (ka ry) hd r) ⟨_,dd.mapOf,h _ _ (I.tok _) ?_⟩
  rw[l]
  exact(rel.val k).getD rd
 ·subst ey
  cases (show u=Value.ref b from ry)
  obtain⟨z,hd,xs,rel,dd⟩:=rC I.cb e
  refine call_meetsIn PySem.F.slot_dict_get dd.typeIs PySem.F.entry_dict_get (PySem.F.args_dict_get_3 _ _ _) (meetsH_dict_get_default (tupleKind (bA X.prog X.w)) a b hd r) ⟨tupleKind_room_in1 hu,k,xs,lL I.cb eb,dd,h _ _ (I.tok _) ?_⟩
  rw[l]
  exact(rel.val k).getD rd
end
def RX(td ty:TE):TE:=fun σ H Q=>td σ H fun x H1=>∃a,x=.ref a/\Mg H1 a/\ty σ H1 fun y H2=>∃o,jF H2 a y o/\Q (o.getD .bJ) H2
def C6(td ty tx:TE):TE:=fun σ H Q=>td σ H fun x H1=>∃a,x=.ref a/\Mg H1 a/\ty σ H1 fun y H2=>tx σ H2 fun z H3=>∃o,jF H3 a y o/\Q (o.getD z) H3
def RV(td ty:TE):TE:=fun σ H Q=>td σ H fun x H1=>∃a,x=.ref a/\Mg H1 a/\ty σ H1 fun y H2=>∃aw k v,H2 a=some (.dK aw)/\y=kV k/\gc aw k=some v/\Q v (upd H2 a (.dK (xO aw k)))
def RU(td ty tx:TE):TE:=fun σ H Q=>td σ H fun x H1=>∃a,x=.ref a/\Mg H1 a/\ty σ H1 fun y H2=>tx σ H2 fun z H3=>∃aw k,H3 a=some (.dK aw)/\y=kV k /\
 (∀v,gc aw k=some v->Q v (upd H3 a (.dK (xO aw k))))/\(gc aw k=none->Q z H3)
section
variable {X:Cx}{o e f:Expr}{apos bR:Pos}{td ty tx:TE}
theorem Ec(hu:X.A.units+1<cLine)(ho:PE X o td)(he:PE X e ty)(hf:PE X f tx)(m:M2 X o "get" apos e f bR):PE X (.Call (.Attribute o "get" apos) [e,f] [] bR) (C6 td ty tx):=by
 intro pins s σ H Q I h
 refine wpAny_Call_method m.base m.WI m.line PySem.F.plainAttrs_dict PySem.F.slot_dict_get PySem.F.type_dict_get (cq (ho pins s σ H _ I h) fun u s1 ⟨x,H1,I1,rx,a,ex,d,q1⟩=>?_)
 subst ex
 obtain rfl:u=Value.ref a:=rx
 obtain⟨t1,t2,_⟩:=y_ I1 d
 refine⟨t1,t2,?_⟩
 rw[m.trees]
 refine Calls.callWith_builtin rfl (Calls.evalArgs_plain (Calls.spliced_cons (cq (he pins s1 σ H1 _ I1 q1) fun iv s2 ⟨y,H2,I2,ry,q2⟩=>
  Calls.spliced_cons (cq (hf pins s2 σ H2 _ I2 q2) fun fv s3 ⟨z,H3,I3,rz,ov,g,q3⟩=>Calls.spliced_nil ?_))))
 exact L9 hu I3 g ry rz fun w' s4 I4 BC=>⟨_,H3,I4,BC,q3⟩
end
section
variable {X:Cx}{pins:List (Addr×Obj)}{σ:St}{H:Hp}{s:Shared}{a:Addr}{aw:List (Key×V)}{A:Around}{E:Value->Shared->Prop}
theorem Fp{Q:Value->Shared->Prop}(I:Inv X pins σ H s)(e:Rd H a (.dK aw))(h:∀p s',H p=none->Inv X pins σ (upd H p (.dK aw)) s'->Q (.ref p) s'):wpAny (model X.prog X.w) A (call (.type "dict") [.ref a]) Q E s:=by
 obtain⟨z,hd,vs,rel,dd⟩:=lh I.cb e
 refine kt_call_dict hd dd (by rw[<-rel.length];exact z) fun h' xU hs=>?_
 refine h _ _ (I.cb.fresh (Nat.le_refl _)) (I.laid (a:=s.heap.objs.size) (o:=.dK aw) (t':=s.toks) (fun b q hq=>?_) (Nat.le_refl _) (rD z (beq_eq_false_iff_ne.mpr (Ne.symm (Nat.ne_of_lt I.big))) rel xU))
 exact(hs.2 b (Nat.ne_of_lt (Heap.lt_size hq))).trans (Heap.get?_push_of_some _ hq)
end
section
variable {X:Cx}{pins:List (Addr×Obj)}{σ:St}{H:Hp}{s:Shared}{a:Addr}{y:V}{u:Value}{A:Around}{E:Value->Shared->Prop}
end
end L2
namespace WW
open PySem PySem.W PySem.Calls PyProof.Rows
theorem pF{P:Params}{h:Heap}:∀(ns:List Int) (vs:List Value),WellAll P h vs (ns.map WData.int)->IntsAre vs ns:=by
 intro ns
 induction ns with
 |nil=>
  intro vs w
  rw[List.map_nil] at w
  cases w
  exact .nil
 |cons n ns ih=>
  intro vs w
  rw[List.map_cons] at w
  cases w with
  |cons a b=>
   cases a
   exact .cons _ _ (ih _ b)
theorem Bz{l:OpenLaw}{n:Nat}(hn:l.most=some n){P:Params}{h:Heap}{args:List WData}{vals:List Value}
  (sV:l.row.toRowW.claim.pre args=true) (QR:WellAll P h vals args) :
  ∃a vs ns,vals=[Value.ref a]/\args=[WData.list (ns.map WData.int)]/\h.get? a=some {cls:=.type "list",data:=.seq vs.toArray}/\IntsAre vs ns/\ns.length<=n:=by
 have Yd:WShape.hasAll [] args [.list .int]=true:=(pre_splitW sV).1
 have hc:l.pre.holds [] {args:=args}=true:=(pre_splitW sV).2
 obtain⟨d,r,rfl,h1,h2⟩:=hasAllW_cons Yd
 obtain rfl:=hasAllW_nil h2
 obtain⟨xs,rfl,h3⟩:=hasW_list h1
 obtain⟨ns,rfl⟩:=items_int h3
 have hlen:ns.length<=n:=by
  unfold OpenLaw.pre at hc
  have h4:(WTm.not (.lt (.lit (.int (n:Int))) (.len (.arg 0)))).holds [] {args:=[.list (ns.map .int)]}=true:=by
   have h4:=(holds_andW hc).1
   rw[hn] at h4
   exact h4
  have h5:=condW_of h4 (w_not (w_lt w_lit (w_len_list (w_arg rfl))))
  rw[List.length_map] at h5
  refine Nat.le_of_not_lt fun q=>?_
  have q':(n:Int)<((ns.length:Nat):Int):=by omega
  first
   |(rw[decide_eq_true q'] at h5;exact absurd h5 (by decide))
   |(simp at h5;omega)
 cases QR with
 |cons w1 w2=>
  cases w2
  cases w1 with
  |list ho E5=>exact⟨_,_,ns,rfl,rfl,ho,pF ns _ E5,hlen⟩
theorem BI(l:OpenLaw)(args:List WData):l.row.toRowW.claim.post args (.bool true) args=true:=
 postW_of (r:=l.row.toRowW) (X:=(true==true))
  (show WShape.has [] (.bool true) .bool=true by first|rfl|decide|simp[WShape.has,WShape.arms,WShape.armsAll])
  (show(WTm.eq .res (.lit (.bool true))).value [] {args:=args,res:=some (.bool true),after:=args}=some (.bool (true==true)) from w_eq_bool (w_res rfl) w_lit) rfl
theorem xY{l:OpenLaw}{n:Nat}{q:Program}{loose:List Str}{XP:(Str->Option Value)->Heap->Prop}{YP:World->Heap->Prop}{d:DefRec}
  (hn:l.most=some n) (sW:d.params.defaults=[])
  (call:∀(w:World) (gW cG:Shared) (mg mb:Str->Option Value) (fa:Addr) (o:Obj) (pm cd doc:Value) (a:Addr) (vs:List Value) (ns:List Int),
   Ground q loose [] XP w gW mg mb cG.heap->YP w cG.heap ->
   cG.heap.get? fa=some o->o.data=.func (docDef d.name d.params d.body d.scope pm cd doc)->cG.heap.CodeRec cd d.name->mg d.name=some (.ref fa) ->
   cG.heap.get? a=some {cls:=.type "list",data:=.seq vs.toArray}->IntsAre vs ns->ns.length<=n->cG.gens = #[] ->
   codeAny (model l.prog w) callerA (.call (.ref fa) ⟨[.ref a],[]⟩) (fun r s'=>r=.ok (.ret (.bool true))/\OldK cG.heap s'.heap/\s'.os=cG.os/\AllBare s'.gens) cG) :
  WalkO q loose XP YP l.row.toRowW d [] (fun f vs=>PySem.call f vs):=by
 intro w gW cG mg mb G Y fa o pm cd doc dV kV ho hd fB hD Q5 hg args vals as sV Yx Z_ QR hlo
 obtain rfl:dV=.none:=Dflts.none hD sW
 obtain rfl:kV=.none:=Dflts.noKw hD
 obtain⟨a,vs,ns,rfl,rfl,LC,hints,hlen⟩:=Bz hn sV QR
 refine enter_call (codeAny_mono (call w gW cG mg mb fa o pm cd doc a vs ns G Y ho (fd_plain hd) fB Q5 LC hints hlen hg) fun r s' hq=>?_)
 obtain⟨rfl,h2,h3,h4⟩:=hq
 exact⟨.inl ⟨.bool true,.bool true,[],rfl,fun _=>rfl,.bool true,BI l _,fun _=>⟨List.Pairwise.nil,fun _ hm=>(nomatch hm)⟩⟩,h2,h3,h4⟩
section
variable {prog:Program}{w:World}{A:Around}{E:Value->Shared->Prop}{s:Shared}{K:Frag}
def Sq(h:Heap):Heap:={h with objs:=#[]}
def ledger(h:Heap)(L d:Addr):List (Addr×Obj):=(List.range h.objs.size).filterMap fun a=>if a=L\/a=d then none else(h.get? a).map fun o=>(a,o)
end
end WW
namespace L2
open PySem PySem.Spec PyProof.Rows
theorem tJ:∀{vs:List Value}{ns:List Int},IntsAre vs ns->Vals (ns.map V.int) vs
 |_,_,.nil=>.nil
 |_,_,.cons n t h=>.cons ⟨t,rfl⟩ (tJ h)
def Po(H:Hp):Prop:=∀b,H b=none\/∃o xs,H b=some (.aT o (.lst xs))
theorem EC{P:Program}{w:World}{K:PySem.W.Frag}{mg mb:Str->Option Value}{CX:Cz}{k:Nat}{fa a:Addr}{fd:FuncData}{x:Str}{sp:Sp}{cG:Shared}{vs:List Value}{ns:List Int}
  (KX:K.In cG.heap) (Q1:cG.heap.Ns mainGlobals mg) (hb:cG.heap.Ns builtinsNs mb) (uq:∀x:Str,x≠"__name__"->mb x=bootBuiltins x) (Tn:cG.heap.NoLimit) (hg:cG.gens = #[])
  (ha:cG.heap.get? a=some {cls:=.type "list",data:=.seq vs.toArray}) (hi:IntsAre vs ns) (hl:ns.length<=sizeLine) (hr:eB k callerA)
  (F:∀base:Heap,K.In base->base.Ns mainGlobals mg->cA P w K mg base CX k fa fd [x] sp) (OO:∀(s:Shared) (u:Value),BindsTo s fd ⟨[u],[]⟩ [(x,u)])
  (Jh:∀H:Hp,Po H->je K H a (ns.map V.int)->sp [.ref a] H (fun v _=>v=.bl true) fun _ _ _=>False)
  (Zi:∀H e s',CX [] H cG (fun _ _ _=>False) e s'->False) :
  codeAny (model P w) callerA (.call (.ref fa) ⟨[.ref a],[]⟩) (fun r s'=>r=.ok (.ret (.bool true))/\OldK cG.heap s'.heap/\s'.os=cG.os/\AllBare s'.gens) cG:=by
 have rv:=tJ hi
 have Sz:=hi.length
 have core:∀H:Hp,Po H->je K H a (ns.map V.int)->lq P w H cG.heap->(∀b,H b≠none->b=a)->(H a≠none->K.lookup a=none) ->
   codeAny (model P w) callerA (.call (.ref fa) ⟨[.ref a],[]⟩) (fun r s'=>r=.ok (.ret (.bool true))/\OldK cG.heap s'.heap/\s'.os=cG.os/\AllBare s'.gens) cG:=by
  intro H hO hS cb hA hK
  have AG:∀{b:Addr}{o:Obj},cG.heap.get? b=some o->H b=none->(vH cG.heap H).get? b=some o:=fun e n=>EX e n
  have NZ:∀{b:Addr}{o:Obj}{es:Array DictEntry}{ep:Nat},cG.heap.get? b=some o->o.data=.dict es ep->H b=none:=fun{b o es ep} e d=>by
   cases q:H b with
   |none=>rfl
   |some u=>
    have e':b=a:=hA b (by rw[q];simp)
    subst e'
    rw[ha] at e;cases e
    have d':Data.seq vs.toArray _=Data.dict es ep:=d
    cases d'
  have QH:∀{b:Addr}{m:Str->Option Value},cG.heap.Ns b m->(vH cG.heap H).Ns b m:=fun{b m} ⟨o,es,ep,e,d,r⟩=>⟨o,es,ep,AG e (NZ e d),d,r⟩
  have V9:K.In (vH cG.heap H):=fun b o e=>AG (KX b o e) (by
   cases q:H b with
   |none=>rfl
   |some u=>
    have e':b=a:=hA b (by rw[q];simp)
    subst e'
    rw[hK (by rw[q];simp)] at e;cases e)
  have hM:Mod K mg (vH cG.heap H):=⟨V9,QH Q1,⟨mb,QH hb,uq⟩,let ⟨mc,h1,h2⟩:=Tn;⟨mc,QH h1,h2⟩⟩
  have e0:zF P w K mg (vH cG.heap H) callerA [] cG H:=⟨rfl,hM,fun b o e=>HH e,Nat.le_of_eq (B6 _ _),trivial,fun b hb=>absurd (show b∈([]:List Addr) from hb) (by simp),cb,.of_eq hg⟩
  refine codeAny_mono ((F _ V9 (QH Q1)).run callerA [] cG H ⟨[.ref a],[]⟩ [.ref a] [.ref a] _ _ hr e0 (OO cG (.ref a)) (.cons rfl .nil) (Jh H hO hS)) fun r s' h=>?_
  cases r with
  |error e=>exact(Zi H e s' h).elim
  |ok fl=>
   cases fl with
   |next=>exact False.elim h
   |brk=>exact False.elim h
   |cont=>exact False.elim h
   |ret u=>
    obtain⟨v,H',os,bare,un,Td,r',q⟩:=h
    have q':v=.bl true:=q
    subst q'
    obtain rfl:u=Value.bool true:=r'
    refine⟨rfl,OldK.of_keep fun b o e=>?_,os,bare⟩
    cases q:H b with
    |none=>exact un.keep b o e q (by intro z;exact absurd (show b∈([]:List Addr) from z) (by simp)) (by simp)
    |some u=>
     rcases hO b with z|⟨ob,xs,z⟩
     ·rw[q] at z;cases z
     ·have z2:=un.lM b ob _ z
      obtain⟨e1,_⟩:=cb b _ z
      obtain⟨e2,_⟩:=Td b _ z2
      rw[e] at e1;cases e1
      exact e2
 cases hk:K.lookup a with
 |some o=>
  have e:=KX a o hk
  rw[ha] at e
  cases e
  refine core (fun _=>none) (fun _=>.inl rfl) (.inr ⟨_,vs.toArray,_,hk,rfl,rfl,rfl,by rw[List.size_toArray,Sz];exact hl,by simpa using rv⟩) (fun b u z=>by have z':(none:Option HO)=some u:=z;cases z') (fun b z=>absurd rfl z) fun z=>absurd rfl z
 |none=>
  refine core (fun b=>if b=a then some (.aT {cls:=.type "list",data:=.seq vs.toArray} (.lst (ns.map V.int))) else none) (fun b=>?_) (.inl (.inr ⟨{cls:=.type "list",data:=.seq vs.toArray},if_pos rfl⟩)) (fun b u z=>?_) (fun b z=>?_) fun _=>hk
  ·by_cases hb:b=a
   ·exact .inr ⟨_,_,if_pos hb⟩
   ·exact .inl (if_neg hb)
  ·by_cases hb:b=a
   ·have z':=(if_pos hb).symm.trans z
    cases z'
    subst hb
    exact⟨ha,by rw[List.length_map];exact hl,vs,_,rv,ha⟩
   ·have z':=(if_neg hb).symm.trans z
    cases z'
  ·by_cases hb:b=a
   ·exact hb
   ·exact absurd (if_neg hb) z
end L2
namespace L2
open PySem PySem.Spec PyProof.Rows
abbrev KOf{K:PySem.W.Frag}{h:Heap}(_:K.In h):PySem.W.Frag:=K
end L2
/- THE ZE Rg (shape;LID,My.* are Uv):
  My.Adr: a structure of the addresses that WZ Vf names (classes,MT);My.Txt K t: a structure (Prop) of the equations over K;
  My.RO:{K}{implicit addresses ..} (e1:nsIn K mainGlobals "law" = some (some (.ref f))) (e2:K.lookup f=some ⟨oc,od,.func (fnOf "law" "law" params body scope dV kV doc pm an dZ ct),sl⟩) (e3:codeIn K dZ "law" = true) ..:∃t,My.Txt K t
set_option maxRecDepth 100000 in
set_option maxHeartbeats 0 in
(the tactic k_is has no namespace: write k_is) -/
namespace L2
open PySem PySem.Spec PyProof.Rows
def inClass(s:Stmt)(j:Nat):Stmt:=match s with
 | .ClassDef _ _ _ body _ _ _ _ _ _ _=>body.getD j (.Pass ⟨0,0,0,0⟩)
 |_=>.Pass ⟨0,0,0,0⟩
def f6(s:Stmt):Arguments:=match s with
 | .FunctionDef _ a _ _ _ _ _ _ _ _=>a
 |_=>{posonlyargs:=[],args:=[],vararg:=none,kwonlyargs:=[],kw_defaults:=[],kwarg:=none,defaults:=[]}
def fG(s:Stmt):List Stmt:=match s with
 | .FunctionDef _ _ b _ _ _ _ _ _ _=>b
 |_=>[]
def ax(s:Stmt):Scope:=match s with
 | .FunctionDef _ _ _ _ _ _ sc _ _ _=>sc
 |_=>{kind:=.function,names:=[],isGenerator:=false,isCoroutine:=false}
abbrev ie:Cz:=fun _ _ _ _ _ _=>False
abbrev E0:XK:=fun _ _ _=>False
theorem IY{X:Cx}:Passes ie X E0:=fun _ _ _ _ _ _ _ h=>h.elim
structure ic(K:PySem.W.Frag)(x qual:Str)(st:Stmt)(f:Addr)(fd:FuncData):Prop where
 ex:∃(oc:Value) (od:Option Addr) (kV doc pm:Value) (an:Option Addr) (dZ ct:Value) (I9:Array (Option Value)),
  fd=PySem.W.fnOf x qual (f6 st) (fG st) (ax st) .none kV doc pm an dZ ct/\K.lookup f=some ⟨oc,od,.func fd,I9⟩/\PySem.W.codeIn K dZ qual=true
 kp:PySem.W.keepIn K (.ref f)=true
section
variable {P:Program}{w:World}{K:PySem.W.Frag}{mg:Str->Option Value}{base:Heap}
theorem ic.ok{x qual:Str}{st:Stmt}{f:Addr}{fd:FuncData}{N ps:List Str}{k:Nat}{sp:Sp}(F:ic K x qual st f fd)(S:aK N ps (ax st))(len:∀vs H Q E,sp vs H Q E->vs.length=ps.length)
  (E2:∀(dZ:Value) (A:Around) (outer:List Env) (s:Shared) (H:Hp) (vs:List V) (Q:VK) (E:XK),eB k (A.deeper (envOfC qual (ax st) s.heap.objs.size f dZ))->sp vs H Q E ->
   ∃t,zD (zx ie P w K mg base N qual (ax st) f dZ A outer s H E).yc (fG st) t/\t {nx:=fun _ H'=>Q .bJ H',rt:=Q} (start N vs) H):cA P w K mg base ie (k+1) f fd ps sp:=by
 obtain⟨oc,od,kV,doc,pm,an,dZ,ct,I9,rfl,lk,fB⟩:=F.ex
 refine OU lk fB S len fun A outer s H vs Q E hr Jh=>?_
 obtain⟨t,h,q⟩:=E2 dZ A outer s H vs Q E hr Jh
 exact⟨t,h.yc,q⟩
theorem ic.binds{x qual:Str}{st:Stmt}{f:Addr}{fd:FuncData}{ps:List Str}(F:ic K x qual st f fd)
  (h:∀(kV doc pm:Value) (an:Option Addr) (dZ ct:Value) (us:List Value),us.length=ps.length->bindArgs (PySem.W.fnOf x qual (f6 st) (fG st) (ax st) .none kV doc pm an dZ ct) ⟨us,[]⟩=pure (ps.zip us)):Binds K fd ps []:=by
 obtain⟨oc,od,kV,doc,pm,an,dZ,ct,I9,rfl,lk,fB⟩:=F.ex
 exact .all (h kV doc pm an dZ ct)
theorem LQ{x qual:Str}{st:Stmt}{f:Addr}{oc:Value}{od an:Option Addr}{I9:Array (Option Value)}{kV doc pm dZ ct:Value}(l:K.lookup f=some ⟨oc,od,.func (PySem.W.fnOf x qual (f6 st) (fG st) (ax st) .none kV doc pm an dZ ct),I9⟩)
  (c:PySem.W.codeIn K dZ qual=true) (k:PySem.W.keepIn K (.ref f)=true):ic K x qual st f (PySem.W.fnOf x qual (f6 st) (fG st) (ax st) .none kV doc pm an dZ ct):=⟨⟨oc,od,kV,doc,pm,an,dZ,ct,I9,rfl,l,c⟩,k⟩
end
theorem Oi{A:Around}{k:Nat}(hr:eB k A):A.units+1<cLine:=Nat.lt_of_le_of_lt (Nat.add_le_add_left (by decide:1<=64) _) hr.units
section
variable {X:Cx}
end
def cf(H H':Hp):Prop:=∀b o,H b=some o->H' b=some o
theorem cf.refl(H:Hp):cf H H:=fun _ _ h=>h
theorem cf.trans{H H1 H2:Hp}(a:cf H H1)(b:cf H1 H2):cf H H2:=fun c o h=>b c o (a c o h)
theorem cf.free{H H':Hp}(e:cf H H'){l:Addr}(h:H' l=Option.none):H l=Option.none:=by
 cases q:H l with
 |none=>rfl
 |some o=>
  rw[e l o q] at h
  cases h
theorem cf.seq{K:PySem.W.Frag}{H H':Hp}{a:Addr}{xs:List V}(e:cf H H')(h:je K H a xs):je K H' a xs:=by
 rcases h with(h|⟨o,h⟩)|h
 ·exact .inl (.inl (e _ _ h))
 ·exact .inl (.inr ⟨o,e _ _ h⟩)
 ·exact .inr h
section
variable {κ:Type} [DecidableEq κ]
end
end L2
section
namespace L2
open PySem PySem.Spec PyProof.Rows
def uM(i j:Int):Prop:=0<j/\j.natAbs.log2<9000
section
variable {X:Cx}
theorem xc:jf X (binaryOp .FloorDiv) (rI uM fun i j=>.int (i / j)):=QD fun i j _ _ _ _ _ hc q=>by
 have h1:(0:Int)<j:=hc.1
 exact floordiv_int (by omega) (by rw[Int.fdiv_eq_ediv_of_nonneg i (by omega)];exact q) (.inl (PyProof.noPylong_of_log2 hc.2))
end
mutual
def DA(K:PySem.W.Frag)(H:Hp):PyData->V->Prop
 | .none,v=>v=.bJ
 | .bool b,v=>v=.bl b
 | .int i,v=>v=.int i
 | .str x,v=>v=.str x
 | .list ds,v=>∃a xs,v=.ref a/\je K H a xs/\rY K H ds xs
 | .tuple ds,v=>∃a xs,v=.ref a/\ox K H a xs/\rY K H ds xs
 | .dict _,_=>False
def rY(K:PySem.W.Frag)(H:Hp):List PyData->List V->Prop
 | [],xs=>xs=[]
 |d::ds,xs=>∃x r,xs=x::r/\DA K H d x/\rY K H ds r
end
section
variable {X:Cx}{pins:List (Addr×Obj)}{σ:St}{H:Hp}{s:Shared}
mutual
theorem DA.reads(I:Inv X pins σ H s):∀(d:PyData) {v:V}{u:Value},DA X.K H d v->RelV v u->∃as,Reads s.heap u d as
 | .none,v,u,h,r=>by
  have h:v=.bJ:=by simpa only [DA] using h
  subst h;cases r;exact⟨[],.none⟩
 | .bool b,v,u,h,r=>by
  have h:v=.bl b:=by simpa only [DA] using h
  subst h;cases r;exact⟨[],.bool b⟩
 | .int i,v,u,h,r=>by
  have h:v=.int i:=by simpa only [DA] using h
  subst h;obtain⟨t,rfl⟩:=r;exact⟨[],.int i t⟩
 | .str x,v,u,h,r=>by
  have h:v=.str x:=by simpa only [DA] using h
  subst h;obtain⟨t,rfl⟩:=r;exact⟨[],.str x t⟩
 | .list ds,v,u,h,r=>by
  have h:∃a xs,v=.ref a/\je X.K H a xs/\rY X.K H ds xs:=by simpa only [DA] using h
  obtain⟨a,xs,rfl,hl,hs⟩:=h
  cases r
  obtain⟨its,rel,⟨o,n,e1,e2,_,e3⟩,_⟩:=I.list hl
  obtain⟨as,ra⟩:=rY.reads I ds hs rel
  exact⟨a::as,.list e1 e2 e3 ra⟩
 | .tuple ds,v,u,h,r=>by
  have h:∃a xs,v=.ref a/\ox X.K H a xs/\rY X.K H ds xs:=by simpa only [DA] using h
  obtain⟨a,xs,rfl,hl,hs⟩:=h
  cases r
  obtain⟨its,rel,⟨o,e1,e2,n,e3⟩,_⟩:=I.tuple hl
  obtain⟨as,ra⟩:=rY.reads I ds hs rel
  exact⟨as,.tuple e1 e2 e3 ra⟩
 | .dict _,v,u,h,r=>by
  have h:False:=by simpa only [DA] using h
  exact h.elim
theorem rY.reads(I:Inv X pins σ H s):∀(ds:List PyData) {xs:List V}{us:List Value},rY X.K H ds xs->Vals xs us->∃as,ReadsAll s.heap us ds as
 | [],xs,us,h,r=>by
  have h:xs=[]:=by simpa only [rY] using h
  subst h;cases r;exact⟨[],.nil⟩
 |d::ds,xs,us,h,r=>by
  have h:∃x r,xs=x::r/\DA X.K H d x/\rY X.K H ds r:=by simpa only [rY] using h
  obtain⟨x,ys,rfl,h1,h2⟩:=h
  cases r with
  |cons rx ry=>
   obtain⟨as,ra⟩:=DA.reads I d h1 rx
   obtain⟨bs,rb⟩:=rY.reads I ds h2 ry
   exact⟨as++bs,.cons ra rb⟩
end
def G6(K:PySem.W.Frag)(neg:Bool):R2:=fun x y H Q=>∃dx dy,DA K H dx x/\DA K H dy y/\SeqAt.shaped dx=true/\SeqAt.shaped dy=true/\Q (.bl (if neg then !PyData.eqv dx dy else PyData.eqv dx dy)) H
theorem KS(hu:X.A.units+64<cLine):jf X (compareOp .Eq) (G6 X.K false):=by
 intro pins s σ H x y v u Q I rx ry ⟨dx,dy,hx,hy,sx,sy,q⟩
 obtain⟨as,ra⟩:=DA.reads I dx hx rx
 obtain⟨bs,rb⟩:=DA.reads I dy hy ry
 exact eq_dataH ra rb sx sy hu ⟨.bl (PyData.eqv dx dy),H,I,rfl,q⟩
theorem KP(hu:X.A.units+64<cLine):jf X (compareOp .NotEq) (G6 X.K true):=by
 intro pins s σ H x y v u Q I rx ry ⟨dx,dy,hx,hy,sx,sy,q⟩
 obtain⟨as,ra⟩:=DA.reads I dx hx rx
 obtain⟨bs,rb⟩:=DA.reads I dy hy ry
 exact ne_dataH ra rb sx sy hu ⟨.bl (!PyData.eqv dx dy),H,I,rfl,q⟩
end
end L2
end
section
namespace L2
open PySem PySem.Spec PyProof.Rows
structure oY(P:Program)(w:World)(K:PySem.W.Frag)(mg:Str->Option Value)(base:Heap)(f:Addr)(k:Nat)(sp:Sp):Prop where
 ex:∃fd ps,cA P w K mg base ie k f fd ps sp/\PySem.W.keepIn K (.ref f)=true/\Binds K fd ps []
structure Own(P:Program)(w:World)(K:PySem.W.Frag)(mg:Str->Option Value)(base:Heap)(x:Str)(k:Nat)(sp:Sp):Prop where
 ex:∃f,mg x=some (.ref f)/\oY P w K mg base f k sp
def yw(X:Cx)(i:Nat)(t:TA):TE:=fun σ H Q=>∃f k sp,σ[i]? = some (some (.ref f))/\oY X.prog X.w X.K X.mg X.base f k sp/\eB k X.A/\t σ H fun vs H1=>sp vs H1 Q E0
structure mZ(P:Program)(w:World)(base:Heap)(a:Addr)(aw:List (Key×V)):Prop where
 ne:(a==sysModules)=false
 ex:∃vs,KV aw vs/\base.DictOf (bA P w) a vs
section
variable {X:Cx}{k:Nat}{sp:Sp}{x:Str}{p pos:Pos}{e o i:Expr}{es:List Expr}{t:TA}{td ty:TE}
theorem Kv(O:Own X.prog X.w X.K X.mg X.base x k sp)(hr:eB k X.A)(ha:PA X (e::es) t)(hg:Gl X x:=by rfl)(i_:(x==("__debug__":Str))=false:=by decide)
  (he:starEach (e::es) X.env=(false,eval e X.env)::starEach es X.env:=by rfl) (r6:(backTo pos (starEach es X.env)).any (·.1)=false:=by rfl) :
  PE X (.Call (.Name x p) (e::es) [] pos) (tN sp [] E0 t):=by
 obtain⟨f,hm,⟨fd,ps,F,hk,hb⟩⟩:=O
 exact Hv F hr hg hm hk hb .nil IY ha i_ he r6
theorem vm{a:Addr}(hm:X.mg x=some (.ref a))(hg:Gl X x:=by rfl)(hd:(x==("__debug__":Str))=false:=by decide):PE X (.Name x p) (tC (.ref a)):=Aa (v:=.ref a) hg hm rfl hd
theorem Ho{n:Nat}(ha:PA X (e::es) t)(hN:X.N[n]? = some x:=by rfl)(hv:ko X.env.scope x:=by first|exact Or.inl rfl|exact Or.inr (Or.inl rfl)|exact Or.inr (Or.inr rfl))(i_:(x==("__debug__":Str))=false:=by decide)(fB:(x==("__classdict__":Str))=false:=by decide)
  (he:starEach (e::es) X.env=(false,eval e X.env)::starEach es X.env:=by rfl) (r6:(backTo pos (starEach es X.env)).any (·.1)=false:=by rfl) :
  PE X (.Call (.Name x p) (e::es) [] pos) (yw X n t):=by
 intro pins s σ H Q I ⟨f,k,sp,XQ,⟨fd,ps,F,hk,hb⟩,hr,h⟩
 refine wpAny_Call_Name_kw (cq (gk (pos:=p) hN hv i_ fB pins s σ H (fun v H1=>v=.ref f/\H1=H) I ⟨_,XQ,rfl,rfl⟩) fun u s1 ⟨v,H1,I1,r,q⟩=>?_)
 obtain⟨rfl,rfl⟩:=q
 cases r
 refine PySem.W.callWith_K (h₀:=X.base) I.ok.mod.QK hk (cq (ha pos pins s1 σ H1 _ I1 h) fun us s2 ⟨vs,H2,I2,r2,q2⟩=>⟨I2.Ld,?_⟩) he r6
 exact DO F hr hb .nil IY I2 r2 (by rw[List.append_nil];exact q2)
def JW(X:Cx)(neg:Bool)(ty td:TE):TE:=fun σ H Q=>ty σ H fun y H1=>td σ H1 fun z H2=>∃a aw k,z=.ref a/\mZ X.prog X.w X.base a aw/\y=kV k/\Q (.bl (if neg then !(gc aw k).isSome else(gc aw k).isSome)) H2
def IG(X:Cx)(td ty:TE):TE:=fun σ H Q=>td σ H fun z H1=>ty σ H1 fun y H2=>∃a aw k v,z=.ref a/\mZ X.prog X.w X.base a aw/\y=kV k/\gc aw k=some v/\Q v H2
theorem KD(hi:PE X i ty)(ho:PE X o td):PC X .In i o (JW X false ty td):=by
 intro pins s σ H Q I h
 refine cq (hi pins s σ H _ I h) fun iv s1 ⟨y,H1,I1,ry,q1⟩=>cq (ho pins s1 σ H1 _ I1 q1) fun u s2 ⟨z,H2,I2,rx,a,aw,k,ex,⟨hd,vs,rel,dd⟩,ey,q2⟩=>?_
 subst ex ey
 obtain rfl:u=Value.ref a:=rx
 refine wpAny_in_of (ka ry) hd (dd.keep I2.bk).mapOf ?_
 rw[<-(rel.val k).gB]
 exact⟨.bl (gc aw k).isSome,H2,I2.tok _,rfl,q2⟩
theorem BL(hi:PE X i ty)(ho:PE X o td):PC X .NotIn i o (JW X true ty td):=by
 intro pins s σ H Q I h
 refine cq (hi pins s σ H _ I h) fun iv s1 ⟨y,H1,I1,ry,q1⟩=>cq (ho pins s1 σ H1 _ I1 q1) fun u s2 ⟨z,H2,I2,rx,a,aw,k,ex,⟨hd,vs,rel,dd⟩,ey,q2⟩=>?_
 subst ex ey
 obtain rfl:u=Value.ref a:=rx
 refine wpAny_notIn_of (ka ry) hd (dd.keep I2.bk).mapOf ?_
 rw[<-(rel.val k).gB]
 exact⟨.bl (!(gc aw k).isSome),H2,I2.tok _,rfl,q2⟩
theorem Hq(ho:PE X o td)(hi:PE X i ty)(hs:vY i):PE X (.Subscript o i pos) (IG X td ty):=by
 intro pins s σ H Q I h
 refine zT PySem.F.slot_dict_getitem.lookup hs (cq (ho pins s σ H _ I h) fun u s1 ⟨z,H1,I1,rx,q1⟩=>cq (hi pins s1 σ H1 _ I1 q1) fun iv s2 ⟨y,H2,I2,ry,a,aw,k,v,ex,⟨hd,vs,rel,dd⟩,ey,l,q2⟩=>?_)
 subst ex ey
 obtain rfl:u=Value.ref a:=rx
 have xU:=dd.keep I2.bk
 obtain⟨w',hw,BC⟩:=oA.some_of (v:=v) (o:=valueAt vs k) (by rw[<-l];exact rel.val k)
 exact⟨xU.typeIs,wpAny_getItem_of (ka ry) xU.mapOf hw ⟨v,H2,I2.tok _,BC,q2⟩⟩
theorem vS:gT X (.type "dict") (fun xs H Q=>∃a aw,xs=[.ref a]/\Rd H a (.dK aw)/\∀q,H q=none->Q (.ref q) (upd H q (.dK aw))):=by
 intro pins s σ H xs us Q I r ⟨a,aw,e,hd,q⟩
 subst e
 obtain⟨u,rfl,ru⟩:=vals1 r
 cases ru
 exact Fp I hd fun b s' hn I'=>⟨.ref b,_,I',rfl,q b hn⟩
end
end L2
end
section
namespace L2
open PySem PySem.Spec PyProof.Rows
def Ev(t:TE)(σ:St)(H:Hp)(v:V):Prop:=∀Q:VK,Q v H->t σ H Q
def WS(t:TT)(σ:St)(H:Hp)(b:Bool):Prop:=∀Q:Bool->Hp->Prop,Q b H->t σ H Q
def WT(t:TA)(σ:St)(H:Hp)(vs:List V):Prop:=∀Q:List V->Hp->Prop,Q vs H->t σ H Q
section
variable {σ:St}{H:Hp}{v x y:V}{i j:Int}{ta tb tc td:TE}{tt tu:TT}{t:TA}{K:PySem.W.Frag}{nx bk ct:St->Hp->Prop}{rt:VK}{u w:TS}{b c:Bool}{vs:List V}{n:Nat}
theorem Ev.go{Q:VK}(h:Ev ta σ H v)(q:Q v H):ta σ H Q:=h Q q
theorem WS.go{Q:Bool->Hp->Prop}(h:WS tt σ H b)(q:Q b H):tt σ H Q:=h Q q
theorem WT.go{Q:List V->Hp->Prop}(h:WT t σ H vs)(q:Q vs H):t σ H Q:=h Q q
end
end L2
end
section
namespace L2
open PySem PySem.Spec PyProof.Rows
def k3(p:Addr)(H H':Hp):Prop:=∀b o,H b=some o->b≠p->H' b=some o
def Mn(p:Addr)(H H':Hp):Prop:=∀b,b≠p->H' b=H b
theorem Mn.upd{H:Hp}{q:Addr}{o:HO}:Mn q H (upd H q o):=fun b n=>aE n
theorem Mn.keep{H H':Hp}{p:Addr}(a:Mn p H H'):k3 p H H':=fun b o e n=>by rw[a b n];exact e
def x8(H H':Hp):Prop:=∀b xs,H b=some (.tup xs)->H' b=some (.tup xs)
theorem cf.upd{H:Hp}{q:Addr}{o:HO}(h:H q=none):cf H (upd H q o):=fun b u e=>by
 rw[aE (cK e h)];exact e
theorem k3.upd{H:Hp}{q:Addr}{o:HO}:k3 q H (upd H q o):=fun b u e n=>by rw[aE n];exact e
theorem k3.refl{H:Hp}{p:Addr}:k3 p H H:=fun _ _ e _=>e
theorem k3.of{H H':Hp}{p:Addr}(s:cf H H'):k3 p H H':=fun b o e _=>s b o e
theorem k3.trans{H H1 H2:Hp}{p:Addr}(a:k3 p H H1)(b:k3 p H1 H2):k3 p H H2:=fun c o e n=>b c o (a c o e n) n
theorem cf.tr{H H1 H2:Hp}{p:Addr}(a:cf H H1)(b:k3 p H1 H2)(n:H p=none):cf H H2:=fun c o e=>b c o (a c o e) (cK e n)
theorem k3.free{H H':Hp}{p:Addr}{o:HO}(k:k3 p H H')(hp:H' p=some o){q:Addr}(h:H' q=none):H q=none:=by
 cases e:H q with
 |none=>rfl
 |some u=>
  by_cases z:q=p
  ·subst z;rw[hp] at h;cases h
  ·rw[k q u e z] at h;cases h
theorem x8.refl(H:Hp):x8 H H:=fun _ _ h=>h
theorem x8.trans{H H1 H2:Hp}(a:x8 H H1)(b:x8 H1 H2):x8 H H2:=fun c o e=>b c o (a c o e)
theorem cf.ts{H H':Hp}(s:cf H H'):x8 H H':=fun b xs e=>s _ _ e
theorem k3.ts{H H':Hp}{p:Addr}{ys:List V}(k:k3 p H H')(h:H p=some (.lst ys)):x8 H H':=fun b xs e=>k _ _ e (Eu e h (by intro z;cases z))
theorem fc{n:Nat}(h:n<=1000000):n<sizeLine:=Nat.lt_of_le_of_lt h (by decide)
def IB(t:TA):TE:=fun σ H Q=>t σ H fun xs H1=>xs.length<=1000000/\∀p H2,H1 p=none->cf H1 H2->H2 p=some (.tup xs)->Q (.ref p) H2
def IH(t:TA):TE:=fun σ H Q=>t σ H fun xs H1=>xs.length<=1000000/\∀p H2,H1 p=none->cf H1 H2->H2 p=some (.lst xs)->Q (.ref p) H2
section
variable {X:Cx}{es:List Expr}{t:TA}{pos:Pos}
theorem Hn{x1}(h:PA X es t):PE X (.Tuple es x1 pos) (IB t):=by
 intro pins s σ H Q I hq
 refine wpAny_Tuple_spliced (cq (h pos pins s σ H _ I hq) fun us s1 ⟨xs,H1,I1,r,z,q⟩=>⟨by rw[<-r.length];exact Nat.le_of_lt (fc z),?_⟩)
 have hf:H1 s1.heap.objs.size=none:=I1.cb.fresh (Nat.le_refl _)
 refine⟨.ref s1.heap.objs.size,upd H1 s1.heap.objs.size (.tup xs),I1.laid (t':=s1.toks) (fun b u e=>Heap.get?_push_of_some _ e) (Nat.le_refl _) ?_,rfl,q _ _ hf (cf.upd hf) aB⟩
 exact⟨Nat.le_of_lt (fc z),us,r,⟨_,Heap.get?_push_size _ rfl,rfl,_,rfl⟩⟩
theorem Hr(h:PA X es t):PE X (.List es pos) (IH t):=by
 intro pins s σ H Q I hq
 refine wpAny_List_spliced (cq (h pos pins s σ H _ I hq) fun us s1 ⟨xs,H1,I1,r,z,q⟩=>⟨by rw[<-r.length];exact Nat.le_of_lt (fc z),?_⟩)
 have hf:H1 s1.heap.objs.size=none:=I1.cb.fresh (Nat.le_refl _)
 refine⟨.ref s1.heap.objs.size,upd H1 s1.heap.objs.size (.lst xs),I1.laid (t':=s1.toks) (fun b u e=>Heap.get?_push_of_some _ e) (Nat.le_refl _) ?_,rfl,q _ _ hf (cf.upd hf) aB⟩
 exact⟨Nat.le_of_lt (fc z),us,0,r,Heap.get?_push_size _ rfl⟩
theorem jf.imp{f:Value->Value->Sem Value}{r r':R2}(h:jf X f r)(i:∀x y H Q,r' x y H Q->r x y H Q):jf X f r':=fun pins s σ H x y v u Q I rx ry q=>h pins s σ H x y v u Q I rx ry (i _ _ _ _ q)
def IU:R2:=fun x y H Q=>∃l b xs zs,x=.ref l/\y=.ref b/\H l=some (.lst xs)/\H b=some (.lst zs)/\xs.length+zs.length<=1000000/\∀p H2,H p=none->cf H H2->H2 p=some (.lst (xs++zs))->Q (.ref p) H2
theorem pV:jf X (binaryOp .Add) IU:=KU.imp fun x y H Q ⟨l,b,xs,zs,e1,e2,h1,h2,hl,q⟩=>⟨l,b,xs,zs,e1,e2,h1,h2,Nat.le_of_lt (fc hl),fun p hp=>q p _ hp (cf.upd hp) aB⟩
def Ke(K:PySem.W.Frag):V->Option Int->Option Int->Hp->VK->Prop:=fun x lo hi H Q=>∃a xs,x=.ref a/\je K H a xs/\∀p H2,H p=none->cf H H2->H2 p=some (.lst (ki xs lo hi))->Q (.ref p) H2
theorem wM:Ju X (Ke X.K):=fun pins s σ H x v vl vu lo hi sl Q I rx hs pl pu ⟨a,xs,e,h,q⟩=>GS pins s σ H x v vl vu lo hi sl Q I rx hs pl pu ⟨a,xs,e,h,fun p hp=>q p _ hp (cf.upd hp) aB⟩
def qz:V->List V->Hp->VK->Prop:=fun x vs H Q=>∃l xs y,x=.ref l/\vs=[y]/\H l=some (.lst xs)/\xs.length<=1000000/\∀H3,Mn l H H3->H3 l=some (.lst (xs++[y]))->Q .bJ H3
theorem lG:Pt X "list.append" qz:=fun pins s σ H x xs v us Q I rx r ⟨l,ys,y,e1,e2,h,hz,q⟩=>BS pins s σ H x xs v us Q I rx r ⟨l,ys,y,e1,e2,h,fc hz,q _ Mn.upd aB⟩
def R_:List V->Hp->VK->Prop:=fun xs H Q=>∃a aw,xs=[V.ref a]/\H a=some (.dK aw)/\∀p H2,H p=none->cf H H2->H2 p=some (.dK aw)->Q (.ref p) H2
end
section
variable {σ:St}{H H4:Hp}{v x y:V}{ta tb tc to:TE}{t tr:TA}{Q:VK}{vs xs ys:List V}{nx bk ct:St->Hp->Prop}{rt:VK}{K:PySem.W.Frag}{a l p:Addr}{i j:Nat}{k n:Int}{ZM:TS}{r:R2}{b:Bool}
theorem Ub{i j:Int}(h:0<j)(h2:j<=2 ^ 62):uM i j:=⟨h,by
 have h0:j.natAbs≠0:=by omega
 have h3:j.natAbs<2 ^ 63:=by omega
 have:=(Nat.log2_lt h0).mpr h3
 omega⟩
theorem pick{xs:List V}{r:Int}(h0:0<=r)(h1:r<xs.length):∃v,g_ xs r=some v/\v∈xs:=by
 obtain⟨n,rfl⟩:=Int.eq_ofNat_of_zero_le h0
 have hn:n<xs.length:=by omega
 exact⟨xs[n],fi (List.getElem?_eq_getElem hn),List.getElem_mem hn⟩
end
end L2
end
section
namespace L2
open PySem PySem.Spec PyProof.Rows
def aH:Expr->Bool
 | .Starred _ _=>false
 |_=>true
theorem bP{e:Expr}{es:List Expr}{env:Env}(h:aH e=true):starEach (e::es) env=(false,eval e env)::starEach es env:=by
 cases e<;>first|rfl|(cases h)
theorem ia{pos:Pos}{env:Env}:∀{es:List Expr},es.all aH=true->(backTo pos (starEach es env)).any (·.1)=false
 | [],_=>rfl
 |e::es,h=>by
  rw[List.all_cons,Bool.and_eq_true] at h
  rw[bP h.1]
  have q:=ia (pos:=pos) (env:=env) h.2
  simp only[backTo,List.map_cons,List.any_cons] at q ⊢
  rw[q]
  rfl
theorem tO{pos:Pos}{env:Env}:∀{es:List Expr},es.all aH=true->(backTo pos (starEach es env)).all (fun x=>!x.1)=true
 | [],_=>rfl
 |e::es,h=>by
  rw[List.all_cons,Bool.and_eq_true] at h
  rw[bP h.1]
  have q:=tO (pos:=pos) (env:=env) h.2
  simp only[backTo,List.map_cons,List.all_cons] at q ⊢
  rw[q]
  rfl
theorem Loc.yj{sc:Scope}{x:Str}(h:Loc sc x):ko sc x:=h.elim Or.inl fun z=>Or.inr (Or.inl z)
section
variable {X:Cx}{k:Nat}{sp:Sp}{x:Str}{p pos apos bR:Pos}{e o i:Expr}{es:List Expr}{t:TA}{td ty te to:TE}{T id:String}{name:Str}
theorem IZ(ha:PE X e te)(hr:PA X es t)(h:aH e=true:=by rfl):PA X (e::es) (k7 te t):=Hy ha hr (bP h)
theorem NO(O:Own X.prog X.w X.K X.mg X.base x k sp)(hr:eB k X.A)(ha:PA X (e::es) t)(hg:Gl X x:=by rfl)(i_:(x==("__debug__":Str))=false:=by decide)
  (h1:aH e=true:=by rfl) (h2:es.all aH=true:=by rfl):PE X (.Call (.Name x p) (e::es) [] pos) (tN sp [] E0 t):=Kv O hr ha hg i_ (bP h1) (ia h2)
theorem NN{n:Nat}(ha:PA X (e::es) t)(hN:X.N[n]? = some x:=by rfl)(hv:ko X.env.scope x:=by first|exact Or.inl rfl|exact Or.inr (Or.inl rfl)|exact Or.inr (Or.inr rfl))(i_:(x==("__debug__":Str))=false:=by decide)(fB:(x==("__classdict__":Str))=false:=by decide)
  (h1:aH e=true:=by rfl) (h2:es.all aH=true:=by rfl):PE X (.Call (.Name x p) (e::es) [] pos) (yw X n t):=Ho ha hN hv i_ fB (bP h1) (ia h2)
theorem Ud{r:V->List V->Hp->VK->Prop}(pa:PlainAttrs T)(slot:Slot T name id)(Oj:typeOf (.builtin id)=pure (.type "method_descriptor"))(hm:Jv X id r)(ho:PE X o to)(ha:PA X (e::es) t)
  (dX:attributeBase o name X.env (eval o X.env)=eval o X.env:=by rfl) (hlen:(e::es).length<30:=by simp) (dW:(apos.endLine==bR.line)=true:=by rfl) (h1:aH e=true:=by rfl) (h2:es.all aH=true:=by rfl) :
  PE X (.Call (.Attribute o name apos) (e::es) [] bR) (Nx X.K T r to t):=by
 have h3:(e::es).all aH=true:=by rw[List.all_cons,h1,h2];rfl
 refine NM pa slot Oj hm ho ha dX ?_ dW (bP h1) (ia h2)
 rw[tO h3]
 show(true&&true&&decide ((e::es).length+0+0<30))=true
 rw[decide_eq_true (by simpa using hlen)]
 rfl
theorem AF{r:List V->Hp->VK->Prop}(hc:gT X (.type T) r)(hg:Gl X x)(hm:X.mg x=none)(hv:bootBuiltins x=some (.type T))(ha:PA X (e::es) t)(hn:x≠"__name__":=by decide)(i_:(x==("__debug__":Str))=false:=by decide)
  (h1:aH e=true:=by rfl) (h2:es.all aH=true:=by rfl):PE X (.Call (.Name x p) (e::es) [] pos) (Gx r t):=BK hc hg hm hv ha hn i_ (bP h1) (ia h2)
theorem vT{r:List V->Hp->VK->Prop}(hc:gT X (.builtin id) r)(hg:Gl X x)(hm:X.mg x=none)(hv:bootBuiltins x=some (.builtin id))(ha:PA X (e::es) t)(hn:x≠"__name__":=by decide)(i_:(x==("__debug__":Str))=false:=by decide)
  (h1:aH e=true:=by rfl) (h2:es.all aH=true:=by rfl):PE X (.Call (.Name x p) (e::es) [] pos) (Gx r t):=Ef hc hg hm hv ha hn i_ (bP h1) (ia h2)
end
end L2
end
section
namespace L2
open PySem PySem.Spec PyProof.Rows
structure QE(X:Cx)(e:Expr)(t:TE):Prop where
 h:PE X e t
structure QT(X:Cx)(e:Expr)(t:TT):Prop where
 h:PT X e t
structure QW(X:Cx)(e:Expr)(t:TT):Prop where
 h:PW X e t
structure QA(X:Cx)(es:List Expr)(t:TA):Prop where
 h:PA X es t
structure QC(X:Cx)(op:CmpOp)(a b:Expr)(t:TE):Prop where
 h:PC X op a b t
structure QG(X:Cx)(e:Expr)(t:TG):Prop where
 h:PG X e t
structure QGs(X:Cx)(es:List Expr)(t:Cv):Prop where
 h:MV X es t
structure QI(X:Cx)(tg e:Expr)(t:TI):Prop where
 h:PI X tg e t
structure QO(X:Cx)(e:Option Expr)(t:TO):Prop where
 h:PO X e t
structure QP(X:Cx)(pos:Pos)(ks:List (Option Expr))(vs:List Expr)(t:List (TE×TE)):Prop where
 h:Pn X pos ks vs t
structure QS(X:Cx)(s:Stmt)(t:TS):Prop where
 h:PS X s t
structure QSs(X:Cx)(s:List Stmt)(t:TS):Prop where
 h:zD X s t
section
variable {X:Cx}{a b c e o i v l:Expr}{es:List Expr}{ta tb tc te to ti tv td ty tx ZL:TE}{t u:TA}{tt ZK:TT}{g:TG}{gs:Cv}{s:Stmt}{ss sa sb:List Stmt}{w w':TS}{pos pos' p p2 apos bR:Pos}{x name:Str}{r r':R2}{n k:Nat}{sp:Sp}{T id:String}
end
end L2
end
section
namespace L2
open PySem PySem.Spec PyProof.Rows
def oq(env:Env):List (Str×NameKind)->List (Str×Addr)->List (Str×Addr)
 | [],cs=>cs
 |(n,k)::r,cs=>oq env r (if (k==.free)=true then(n,(env.cells.lookup n).getD 0)::cs else cs)
theorem uG{env:Env}:∀(names:List (Str×NameKind)) (cs:List (Str×Addr)),(∀x∈names,x.2=.free->∃c,env.cells.lookup x.1=some c) ->
  (forIn names cs fun(x:Str×NameKind) (r:List (Str×Addr))=>if (x.2==.free)=true then(cellOf env x.1 >>= fun a=>pure (ForInStep.yield ((x.1,a)::r))) else pure (ForInStep.yield r):Sem (List (Str×Addr)))=pure (oq env names cs)
 | [],cs,_=>rfl
 |(n,k)::r,cs,h=>by
  have ih:=fun cs=>uG (env:=env) r cs fun x hx=>h x (List.mem_cons_of_mem _ hx)
  rw[List.forIn_cons]
  unfold oq
  by_cases hk:(k==NameKind.free)=true
  ·rw[if_pos hk,if_pos hk]
   obtain⟨c,e⟩:=h (n,k) List.mem_cons_self (by simpa using hk)
   have e1:cellOf env n=pure c:=by unfold cellOf;rw[e]
   show((cellOf env n >>= fun a=>pure (ForInStep.yield ((n,a)::cs))) >>= _)=_
   rw[e1,e]
   exact ih ((n,c)::cs)
  ·rw[if_neg hk,if_neg hk]
   exact ih cs
theorem gK{sc:Scope}{env:Env}(h:∀x∈sc.names,x.2=.free->∃c,env.cells.lookup x.1=some c):closureFor sc env=pure (oq env sc.names []):=by
 unfold closureFor
 show(forIn sc.names [] _ >>= pure)=_
 have q:=uG (env:=env) sc.names [] h
 have e:(forIn sc.names ([]:List (Str×Addr)) fun(x:Str×NameKind) (r:List (Str×Addr))=>if (x.2==.free)=true then(cellOf env x.1 >>= fun a=>pure (ForInStep.yield ((x.1,a)::r))) else pure (ForInStep.yield r):Sem (List (Str×Addr))) >>= pure=pure (oq env sc.names []):=by rw[q];rfl
 exact e
theorem Fq{env:Env}:∀(names:List (Str×NameKind)) (cs:List (Str×Addr)),(∀x∈names,x.2=.free->∃c,env.cells.lookup x.1=some c)->(∀n c,cs.lookup n=some c->env.cells.lookup n=some c) ->
  ∀n c,(oq env names cs).lookup n=some c->env.cells.lookup n=some c
 | [],cs,_,h=>h
 |(m,k)::r,cs,hf,h=>by
  unfold oq
  refine Fq r _ (fun x hx=>hf x (List.mem_cons_of_mem _ hx)) fun n c e=>?_
  by_cases hk:(k==NameKind.free)=true
  ·rw[if_pos hk] at e
   obtain⟨c',e'⟩:=hf (m,k) List.mem_cons_self (by simpa using hk)
   rw[e'] at e
   rw[List.lookup_cons] at e
   cases hx:n==m with
   |true=>
    rw[hx] at e
    cases e
    rw[show n=m by simpa using hx];exact e'
   |false=>rw[hx] at e;exact h n c e
  ·rw[if_neg hk] at e;exact h n c e
theorem zz{env:Env}:∀(names:List (Str×NameKind)) (cs:List (Str×Addr)) (n:Str),((n,NameKind.free)∈names\/∃c,cs.lookup n=some c)->∃c,(oq env names cs).lookup n=some c
 | [],cs,n,h=>h.elim (fun z=>nomatch z) id
 |(m,k)::r,cs,n,h=>by
  unfold oq
  refine zz r _ n ?_
  rcases h with h|⟨c,e⟩
  ·rcases List.mem_cons.mp h with e|h
   ·cases e
    right
    rw[if_pos (by rfl),List.lookup_cons]
    simp
   ·exact .inl h
  ·right
   by_cases hk:(k==NameKind.free)=true
   ·rw[if_pos hk,List.lookup_cons]
    cases hx:n==m with
    |true=>exact⟨_,rfl⟩
    |false=>exact⟨c,e⟩
   ·rw[if_neg hk];exact⟨c,e⟩
theorem ix{env:Env}:∀(names:List (Str×NameKind)) (x:Str),(names.map fun(n,k)=>if (k==NameKind.free&&env.scope.kind==.function&&env.kindOf n==some .cell) then(n,NameKind.cell) else(n,k)).lookup x =
  (names.lookup x).map fun k=>if (k==NameKind.free&&env.scope.kind==.function&&env.kindOf x==some .cell) then NameKind.cell else k
 | [],_=>rfl
 |(n,k)::r,x=>by
  have ih:=ix (env:=env) r x
  rw[List.map_cons]
  have e:(match (n,k) with|(n,k)=>if (k==NameKind.free&&env.scope.kind==.function&&env.kindOf n==some .cell)=true then(n,NameKind.cell) else(n,k))=(n,if (k==NameKind.free&&env.scope.kind==.function&&env.kindOf n==some .cell)=true then NameKind.cell else k):=by
   show(if _ then _ else _)=_
   split<;>rfl
  rw[e,List.lookup_cons,List.lookup_cons]
  cases hx:x==n with
  |true=>
   have:x=n:=by simpa using hx
   subst this
   rfl
  |false=>exact ih
theorem ir{names:List (Str×NameKind)}{x:Str}{k:NameKind}(h:names.lookup x=some k):(x,k)∈names:=PySem.mem_of_lookup h
structure vZ(X:Cx)(sc:Scope)(ks N2:List Str):Prop where
 kind:sc.kind=.function
 Es:∀y∈sc.names,y.2≠.cell
 names:∀y∈sc.names,y.2=.local->sc.names.lookup y.1=some .local
 free:∀y∈sc.names,y.2=.free->X.env.kindOf y.1=some .cell\/X.env.kindOf y.1=some .free
 len:N2.length=X.N.length
 nd:(ks++N2).Nodup
 at_:∀(j:Nat) x,N2[j]? = some x->sc.names.lookup x=none\/(sc.names.lookup x=some .free/\X.N[j]? = some x)
abbrev dA(X:Cx)(sc:Scope)(N:List Str)(C:Addr)(s:Shared)(H:Hp)(fp:List Addr)(pins:List (Addr×Obj)):Cx:=
 {X with N:=N,gW:=s,Cn:=H,env:=compEnvC sc (oq X.env sc.names []) C X.env,outer:=X.stack,stack:=X.stack,ex:=fp,fn:=fun _=>false,pn:=X.pn++pins,xe:=fun _ _=>False}
section
variable {X:Cx}{pins:List (Addr×Obj)}{σ:St}{H:Hp}{s:Shared}{sc:Scope}{ks N2:List Str}{fp:List Addr}
theorem vZ.cells(S:vZ X sc ks N2)(ok:X.Ok):∀x∈sc.names,x.2=.free->∃c,X.env.cells.lookup x.1=some c:=fun x hx e=>ok.has x.1 (S.free x hx e)
theorem vZ.sub(S:vZ X sc ks N2)(ok:X.Ok):∀n c,(oq X.env sc.names []).lookup n=some c->X.env.cells.lookup n=some c:=
 Fq sc.names [] (S.cells ok) fun n c e=>by cases e
theorem Inv.block(I:Inv X pins σ H s)(S:vZ X sc ks N2)(hf:∀b∈fp,m7 X pins H b)(ho:∀b∈fp,∃o,s.heap.get? b=some o){h':Heap}{m0:Str->Option Value}{t':Nat}(hn:h'.Ns s.heap.objs.size m0)(k:∀b o,s.heap.get? b=some o->h'.get? b=some o) :
  Inv (dA X sc (ks++N2) s.heap.objs.size s H fp pins) [] (List.replicate ks.length none++σ) H {s with heap:=h',toks:=t'}:=by
 have sub:=S.sub I.ok
 have K4:∀b o,s.heap.get? b=some o->b≠s.heap.objs.size:=fun b o e=>Nat.ne_of_lt (Heap.lt_size e)
 have rl:∀x,(relabel sc X.env).names.lookup x=(sc.names.lookup x).map fun k=>if (k==NameKind.free&&X.env.scope.kind==.function&&X.env.kindOf x==some .cell) then NameKind.cell else k:=fun x=>ix (env:=X.env) sc.names x
 have ok:(dA X sc (ks++N2) s.heap.objs.size s H fp pins).Ok:=by
  refine⟨I.ok.mod,S.kind,I.ok.glob,I.ok.blt,Nat.le_refl _,fun x y c h1 h2=>I.ok.inj x y c (sub x c h1) (sub y c h2),fun x hx=>?_,fun x c h=>(by cases h),I.ok.hd,I.ok.frames,.inl rfl,fun b hb=>⟨?_,fun x c e=>(hf b hb).2.2.2.2.1 x c (sub x c e)⟩,I.bs,Nat.le_trans I.ok.FQ I.sz,fun b o e hb=>?_,fun b hb wb=>?_,I.stack,I.zV⟩
  ·have hx:(relabel sc X.env).names.lookup x=some .cell\/(relabel sc X.env).names.lookup x=some .free:=hx
   rw[rl] at hx
   cases q:sc.names.lookup x with
   |none=>rw[q] at hx;rcases hx with z|z<;>cases z
   |some k=>
    have hm:=ir q
    have nc:=S.Es _ hm
    refine zz sc.names [] x (.inl ?_)
    cases k with
    |free=>exact hm
    |cell=>exact absurd rfl nc
    |_=>rw[q] at hx;rcases hx with z|z<;>cases z
  ·obtain⟨o,e⟩:=ho b hb
   exact K4 b o e
  ·obtain⟨f0,f1,f2,f3,f4,f5⟩:=hf b hb
   rcases f3 with z|z
   ·exact I.ok.Er b o e z
   ·exact absurd (Nat.lt_of_lt_of_le (Heap.lt_size e) (Nat.le_trans I.ok.FQ z)) (Nat.lt_irrefl _)
  ·obtain⟨f0,f1,f2,f3,f4,f5⟩:=hf b hb
   rcases List.mem_cons.mp (I.qf b wb) with z|z
   ·exact f1 z
   ·exact f2 z
 obtain⟨m,hm,hl⟩:=id I.loc
 refine⟨ok,rfl,I.bare,Un.kept k,⟨m0,hn,fun i x v h1 h2 h3=>?_⟩,fun x c e=>?_,I.cb.fresh (Nat.le_refl _),fun x c e=>I.jM x c (sub x c e),fun p hp=>?_,I.cb.kept k,?_⟩
 ·have h1:(ks++N2)[i]? = some x:=h1
  have hi:ks.length<=i:=by
   refine Nat.le_of_not_lt fun hi=>?_
   rw[List.getElem?_append_left (by simpa using hi),List.getElem?_replicate] at h2
   split at h2<;>cases h2
  rw[List.getElem?_append_right hi] at h1
  rw[List.getElem?_append_right (by simpa using hi),List.length_replicate] at h2
  rcases S.at_ _ x h1 with z|⟨z,hN⟩
  ·have h3:(relabel sc X.env).names.lookup x=some .local\/(relabel sc X.env).names.lookup x=some .cell\/(relabel sc X.env).names.lookup x=some .free:=h3
   rw[rl,z] at h3
   rcases h3 with h3|h3|h3<;>cases h3
  ·have hk:=S.free _ (ir z) rfl
   have hv:ko X.env.scope x:=hk.elim (fun e=>.inr (.inl e)) fun e=>.inr (.inr e)
   obtain⟨u,r,l⟩:=hl _ x v hN h2 hv
   refine⟨u,r,?_⟩
   rcases l with⟨l,_⟩|⟨_,c,e,hc⟩
   ·rcases hk with hk|hk<;>(have l:X.env.kindOf x=some .local:=l;rw[hk] at l;cases l)
   ·right
    refine⟨?_,?_⟩
    ·show(relabel sc X.env).names.lookup x=some .cell\/(relabel sc X.env).names.lookup x=some .free
     rw[rl,z]
     by_cases q:(NameKind.free==NameKind.free&&X.env.scope.kind==.function&&X.env.kindOf x==some .cell)=true
     ·left;show some (if _ then _ else _)=_;rw[if_pos q]
     ·right;show some (if _ then _ else _)=_;rw[if_neg q]
    ·obtain⟨c',e'⟩:=zz (env:=X.env) sc.names [] x (.inl (ir z))
     have e2:=sub x c' e'
     rw[e] at e2;cases e2
     obtain⟨o,ho,hd⟩:=hc
     exact⟨c,e',o,k _ _ ho,hd⟩
 ·obtain⟨v,o,ho,hd⟩:=I.cell x c (sub x c e)
  exact⟨v,o,k _ _ ho,hd⟩
 ·have hp:p∈X.pn++pins:=by simpa using hp
  obtain⟨e,n,ne,nf,d⟩:=I.pin p hp
  refine⟨k _ _ e,n,K4 _ _ e,fun hb=>?_,d⟩
  rcases List.mem_cons.mp (I.qf _ hb) with z|z
  ·exact ne z
  ·exact nf z
 ·show _=(ks++N2).length
  rw[List.length_append,List.length_append,List.length_replicate,S.len,I.len]
theorem Inv.Gp{N:List Str}{τ:St}{H0:Hp}{s0:Shared}{C:Addr}{o:Obj}(I0:Inv X pins σ H0 s0)(hC:C=s0.heap.objs.size)(hf:∀b∈fp,m7 X pins H0 b)(I:Inv (dA X sc N C s0 H0 fp pins) [] τ H s)(ho:s.heap.get? C=some o)(hd:∀v,o.data≠.cell v):Inv X (pins++[(C,o)]) σ H s:=by
 have J:Inv X pins σ H s:=I0.Pb (ch:=fp) I.os I.base I.cb I.bare fun b hb=>by
  obtain⟨f0,f1,f2,f3,f4,f5⟩:=hf b hb
  exact⟨f3,f1,f4,f5⟩
 refine J.vj fun p hp=>(List.mem_append.mp hp).elim (fun z=>J.pin p (List.mem_append_right _ z)) fun z=>?_
 have z:p=(C,o):=by simpa using z
 subst z
 refine⟨ho,I.free,?_,I0.NY (by rw[hC];exact Nat.le_refl _),hd⟩
 rw[hC]
 exact Nat.ne_of_gt I0.lt
theorem Inv.loose{C:Addr}{o:Obj}{h':Heap}(I:Inv X (pins++[(C,o)]) σ H s)(Tg:X.gW.heap.objs.size<=C)(hp:∀p∈X.pn++pins,p.1≠C)(hs:Heap.SameBut C s.heap h'):Inv X pins σ H {s with heap:=h'}:=by
 obtain⟨e,n,ne,nf,d⟩:=I.pin (C,o) (by simp)
 refine(I.jW).turned (t':=s.toks) (fun b ob hb q=>(hs.2 b hb).trans q) n ne (.inr Tg) (fun x c hc z=>?_) hp
 obtain⟨v,ob,Tf,YR⟩:=I.cell x c hc
 rw[z] at Tf
 have e:s.heap.get? C=some o:=e
 rw[e] at Tf
 cases Tf
 exact d v YR
end
end L2
end
section
namespace L2
open PySem PySem.Spec PyProof.Rows
def gi(g:Comprehension)(inner:Sem Unit)(e:Expr)(d:Nat)(it acc:Value)(env:Env):Sem Fin:=do
 standAt g.iter.pos
 match <-pyNext it with
 |none=>pure (.done .next)
 |some v=>
  letOwnedTupleGo g.target it v
  assign g.target env v
  let mut ok:=true
  for c in g.ifs do
   if ok then ok <-isTrue c env (eval c env)
  if ok then inner
  again (.compLoop e d it acc env)
abbrev TL:=(St->Hp->Prop)->St->Hp->Prop
def PN(X:Cx)(inner:Sem Unit)(t:TL):Prop:=∀(pins:List (Addr×Obj)) (s:Shared) (τ:St) (H:Hp) (k:St->Hp->Prop),Inv X pins τ H s->t k τ H ->
 wpAny (model X.prog X.w) X.A inner (fun _ s'=>∃iD H',Inv X pins iD H' s'/\k iD H') X.xe s
def Cy(X:Cx)(ifs:List Expr)(t:TT):Prop:=∀(pins:List (Addr×Obj)) (s:Shared) (σ:St) (H:Hp) (Q:Bool->Hp->Prop),Inv X pins σ H s->t σ H Q ->
 wpAny (model X.prog X.w) X.A (forIn ifs true fun c r=>if r=true then do let ok <-isTrue c X.env (eval c X.env);pure (ForInStep.yield ok) else pure (ForInStep.yield r)) (TP X pins σ Q) X.xe s
def Nq:TT:=fun _ H Q=>Q true H
theorem Hc{X:Cx}:Cy X [] Nq:=fun pins s σ H Q I h=>wpAny_tests_nil ⟨H,I,h⟩
theorem Hb{X:Cx}{c:Expr}{t:TT}(h:PT X c t):Cy X [c] t:=fun pins s σ H Q I q=>wpAny_tests_one (h pins s σ H Q I q)
def t8(J:It)(g:TG)(tt:TT)(tl:TL):TL:=fun k τ H=>∃W:Nat->Nat->St->Hp->Prop,(∃m,W 0 m τ H)/\∀i m τ H,W i m τ H ->
 (J.stop i H/\k τ H)\/(J.go i H/\∃N:St->Hp->Prop,(∀iD H',N iD H'->∃m',m'<m/\W (i+1) m' iD H')/\∀x H',J.Mp i H x H'->g x τ H' fun FF H2=>tt FF H2 fun b H3=>if b=true then tl N FF H3 else N FF H3)
structure oZ(e:Expr):Prop where
 u1:∀(A:Around) (d:Nat) (it acc:Value) (env:Env),A.under (.compLoop e d it acc env)=A
 d1:∀(P:Program) (w:World) (d:Nat) (it acc:Value) (env:Env),(model P w).den (.compLoop e d it acc env)=(compTurn e d it acc env).onRaise (fun x=>do noteFrame x env;theTreesLotGoes x)
 u2:∀(A:Around) (d:Nat) (it acc:Value) (env:Env),A.under (.compStart e d it acc env)=A
 d2:∀(P:Program) (w:World) (d:Nat) (it acc:Value) (env:Env),(model P w).den (.compStart e d it acc env)=(compStart e d it acc env).onRaise (fun x=>do noteFrame x env;standAt theWindowsPlace)
 q:∀(d:Nat) (it acc:Value) (env:Env),(Code.compLoop e d it acc env).quiet=true
theorem jB{elt:Expr}{gens:List Comprehension}{sc:Scope}{pos:Pos}:oZ (.ListComp elt gens sc pos):=⟨fun _ _ _ _ _=>rfl,fun _ _ _ _ _ _=>rfl,fun _ _ _ _ _=>rfl,fun _ _ _ _ _ _=>rfl,fun _ _ _ _=>rfl⟩
theorem rM{kx vx:Expr}{gens:List Comprehension}{sc:Scope}{pos:Pos}:oZ (.DictComp kx vx gens sc pos):=⟨fun _ _ _ _ _=>rfl,fun _ _ _ _ _ _=>rfl,fun _ _ _ _ _=>rfl,fun _ _ _ _ _ _=>rfl,fun _ _ _ _=>rfl⟩
section
variable {X:Cx}
theorem uE{e:Expr}{d:Nat}{g:Comprehension}{inner:Sem Unit}{it:Addr}{acc:Value}{fp:List Addr}{tn:Nat->Heap->Prop}{J:It}{tg:TG}{tt:TT}{tl:TL}
  (ce:oZ e) (fX:compTurn e d (.ref it) acc X.env=gi g inner e d (.ref it) acc X.env) (T:Turn X.prog X.w X.K g.target J fp it tn) (hg:PG X g.target tg) (ht:Cy X g.ifs tt) (xG:PN X inner tl) (hc:X.calm=true) (Lr:X.xe=fun _ _=>False)
  {pins:List (Addr×Obj)}{s:Shared}{τ:St}{H:Hp}{k:St->Hp->Prop} (I:Inv X pins τ H s) (W8:tn 0 s.heap) (f0:∀b∈fp,m7 X pins H b) (h:t8 J tg tt tl k τ H) {R:Result->Shared->Prop}
  (hR:∀iD H' s',Inv X pins iD H' s'->k iD H'->R (.ok .next) s'):codeAny (model X.prog X.w) X.A (.compLoop e d (.ref it) acc X.env) R s:=by
 obtain⟨W,⟨m0,w0⟩,turn⟩:=h
 have yc:∀{α:Type}{t:Sem α}{Q:α->Shared->Prop}{E:Value->Shared->Prop}{s:Shared},wpAny (model X.prog X.w) X.A t Q X.xe s->wpAny (model X.prog X.w) X.A t Q E s:=fun h=>wpAny_mono h (fun _ _ q=>q) fun _ _ q=>by rw[Lr] at q;exact q.elim
 have yz:∀{H':Hp},(∀b∈fp,H' b=none)->∀b∈fp,m7 X pins H' b:=fun hn b hb=>⟨hn b hb,(f0 b hb).2⟩
 refine codeAny_loop (ce.q _ _ _ _) (fun n s'=>∃i bU H',Inv X pins bU H' s'/\tn i s'.heap/\(∀b∈fp,H' b=none)/\W i n bU H') (fun n s3 hI=>?_) m0 ⟨0,τ,H,I,W8,fun b hb=>(f0 b hb).1,w0⟩
 obtain⟨i,we,H3,I3,Ba,OT,w3⟩:=hI
 rw[ce.u1,ce.d1]
 refine wpAny_noted ?_
 rw[fX]
 unfold gi
 refine wpAny_bind (wpAny_standAt (wpAny_bind ?_))
 rcases turn i n we H3 w3 with⟨stop,qn⟩|⟨go,N,hN,step⟩
 ·refine yc (cq (T.done X rfl rfl rfl hc i pins s3 we H3 X.xe I3 (yz OT) Ba stop) fun r s4 ⟨hr,I4⟩=>?_)
  subst hr
  exact wpAny_pure (hR we H3 s4 I4 qn)
 ·refine yc (cq (T.item X rfl rfl rfl hc i pins s3 we H3 X.xe I3 (yz OT) Ba go) fun r s4 ⟨u,hr,h4⟩=>?_)
  subst hr
  refine wpAny_bind (yc (cq h4 fun _ s5 ⟨x,H5,I5,r5,y5,JZ,T4⟩=>?_))
  have Us:=I5.pinned (yz T4) (T.obj _ _ JZ)
  refine wpAny_bind (yc (cq (hg _ s5 we H5 x u _ Us r5 (step x H5 y5)) fun _ s6 ⟨PF,H6,I6,q6⟩=>?_))
  have again:∀{wd:St}{H7:Hp}{s7:Shared},Inv X (pins++qH fp s5.heap) wd H7 s7->N wd H7->∃m,m<n/\∃i bU H',Inv X pins bU H' s7/\tn i s7.heap/\(∀b∈fp,H' b=none)/\W i m bU H':=fun{wd H7 s7} I7 n7=>by
   obtain⟨m',hm,w7⟩:=hN wd H7 n7
   refine⟨m',hm,i+1,wd,H7,I7.jW,T.keep _ _ _ JZ fun b hb o e=>(I7.pin (b,o) (List.mem_append_right _ (List.mem_append_right _ (jx hb e)))).1,fun b hb=>?_,w7⟩
   obtain⟨o,e,d⟩:=T.obj _ _ JZ b hb
   exact(I7.pin (b,o) (List.mem_append_right _ (List.mem_append_right _ (jx hb e)))).2.1
  refine wpAny_bind (yc (cq (ht _ s6 PF H6 _ I6 q6) fun ok s7 ⟨H7,I7,q7⟩=>?_))
  cases ok with
  |false=>exact wpAny_pure ⟨rfl,again I7 q7⟩
  |true=>
   refine wpAny_bind (yc (cq (xG _ s7 PF H7 _ I7 q7) fun _ s8 ⟨ZJ,H8,I8,q8⟩=>?_))
   exact wpAny_pure ⟨rfl,again I8 q8⟩
theorem rL{prog:Program}{w:World}{A:Around}{R:Result->Shared->Prop}{s:Shared}{e:Expr}{d:Nat}{g:Comprehension}{it acc:Value}{env:Env}(ce:oZ e)(vI:(clausesOf e)[d]? = some g)(ha:g.is_async=0)
  (h0:codeAny (model prog w) A (.compLoop e d it acc env) R s)
  (h:wpAny (model prog w) A (pyIter it) (fun SD s'=>codeAny (model prog w) A (.compLoop e d SD acc env) R s') (notedBy (model prog w) A env fun x s'=>R (.error x) s') s) :
  codeAny (model prog w) A (.compStart e d it acc env) R s:=by
 refine codeAny_of_tree ?_
 rw[ce.u2,ce.d2]
 refine wpAny_notedAt ?_
 unfold compStart
 have e1:((clausesOf e)[d]?).elim false (fun x=>x.is_async != 0)=false:=by rw[vI];show(g.is_async != 0)=false;rw[ha];rfl
 rw[e1,vI]
 show wpAny _ _ (ask >>= _) _ _ s
 refine wpAny_bind (wpAny_askSetting (wpAny_ite ?_))
 split
 ·first
   |exact wpAny_bind (wpAny_pure (wpAny_pure (And.intro (ce.q _ _ _ _) h0)))
   |exact wpAny_pure (And.intro (ce.q _ _ _ _) h0)
 ·first
   |exact wpAny_bind (wpAny_rule (wpAny_bind (wpAny_standAt (wpAny_bind (wpAny_mono h (fun SD s' h'=>wpAny_pure (And.intro (ce.q _ _ _ _) h')) fun _ _ x=>x)))))
   |(refine wpAny_bind (wpAny_rule ?_);show wpAny _ _ (standAt g.iter.pos >>= _) _ _ s;exact wpAny_bind (wpAny_standAt (wpAny_bind (wpAny_mono h (fun SD s' h'=>wpAny_pure (And.intro (ce.q _ _ _ _) h')) fun _ _ x=>x))))
def II(te:TE)(p:Addr):TL:=fun k τ H=>te τ H fun y H4=>∃acc,H4 p=some (.lst acc)/\acc.length<=1000000/\∀H5,Mn p H4 H5->H5 p=some (.lst (acc++[y]))->k τ H5
theorem Hj{elt:Expr}{te:TE}{D:Addr}(h:PE X elt te):PN X (do let _ <-call (.builtin "list.append") [.ref D,<-eval elt X.env]) (II te D):=by
 intro pins s τ H k I q
 refine wpAny_bind (cq (h pins s τ H _ I q) fun y s4 ⟨v,H4,I4,r,acc,ha,hz,q4⟩=>?_)
 refine wpAny_bind (cq (lG pins s4 τ H4 (.ref D) [v] (.ref D) [y] (fun _ H5=>k τ H5) I4 rfl (.cons r .nil) ⟨D,acc,v,rfl,rfl,ha,hz,q4⟩) fun _ s5 ⟨_,H5,I5,_,q5⟩=>?_)
 exact wpAny_pure ⟨τ,H5,I5,q5⟩
def pS(wi:TI)(g:TG)(tt:TT)(tl:TL):TL:=fun k τ H=>wi τ H fun J H1=>t8 J g tt tl k τ H1
theorem tV{e iter tg:Expr}{ifs:List Expr}{d:Nat}{acc:Value}{inner:Sem Unit}{wi:TI}{g:TG}{tt:TT}{tl:TL}(ce:oZ e)(vI:(clausesOf e)[d]? = some ⟨tg,iter,ifs,0⟩)
  (fX:∀it,compTurn e d (.ref it) acc X.env=gi ⟨tg,iter,ifs,0⟩ inner e d (.ref it) acc X.env) (hi:PI X tg iter wi) (hg:PG X tg g) (ht:Cy X ifs tt) (xG:PN X inner tl) (hc:X.calm=true) (Lr:X.xe=fun _ _=>False) (hh:X.A.handled=none)
  (hs:∀x,foldedSetIterable iter X.env x=pure x:=by intro _;rfl) :
  PN X (do
   let x <-eval iter X.env
   standAt iter.pos
   let x <-foldedSetIterable iter X.env x
   let _ <-runOwn (.compStart e d (<-holding [x] (pyIter x)) acc X.env) X.env) (pS wi g tt tl):=by
 intro pins s τ H k I q
 have mk:X.A.mark none=X.A:=by cases X;rfl
 refine wpAny_bind (cq (hi pins s τ H _ I q) fun v s1 h1=>wpAny_bind (wpAny_standAt (wpAny_bind (wpAny_of_eq (hs v) (wpAny_bind (wpAny_holding (cq h1 fun Lh s2 h2=>?_)))))))
 obtain⟨it,fp,tn,J,H2,e2,I2,T,yb,f2,q2⟩:=h2
 subst e2
 have loop:codeAny (model X.prog X.w) X.A (.compLoop e d (.ref it) acc X.env) (fun r s'=>match r with | .ok f=>(∃iD H',Inv X pins iD H' s'/\k iD H') | .error e=>False) s2:=
  uE ce (fX it) T hg ht xG hc Lr I2 yb f2 q2 fun iD H' s' I' q'=>⟨iD,H',I',q'⟩
 refine wpAny_bind (wpAny_runOwn (env:=X.env) ?_)
 rw[mk]
 refine rL ce vI rfl ?_ (T.self _ 0 _ _ _ yb ?_)
 all_goals
  refine codeAny_mono loop fun r s' hr=>?_
  cases r with
  |ok f=>exact wpAny_pure hr
  |error e=>exact hr.elim
end
end L2
end
section
namespace L2
open PySem PySem.Spec PyProof.Rows
section
variable {X:Cx}
theorem mJ{e:Expr}{g:Comprehension}{inner:Env->Sem Unit}{it:Addr}{acc:Value}{fp:List Addr}{tn:Nat->Heap->Prop}{J:It}{tg:TG}{tt:TT}{tl:TL}{sc:Scope}{ks N2:List Str}(ce:oZ e)(vI:(clausesOf e)[0]? = some g)(ha:g.is_async=0)(S:vZ X sc ks N2)(hc:X.calm=true)
  (fX:∀it env,compTurn e 0 (.ref it) acc env=gi g (inner env) e 0 (.ref it) acc env) {pins:List (Addr×Obj)}{s:Shared}{σ:St}{H:Hp}{k:St->Hp->Prop} (hb:PG (dA X sc (ks++N2) s.heap.objs.size s H fp pins) g.target tg/\Cy (dA X sc (ks++N2) s.heap.objs.size s H fp pins) g.ifs tt/\PN (dA X sc (ks++N2) s.heap.objs.size s H fp pins) (inner (dA X sc (ks++N2) s.heap.objs.size s H fp pins).env) tl) (I:Inv X pins σ H s) (T:Turn X.prog X.w X.K g.target J fp it tn) (st:tn 0 s.heap) (f:∀b∈fp,m7 X pins H b)
  (h:t8 J tg tt tl k (List.replicate ks.length none++σ) H) {E:Value->Shared->Prop}{RR:Addr->Result->Shared->Prop}
  (Zd:∀C o m iD H' s',Inv X (pins++[(C,o)]) σ H' s'->s'.heap.Ns C m->X.gW.heap.objs.size<=C->(∀p∈X.pn++pins,p.1≠C)->k iD H'->RR C (.ok .next) s') :
  wpAny (model X.prog X.w) X.A (newFunctionEnv sc X.env.globals (oq X.env sc.names []) [] X.env.qual none .none (some X.env)) (fun Pa s4=>codeAny (model X.prog X.w) X.A (.compStart e 0 (.ref it) acc {Pa with scope:=relabel sc X.env}) (RR Pa.locals) s4) E s:=by
 refine wpAny_newFunctionEnv S.Es (fun x hx=>absurd hx (by simp)) (fun h1 Q1 Lz=>?_) S.kind
 have keep:∀b o,s.heap.get? b=some o->h1.get? b=some o:=fun b o e=>(Lz.2 b (Nat.ne_of_lt (Heap.lt_size e))).trans (Heap.get?_push_of_some _ e)
 have ho:∀b∈fp,∃o,s.heap.get? b=some o:=fun b hb=>let ⟨o,e,_⟩:=T.obj 0 _ st b hb;⟨o,e⟩
 have I4:=I.block (t':=s.toks+([]:List (Str×Value)).length) S f ho Q1 keep
 have UY:tn 0 h1:=T.keep _ _ _ st fun b _ o e=>keep b o e
 obtain⟨hg,ht,xG⟩:=hb
 have f4:∀b∈fp,m7 (dA X sc (ks++N2) s.heap.objs.size s H fp pins) [] H b:=fun b hb=>by
  obtain⟨f0,f1,f2,f3,f4,f5⟩:=f b hb
  refine⟨f0,?_,fun z=>?_,.inl hb,fun x c e=>f4 x c (S.sub I.ok x c e),fun p hp=>f5 p (by simpa using hp)⟩
  ·obtain⟨o,e⟩:=ho b hb
   exact Nat.ne_of_lt (Heap.lt_size e)
  ·rcases List.mem_cons.mp (I.qf b z) with z|z
   ·exact f1 z
   ·exact f2 z
 have loop:codeAny (model X.prog X.w) X.A (.compLoop e 0 (.ref it) acc (compEnvC sc (oq X.env sc.names []) s.heap.objs.size X.env)) (RR s.heap.objs.size) {s with heap:=h1,toks:=s.toks+([]:List (Str×Value)).length}:=by
  refine uE (X:=dA X sc (ks++N2) s.heap.objs.size s H fp pins) ce (fX it _) T hg ht xG hc rfl I4 UY f4 h fun iD H' s' I' q'=>?_
  obtain⟨m,⟨o,es,ep,gh,pJ,r⟩,_⟩:=id I'.loc
  refine Zd s.heap.objs.size o m iD H' s' (Inv.Gp I rfl f I' gh fun v z=>?_) ⟨o,es,ep,gh,pJ,r⟩ I.sz (fun p hp=>?_) q'
  ·rw[pJ] at z;cases z
  ·exact Nat.ne_of_lt (Heap.lt_size (I.pin p hp).1)
 exact rL ce vI ha loop (T.self _ 0 _ _ _ UY loop)
def jk(X:Cx)(sc:Scope)(N:List Str)(tg:Expr)(ifs:List Expr)(inner:Value->Env->Sem Unit)(u0:HO)(n:Nat)(wi:TI):TE:=fun σ H Q=>wi σ H fun J H1=>∀p H2,H1 p=none->cf H1 H2->H2 p=some u0->(∀b,b≠p->H2 b=H1 b) ->
 ∀C s H0 fp pins,∃g tt tl,PG (dA X sc N C s H0 fp pins) tg g/\Cy (dA X sc N C s H0 fp pins) ifs tt/\PN (dA X sc N C s H0 fp pins) (inner (.ref p) (dA X sc N C s H0 fp pins).env) tl/\t8 J g tt tl (fun _ H'=>Q (.ref p) H') (List.replicate n none++σ) H2
theorem AL{fp:List Addr}{pins:List (Addr×Obj)}{H H':Hp}(f:∀b∈fp,m7 X pins H b)(hn:∀b∈fp,H' b=none):∀b∈fp,m7 X pins H' b:=fun b hb=>⟨hn b hb,(f b hb).2⟩
theorem Ht{elt iter tg:Expr}{ifs:List Expr}{rest:List Comprehension}{sc:Scope}{pos:Pos}{ks N2:List Str}{inner:Value->Env->Sem Unit}{wi:TI}(S:vZ X sc ks N2)(hc:X.calm=true)(hi:PI X tg iter wi)
  (fX:∀D it env,compTurn (.ListComp elt (⟨tg,iter,ifs,0⟩::rest) sc pos) 0 (.ref it) (.ref D) env=gi ⟨tg,iter,ifs,0⟩ (inner (.ref D) env) (.ListComp elt (⟨tg,iter,ifs,0⟩::rest) sc pos) 0 (.ref it) (.ref D) env)
  (hs:∀x,foldedSetIterable iter X.env x=pure x:=by intro _;rfl):PE X (.ListComp elt (⟨tg,iter,ifs,0⟩::rest) sc pos) (jk X sc (ks++N2) tg ifs inner (.lst []) ks.length wi):=by
 intro pins s σ H Q I h
 rw[eval_ListComp]
 refine wpAny_comprehension_free (use:=none) rfl hs (gK (S.cells I.ok)) S.kind S.names (cq (hi pins s σ H _ I h) fun v s1 h1=>cq h1 fun Lh s2 h2=>?_)
 obtain⟨it,fp,tn,J,H2,e2,I2,T,yb,f2,q2⟩:=h2
 subst e2
 refine wpAny_newObj_type ?_
 have I3:=I2.K9 (ys:=[]) (its:=[]) (t':=s2.toks) .nil (Nat.zero_le _)
 have hn:H2 s2.heap.objs.size=none:=I2.cb.fresh (Nat.le_refl _)
 have Ba:tn 0 (s2.heap.push {cls:=.type "list",data:=.seq ([]:List Value).toArray}):=T.keep _ _ _ yb fun b _ o e=>Heap.get?_push_of_some _ e
 have f3:=AL (H':=upd H2 s2.heap.objs.size (.lst [])) f2 fun b hb=>by
  obtain⟨o,e,_⟩:=T.obj 0 _ yb b hb
  rw[aE (Nat.ne_of_lt (Heap.lt_size e))]
  exact(f2 b hb).1
 obtain⟨g,tt,tl,hg,ht,xG,loop⟩:=q2 _ _ hn (cf.upd hn) aB (fun b hb=>aE hb) _ _ _ fp pins
 refine mJ (inner:=inner (.ref s2.heap.objs.size)) (RR:=compPost (model X.prog X.w) X.A X.xe none (EP X pins σ Q) (.ref s2.heap.objs.size)) jB rfl rfl S hc (fX _) ⟨hg,ht,xG⟩ I3 T Ba f3 loop fun C o m iD H' s' I' hm hz hp q'=>?_
 exact⟨m,hm,fun h' Ie=>⟨.ref s2.heap.objs.size,H',I'.loose hz hp Ie,rfl,q'⟩⟩
theorem qG{elt iter tg:Expr}{ifs:List Expr}{rest:List Comprehension}{sc:Scope}{pos jm py:Pos}{y:Str}{ks N2:List Str}{inner:Value->Env->Sem Unit}{wi:TI}{gy:TG}(S:vZ X sc ks N2)(hc:X.calm=true)(hi:PI X tg iter wi)
  (fX:∀D it env,compTurn (.ListComp elt (⟨tg,iter,ifs,0⟩::rest) sc pos) 0 (.ref it) (.ref D) env=gi ⟨tg,iter,ifs,0⟩ (inner (.ref D) env) (.ListComp elt (⟨tg,iter,ifs,0⟩::rest) sc pos) 0 (.ref it) (.ref D) env)
  (hy:PG X (.Name y py) gy) (B1:swapsWith (.ListComp elt (⟨tg,iter,ifs,0⟩::rest) sc pos) (some (.Name y py)) jm.line X.env=pure true)
  (hs:∀x,foldedSetIterable iter X.env x=pure x:=by intro _;rfl):PS X (.Assign [.Name y py] (.ListComp elt (⟨tg,iter,ifs,0⟩::rest) sc pos) jm) (yx (jk X sc (ks++N2) tg ifs inner (.lst []) ks.length wi) gy):=by
 intro pins s σ H D I h
 rw[exec_Assign_Name_used _ _ _ _ B1]
 refine wpAny_bind (wpAny_standAt (wpAny_bind ?_))
 show wpAny _ X.A (do let _ <-comprehension (.ListComp elt (⟨tg,iter,ifs,0⟩::rest) sc pos) sc X.env _ (newList []) false (eval iter X.env) (some (assign (.Name y py) X.env))) _ _ s
 refine wpAny_bind (cq (wpAny_comprehension_free (use:=some (assign (.Name y py) X.env)) (Q:=fun _ s'=>∃bU H',Inv X pins bU H' s'/\D.nx bU H') rfl hs (gK (S.cells I.ok)) S.kind S.names (cq (hi pins s σ H _ I h) fun v s1 h1=>cq h1 fun Lh s2 h2=>?_)) fun _ s' q=>wpAny_pure (wpAny_pure q))
 obtain⟨it,fp,tn,J,H2,e2,I2,T,yb,f2,q2⟩:=h2
 subst e2
 refine wpAny_newObj_type ?_
 have I3:=I2.K9 (ys:=[]) (its:=[]) (t':=s2.toks) .nil (Nat.zero_le _)
 have hn:H2 s2.heap.objs.size=none:=I2.cb.fresh (Nat.le_refl _)
 have Ba:tn 0 (s2.heap.push {cls:=.type "list",data:=.seq ([]:List Value).toArray}):=T.keep _ _ _ yb fun b _ o e=>Heap.get?_push_of_some _ e
 have f3:=AL (H':=upd H2 s2.heap.objs.size (.lst [])) f2 fun b hb=>by
  obtain⟨o,e,_⟩:=T.obj 0 _ yb b hb
  rw[aE (Nat.ne_of_lt (Heap.lt_size e))]
  exact(f2 b hb).1
 obtain⟨g,tt,tl,hg,ht,xG,loop⟩:=q2 _ _ hn (cf.upd hn) aB (fun b hb=>aE hb) _ _ _ fp pins
 refine mJ (inner:=inner (.ref s2.heap.objs.size)) (RR:=compPost (model X.prog X.w) X.A X.xe (some (assign (.Name y py) X.env)) (fun _ s'=>∃bU H',Inv X pins bU H' s'/\D.nx bU H') (.ref s2.heap.objs.size)) jB rfl rfl S hc (fX _) ⟨hg,ht,xG⟩ I3 T Ba f3 loop fun C o m iD H' s' I' hm hz hp q'=>?_
 refine cq (hy _ s' σ H' (.ref s2.heap.objs.size) (.ref s2.heap.objs.size) _ I' rfl q') fun _ GZ ⟨JA,kQ,Pz,Sh⟩=>?_
 obtain⟨o',es,ep,gh,r⟩:=hm
 have e:=(I'.pin (C,o) (by simp)).1
 have e':GZ.heap.get? C=some o:=(Pz.pin (C,o) (by simp)).1
 have e:s'.heap.get? C=some o:=e
 rw[gh] at e
 obtain rfl:o'=o:=Option.some.inj e
 exact⟨m,⟨o',es,ep,e',r⟩,fun h' Ie=>⟨JA,kQ,Pz.loose hz hp Ie,Sh⟩⟩
theorem Ce{pins:List (Addr×Obj)}{σ:St}{H H':Hp}{s:Shared}{a:Addr}{y v:V}{u r:Value}{A:Around}{E:Value->Shared->Prop}{Q:Unit->Shared->Prop}(hu:A.units+1<cLine)(I:Inv X pins σ H s)(g:tm H a y v H')(ry:RelV y u)(rv:RelV v r)(h:∀s',Inv X pins σ H' s'->Q () s') :
  wpAny (model X.prog X.w) A (dictSet a u r) Q E s:=by
 rcases g with⟨aw,k,e,ey,l,eH⟩|⟨aw,k,b,e,ey,eb,l,eH⟩
 ·subst ey eH
  obtain⟨z,hd,vs,rel,dd⟩:=Fm I.cb e
  have hz:vs.length<=sizeLine:=by rw[<-rel.length];exact z
  have hl:(putK aw k v).length<=sizeLine:=by have:=gO aw k v;omega
  refine wpAny_dictSet_pairs (hsz:=hz) (ka ry) dd fun h' xU hs=>h _ ?_
  have he:∃q,h'.get? a=some q:=let ⟨q,_,_,hq,_⟩:=xU;⟨q,hq⟩
  exact mI I (by rw[e];exact True.intro) hs he (rD hl hd (rel.put k rv) xU)
 ·subst ey eH
  cases (show u=Value.ref b from ry)
  obtain⟨z,hd,xs,rel,dd⟩:=Jq I.cb e
  have hz:xs.length<=sizeLine:=by rw[<-Paired.length rel];exact z
  have hl:(putK aw k v).length<=sizeLine:=by have:=gO aw k v;omega
  refine wpAny_dictSet_heap (hsz:=hz) (by show A.units<cLine;omega) (lL I.cb eb) dd fun h' xU hs=>h _ ?_
  obtain⟨q,es,ep,hq,h2,h3,h4,_,h5⟩:=xU
  refine mI I (by rw[e];exact True.intro) hs ⟨q,hq⟩ ⟨hl,hd,_,(rel.put k eb rv).keeps fun c ys ec=>?_,q,es,ep,hq,h2,h3,h4,h5⟩
  rw[aE (Eu ec e (fun z=>nomatch z))]
  exact ec
def C4(tk tv:TE)(p:Addr):TL:=fun k τ H=>tk τ H fun y H1=>tv τ H1 fun z H2=>∃H3,tm H2 p y z H3/\k τ H3
theorem D9{kx vx:Expr}{tk tv:TE}{D:Addr}{q:Pos}(hu:X.A.units+1<cLine)(hk:PE X kx tk)(hv:PE X vx tv):PN X (do
      let kv <-eval kx X.env
      let vv <-holding [kv] (eval vx X.env)
      standAt q
      holding [kv,vv] (dictSet D kv vv)) (C4 tk tv D):=by
 intro pins s τ H k I h
 refine wpAny_bind (cq (hk pins s τ H _ I h) fun yv s1 ⟨y,H1,I1,ry,q1⟩=>wpAny_bind (wpAny_holding (cq (hv pins s1 τ H1 _ I1 q1) fun zv s2 ⟨z,H2,I2,rz,H3,hp,q2⟩=>wpAny_bind (wpAny_standAt (wpAny_holding ?_)))))
 exact Ce hu I2 hp ry rz fun s' I'=>⟨τ,H3,I',q2⟩
def d0:Bool->HO
 |false=>.dK []
 |true=>.dT []
theorem Inv.OZ{pins:List (Addr×Obj)}{σ:St}{H:Hp}{s:Shared}(I:Inv X pins σ H s)(t:Bool):Inv X pins σ (upd H s.heap.objs.size (d0 t)) {s with heap:=s.heap.push {cls:=.type "dict",data:=.dict #[]}}:=by
 cases t with
 |false=>exact I.laid (a:=s.heap.objs.size) (o:=.dK []) (t':=s.toks) (fun _ _ q=>Heap.get?_push_of_some _ q) (Nat.le_refl _) (rE s.heap I.big)
 |true=>exact I.laid (a:=s.heap.objs.size) (o:=.dT []) (t':=s.toks) (fun _ _ q=>Heap.get?_push_of_some _ q) (Nat.le_refl _) (Fi s.heap I.big)
theorem rB(kx vx gens scope pos){env:Env}:eval (.DictComp kx vx gens scope pos) env =
  comprehension (.DictComp kx vx gens scope pos) scope env (firstIterPos gens pos) newDict (firstAsync gens) (firstIter gens env):=rfl
theorem Ee(t:Bool){kx vx iter tg:Expr}{ifs:List Expr}{rest:List Comprehension}{sc:Scope}{pos:Pos}{ks N2:List Str}{inner:Value->Env->Sem Unit}{wi:TI}(S:vZ X sc ks N2)(hc:X.calm=true)(hi:PI X tg iter wi)
  (fX:∀D it env,compTurn (.DictComp kx vx (⟨tg,iter,ifs,0⟩::rest) sc pos) 0 (.ref it) (.ref D) env=gi ⟨tg,iter,ifs,0⟩ (inner (.ref D) env) (.DictComp kx vx (⟨tg,iter,ifs,0⟩::rest) sc pos) 0 (.ref it) (.ref D) env)
  (hs:∀x,foldedSetIterable iter X.env x=pure x:=by intro _;rfl):PE X (.DictComp kx vx (⟨tg,iter,ifs,0⟩::rest) sc pos) (jk X sc (ks++N2) tg ifs inner (d0 t) ks.length wi):=by
 intro pins s σ H Q I h
 rw[rB]
 refine wpAny_comprehension_free (use:=none) rfl hs (gK (S.cells I.ok)) S.kind S.names (cq (hi pins s σ H _ I h) fun v s1 h1=>cq h1 fun Lh s2 h2=>?_)
 obtain⟨it,fp,tn,J,H2,e2,I2,T,yb,f2,q2⟩:=h2
 subst e2
 refine wpAny_newObj_type ?_
 have I3:=I2.OZ t
 have hn:H2 s2.heap.objs.size=none:=I2.cb.fresh (Nat.le_refl _)
 have Ba:tn 0 (s2.heap.push {cls:=.type "dict",data:=.dict #[]}):=T.keep _ _ _ yb fun b _ o e=>Heap.get?_push_of_some _ e
 have f3:=AL (H':=upd H2 s2.heap.objs.size (d0 t)) f2 fun b hb=>by
  obtain⟨o,e,_⟩:=T.obj 0 _ yb b hb
  rw[aE (Nat.ne_of_lt (Heap.lt_size e))]
  exact(f2 b hb).1
 obtain⟨g,tt,tl,hg,ht,xG,loop⟩:=q2 _ _ hn (cf.upd hn) aB (fun b hb=>aE hb) _ _ _ fp pins
 refine mJ (inner:=inner (.ref s2.heap.objs.size)) (RR:=compPost (model X.prog X.w) X.A X.xe none (EP X pins σ Q) (.ref s2.heap.objs.size)) rM rfl rfl S hc (fX _) ⟨hg,ht,xG⟩ I3 T Ba f3 loop fun C o m iD H' s' I' hm hz hp q'=>?_
 exact⟨m,hm,fun h' Ie=>⟨.ref s2.heap.objs.size,H',I'.loose hz hp Ie,rfl,q'⟩⟩
theorem w9(t:Bool){kx vx iter tg:Expr}{ifs:List Expr}{rest:List Comprehension}{sc:Scope}{pos jm py:Pos}{y:Str}{ks N2:List Str}{inner:Value->Env->Sem Unit}{wi:TI}{gy:TG}(S:vZ X sc ks N2)(hc:X.calm=true)(hi:PI X tg iter wi)
  (fX:∀D it env,compTurn (.DictComp kx vx (⟨tg,iter,ifs,0⟩::rest) sc pos) 0 (.ref it) (.ref D) env=gi ⟨tg,iter,ifs,0⟩ (inner (.ref D) env) (.DictComp kx vx (⟨tg,iter,ifs,0⟩::rest) sc pos) 0 (.ref it) (.ref D) env)
  (hy:PG X (.Name y py) gy) (B1:swapsWith (.DictComp kx vx (⟨tg,iter,ifs,0⟩::rest) sc pos) (some (.Name y py)) jm.line X.env=pure true)
  (hs:∀x,foldedSetIterable iter X.env x=pure x:=by intro _;rfl):PS X (.Assign [.Name y py] (.DictComp kx vx (⟨tg,iter,ifs,0⟩::rest) sc pos) jm) (yx (jk X sc (ks++N2) tg ifs inner (d0 t) ks.length wi) gy):=by
 intro pins s σ H D I h
 rw[exec_Assign_Name_used _ _ _ _ B1]
 refine wpAny_bind (wpAny_standAt (wpAny_bind ?_))
 show wpAny _ X.A (do let _ <-comprehension (.DictComp kx vx (⟨tg,iter,ifs,0⟩::rest) sc pos) sc X.env _ newDict false (eval iter X.env) (some (assign (.Name y py) X.env))) _ _ s
 refine wpAny_bind (cq (wpAny_comprehension_free (use:=some (assign (.Name y py) X.env)) (Q:=fun _ s'=>∃bU H',Inv X pins bU H' s'/\D.nx bU H') rfl hs (gK (S.cells I.ok)) S.kind S.names (cq (hi pins s σ H _ I h) fun v s1 h1=>cq h1 fun Lh s2 h2=>?_)) fun _ s' q=>wpAny_pure (wpAny_pure q))
 obtain⟨it,fp,tn,J,H2,e2,I2,T,yb,f2,q2⟩:=h2
 subst e2
 refine wpAny_newObj_type ?_
 have I3:=I2.OZ t
 have hn:H2 s2.heap.objs.size=none:=I2.cb.fresh (Nat.le_refl _)
 have Ba:tn 0 (s2.heap.push {cls:=.type "dict",data:=.dict #[]}):=T.keep _ _ _ yb fun b _ o e=>Heap.get?_push_of_some _ e
 have f3:=AL (H':=upd H2 s2.heap.objs.size (d0 t)) f2 fun b hb=>by
  obtain⟨o,e,_⟩:=T.obj 0 _ yb b hb
  rw[aE (Nat.ne_of_lt (Heap.lt_size e))]
  exact(f2 b hb).1
 obtain⟨g,tt,tl,hg,ht,xG,loop⟩:=q2 _ _ hn (cf.upd hn) aB (fun b hb=>aE hb) _ _ _ fp pins
 refine mJ (inner:=inner (.ref s2.heap.objs.size)) (RR:=compPost (model X.prog X.w) X.A X.xe (some (assign (.Name y py) X.env)) (fun _ s'=>∃bU H',Inv X pins bU H' s'/\D.nx bU H') (.ref s2.heap.objs.size)) rM rfl rfl S hc (fX _) ⟨hg,ht,xG⟩ I3 T Ba f3 loop fun C o m iD H' s' I' hm hz hp q'=>?_
 refine cq (hy _ s' σ H' (.ref s2.heap.objs.size) (.ref s2.heap.objs.size) _ I' rfl q') fun _ GZ ⟨JA,kQ,Pz,Sh⟩=>?_
 obtain⟨o',es,ep,gh,r⟩:=hm
 have e:=(I'.pin (C,o) (by simp)).1
 have e':GZ.heap.get? C=some o:=(Pz.pin (C,o) (by simp)).1
 have e:s'.heap.get? C=some o:=e
 rw[gh] at e
 obtain rfl:o'=o:=Option.some.inj e
 exact⟨m,⟨o',es,ep,e',r⟩,fun h' Ie=>⟨JA,kQ,Pz.loose hz hp Ie,Sh⟩⟩
end
end L2
end
section
namespace VS
open PySem L2
inductive DK where
 |s (k:Key)|t (ks:List Key)
 deriving DecidableEq
inductive D where
 |bJ|bl (b:Bool)|int (i:Int)|str (x:Str)|fn (a:Addr)
 |tup (ds:List D)|lst (o:Bool) (ds:List D)|cy (o t:Bool) (ks:List DK) (ds:List D)
abbrev Set:=Addr->Prop
def cE:Set:=fun _=>False
def DictAt:Bool->HO->List DK->List V->Prop
 |false,ho,ks,vs=>∃kl:List Key,ks=kl.map .s/\kl.length=vs.length/\kl.Nodup/\ho=.dK (kl.zip vs)
 |true,ho,ks,vs=>∃kl:List (List Key),ks=kl.map .t/\kl.length=vs.length/\kl.Nodup/\ho=.dT (kl.zip vs)
mutual
def Own(Z:Set)(H:Hp):D->V->Set->Prop
 | .bJ,v,_=>v=.bJ
 | .bl b,v,_=>v=.bl b
 | .int i,v,_=>v=.int i
 | .str x,v,_=>v=.str x
 | .fn a,v,_=>v=.ref a
 | .tup ds,v,F=>∃a vs,v=.ref a/\H a=some (.tup vs)/\ar Z H ds vs F
 | .lst true ds,v,F=>∃a vs,v=.ref a/\H a=some (.lst vs)/\F a/\ar Z H ds vs (fun b=>F b/\b≠a)
 | .lst false ds,v,_=>∃a vs,v=.ref a/\Rd H a (.lst vs)/\Z a/\ar Z H ds vs cE
 | .cy true t ks ds,v,F=>∃a vs u,v=.ref a/\H a=some u/\DictAt t u ks vs/\F a/\ar Z H ds vs (fun b=>F b/\b≠a)
 | .cy false t ks ds,v,_=>∃a vs u,v=.ref a/\Rd H a u/\DictAt t u ks vs/\Z a/\ar Z H ds vs cE
def ar(Z:Set)(H:Hp):List D->List V->Set->Prop
 | [],vs,_=>vs=[]
 |d::ds,vs,F=>∃v r F1 F2,vs=v::r/\Own Z H d v F1/\ar Z H ds r F2/\(∀b,F1 b->F b)/\(∀b,F2 b->F b)/\(∀b,F1 b->¬F2 b)
end
mutual
def bare:D->Bool
 | .tup ds=>a9 ds
 | .lst o ds=>!o&&a9 ds
 | .cy o _ _ ds=>!o&&a9 ds
 |_=>true
def a9:List D->Bool
 | []=>true
 |d::r=>bare d&&a9 r
end
mutual
def eJ:D->Bool
 | .tup ds=>jv ds
 | .lst o ds=>o&&jv ds
 | .cy o _ _ ds=>o&&jv ds
 |_=>true
def jv:List D->Bool
 | []=>true
 |d::r=>eJ d&&jv r
end
mutual
def aT:D->D
 | .tup ds=>.tup (d9 ds)
 | .lst _ ds=>.lst false (d9 ds)
 | .cy _ t ks ds=>.cy false t ks (d9 ds)
 | .bJ=>.bJ | .bl b=>.bl b | .int i=>.int i | .str x=>.str x | .fn a=>.fn a
def d9:List D->List D
 | []=>[]
 |d::r=>aT d::d9 r
end
section
variable {Z Z':Set}{H H':Hp}{F F':Set}
theorem Rd.up{a:Addr}{u:HO}(k:∀o,H a=some o->H' a=some o)(h:Rd H a u):Rd H' a u:=h.elim (fun e=>.inl (k _ e)) fun⟨o,e⟩=>.inr ⟨o,k _ e⟩
mutual
theorem Own.step(W:Set)(hZ:∀a,Z a->Z' a)(k:∀a o,H a=some o->¬W a->H' a=some o)(wz:∀a,W a->¬Z a)(wt:∀a vs,W a->¬H a=some (.tup vs)):∀(d:D) {v:V}{F F':Set},(∀a,F a->F' a)->(∀a,W a->¬F a)->Own Z H d v F->Own Z' H' d v F'
 | .bJ,v,F,F',_,_,h=>by simpa only [Own] using h
 | .bl b,v,F,F',_,_,h=>by simpa only [Own] using h
 | .int i,v,F,F',_,_,h=>by simpa only [Own] using h
 | .str x,v,F,F',_,_,h=>by simpa only [Own] using h
 | .fn a,v,F,F',_,_,h=>by simpa only [Own] using h
 | .tup ds,v,F,F',hF,hW,h=>by
  simp only[Own] at h ⊢
  obtain⟨a,vs,e,hr,hl⟩:=h
  exact⟨a,vs,e,k a _ hr fun z=>wt a vs z hr,ar.step W hZ k wz wt ds hF hW hl⟩
 | .lst true ds,v,F,F',hF,hW,h=>by
  simp only[Own] at h ⊢
  obtain⟨a,vs,e,hr,ha,hl⟩:=h
  exact⟨a,vs,e,k a _ hr fun z=>hW a z ha,hF a ha,ar.step W hZ k wz wt ds (fun b hb=>⟨hF b hb.1,hb.2⟩) (fun b hb z=>hW b hb z.1) hl⟩
 | .lst false ds,v,F,F',hF,hW,h=>by
  simp only[Own] at h ⊢
  obtain⟨a,vs,e,hr,ha,hl⟩:=h
  exact⟨a,vs,e,Rd.up (fun o q=>k a o q fun z=>wz a z ha) hr,hZ a ha,ar.step W hZ k wz wt ds (fun _ z=>z) (fun _ _ z=>z) hl⟩
 | .cy true t ks ds,v,F,F',hF,hW,h=>by
  simp only[Own] at h ⊢
  obtain⟨a,vs,u,e,hr,hd,ha,hl⟩:=h
  exact⟨a,vs,u,e,k a _ hr fun z=>hW a z ha,hd,hF a ha,ar.step W hZ k wz wt ds (fun b hb=>⟨hF b hb.1,hb.2⟩) (fun b hb z=>hW b hb z.1) hl⟩
 | .cy false t ks ds,v,F,F',hF,hW,h=>by
  simp only[Own] at h ⊢
  obtain⟨a,vs,u,e,hr,hd,ha,hl⟩:=h
  exact⟨a,vs,u,e,Rd.up (fun o q=>k a o q fun z=>wz a z ha) hr,hd,hZ a ha,ar.step W hZ k wz wt ds (fun _ z=>z) (fun _ _ z=>z) hl⟩
theorem ar.step(W:Set)(hZ:∀a,Z a->Z' a)(k:∀a o,H a=some o->¬W a->H' a=some o)(wz:∀a,W a->¬Z a)(wt:∀a vs,W a->¬H a=some (.tup vs)):∀(ds:List D) {vs:List V}{F F':Set},(∀a,F a->F' a)->(∀a,W a->¬F a)->ar Z H ds vs F->ar Z' H' ds vs F'
 | [],vs,F,F',_,_,h=>by simpa only [ar] using h
 |d::ds,vs,F,F',hF,hW,h=>by
  simp only[ar] at h ⊢
  obtain⟨v,r,F1,F2,e,h1,h2,s1,s2,dj⟩:=h
  exact⟨v,r,F1,F2,e,Own.step W hZ k wz wt d (fun _ z=>z) (fun b hb z=>hW b hb (s1 b z)) h1,ar.step W hZ k wz wt ds (fun _ z=>z) (fun b hb z=>hW b hb (s2 b z)) h2,fun b z=>hF b (s1 b z),fun b z=>hF b (s2 b z),dj⟩
end
theorem Own.mono{d:D}{v:V}(hF:∀a,F a->F' a)(h:Own Z H d v F):Own Z H d v F':=Own.step (fun _=>False) (fun _ z=>z) (fun _ _ e _=>e) (fun _ z=>z.elim) (fun _ _ z=>z.elim) d hF (fun _ z=>z.elim) h
theorem ar.mono{ds:List D}{vs:List V}(hF:∀a,F a->F' a)(h:ar Z H ds vs F):ar Z H ds vs F':=ar.step (fun _=>False) (fun _ z=>z) (fun _ _ e _=>e) (fun _ z=>z.elim) (fun _ _ z=>z.elim) ds hF (fun _ z=>z.elim) h
theorem Own.grow{d:D}{v:V}(hs:cf H H')(h:Own Z H d v F):Own Z H' d v F:=Own.step (fun _=>False) (fun _ z=>z) (fun a o e _=>hs a o e) (fun _ z=>z.elim) (fun _ _ z=>z.elim) d (fun _ z=>z) (fun _ z=>z.elim) h
theorem ar.grow{ds:List D}{vs:List V}(hs:cf H H')(h:ar Z H ds vs F):ar Z H' ds vs F:=ar.step (fun _=>False) (fun _ z=>z) (fun a o e _=>hs a o e) (fun _ z=>z.elim) (fun _ _ z=>z.elim) ds (fun _ z=>z) (fun _ z=>z.elim) h
end
theorem Own.ig{Z Z':Set}{H:Hp}{d:D}{v:V}{F:Set}(h:Own Z H d v F)(hZ:∀a,Z a->Z' a):Own Z' H d v F:=Own.step (fun _=>False) hZ (fun _ _ e _=>e) (fun _ z=>z.elim) (fun _ _ z=>z.elim) d (fun _ z=>z) (fun _ z=>z.elim) h
theorem ar.ig{Z Z':Set}{H:Hp}{ds:List D}{vs:List V}{F:Set}(h:ar Z H ds vs F)(hZ:∀a,Z a->Z' a):ar Z' H ds vs F:=ar.step (fun _=>False) hZ (fun _ _ e _=>e) (fun _ z=>z.elim) (fun _ _ z=>z.elim) ds (fun _ z=>z) (fun _ z=>z.elim) h
section
variable {Z Z':Set}{H H':Hp}{F F':Set}
mutual
theorem Own.aT:∀(d:D) {v:V}{F:Set},Own Z H d v F->Own (fun a=>Z a\/F a) H (aT d) v cE
 | .bJ,v,F,h=>by simpa only [Own,VS.aT] using h
 | .bl b,v,F,h=>by simpa only [Own,VS.aT] using h
 | .int i,v,F,h=>by simpa only [Own,VS.aT] using h
 | .str x,v,F,h=>by simpa only [Own,VS.aT] using h
 | .fn a,v,F,h=>by simpa only [Own,VS.aT] using h
 | .tup ds,v,F,h=>by
  simp only[Own,VS.aT] at h ⊢
  obtain⟨a,vs,e,hr,hl⟩:=h
  exact⟨a,vs,e,hr,ar.aT ds hl⟩
 | .lst true ds,v,F,h=>by
  simp only[Own,VS.aT] at h ⊢
  obtain⟨a,vs,e,hr,ha,hl⟩:=h
  exact⟨a,vs,e,.inl hr,.inr ha,ar.ig (ar.aT ds hl) fun b z=>z.elim .inl fun z=>.inr z.1⟩
 | .lst false ds,v,F,h=>by
  simp only[Own,VS.aT] at h ⊢
  obtain⟨a,vs,e,hr,ha,hl⟩:=h
  exact⟨a,vs,e,hr,.inl ha,ar.ig (ar.aT ds hl) fun b z=>z.elim .inl fun z=>z.elim⟩
 | .cy true t ks ds,v,F,h=>by
  simp only[Own,VS.aT] at h ⊢
  obtain⟨a,vs,u,e,hr,hd,ha,hl⟩:=h
  exact⟨a,vs,u,e,.inl hr,hd,.inr ha,ar.ig (ar.aT ds hl) fun b z=>z.elim .inl fun z=>.inr z.1⟩
 | .cy false t ks ds,v,F,h=>by
  simp only[Own,VS.aT] at h ⊢
  obtain⟨a,vs,u,e,hr,hd,ha,hl⟩:=h
  exact⟨a,vs,u,e,hr,hd,.inl ha,ar.ig (ar.aT ds hl) fun b z=>z.elim .inl fun z=>z.elim⟩
theorem ar.aT:∀(ds:List D) {vs:List V}{F:Set},ar Z H ds vs F->ar (fun a=>Z a\/F a) H (d9 ds) vs cE
 | [],vs,F,h=>by simpa only [ar,VS.d9] using h
 |d::ds,vs,F,h=>by
  simp only[ar,VS.d9] at h ⊢
  obtain⟨v,r,F1,F2,e,h1,h2,s1,s2,dj⟩:=h
  refine⟨v,r,cE,cE,e,Own.ig (Own.aT d h1) fun b z=>z.imp id (s1 b),ar.ig (ar.aT ds h2) fun b z=>z.imp id (s2 b),fun _ z=>z,fun _ z=>z,fun _ z _=>z⟩
end
end
end VS
end
section
namespace VS
open PySem L2
section
variable {Z Z':Set}{H H':Hp}{F F':Set}
mutual
theorem Own.bare:∀(d:D) {v:V}{F:Set},bare d=true->Own Z H d v F->Own Z H d v cE
 | .bJ,v,F,_,h=>by simpa only [Own] using h
 | .bl b,v,F,_,h=>by simpa only [Own] using h
 | .int i,v,F,_,h=>by simpa only [Own] using h
 | .str x,v,F,_,h=>by simpa only [Own] using h
 | .fn a,v,F,_,h=>by simpa only [Own] using h
 | .tup ds,v,F,hb,h=>by
  simp only[Own,VS.bare] at h hb ⊢
  obtain⟨a,vs,e,hr,hl⟩:=h
  exact⟨a,vs,e,hr,ar.bare ds hb hl⟩
 | .lst true ds,v,F,hb,h=>by simp[VS.bare] at hb
 | .lst false ds,v,F,_,h=>by simpa only [Own] using h
 | .cy true t ks ds,v,F,hb,h=>by simp[VS.bare] at hb
 | .cy false t ks ds,v,F,_,h=>by simpa only [Own] using h
theorem ar.bare:∀(ds:List D) {vs:List V}{F:Set},a9 ds=true->ar Z H ds vs F->ar Z H ds vs cE
 | [],vs,F,_,h=>by simpa only [ar] using h
 |d::ds,vs,F,hb,h=>by
  simp only[ar,VS.a9,Bool.and_eq_true] at h hb ⊢
  obtain⟨v,r,F1,F2,e,h1,h2,s1,s2,dj⟩:=h
  exact⟨v,r,cE,cE,e,Own.bare d hb.1 h1,ar.bare ds hb.2 h2,fun _ z=>z,fun _ z=>z,fun _ z _=>z⟩
end
mutual
theorem Own.eJ:∀(d:D) {v:V}{F:Set},eJ d=true->Own Z H d v F->Own Z' H d v F
 | .bJ,v,F,_,h=>by simpa only [Own] using h
 | .bl b,v,F,_,h=>by simpa only [Own] using h
 | .int i,v,F,_,h=>by simpa only [Own] using h
 | .str x,v,F,_,h=>by simpa only [Own] using h
 | .fn a,v,F,_,h=>by simpa only [Own] using h
 | .tup ds,v,F,hb,h=>by
  simp only[Own,VS.eJ] at h hb ⊢
  obtain⟨a,vs,e,hr,hl⟩:=h
  exact⟨a,vs,e,hr,ar.eJ ds hb hl⟩
 | .lst false ds,v,F,hb,h=>by simp[VS.eJ] at hb
 | .lst true ds,v,F,hb,h=>by
  simp only[Own,VS.eJ,Bool.true_and] at h hb ⊢
  obtain⟨a,vs,e,hr,ha,hl⟩:=h
  exact⟨a,vs,e,hr,ha,ar.eJ ds hb hl⟩
 | .cy false t ks ds,v,F,hb,h=>by simp[VS.eJ] at hb
 | .cy true t ks ds,v,F,hb,h=>by
  simp only[Own,VS.eJ,Bool.true_and] at h hb ⊢
  obtain⟨a,vs,u,e,hr,hd,ha,hl⟩:=h
  exact⟨a,vs,u,e,hr,hd,ha,ar.eJ ds hb hl⟩
theorem ar.eJ:∀(ds:List D) {vs:List V}{F:Set},jv ds=true->ar Z H ds vs F->ar Z' H ds vs F
 | [],vs,F,_,h=>by simpa only [ar] using h
 |d::ds,vs,F,hb,h=>by
  simp only[ar,VS.jv,Bool.and_eq_true] at h hb ⊢
  obtain⟨v,r,F1,F2,e,h1,h2,s1,s2,dj⟩:=h
  exact⟨v,r,F1,F2,e,Own.eJ d hb.1 h1,ar.eJ ds hb.2 h2,s1,s2,dj⟩
end
mutual
theorem Fv:∀d:D,bare (aT d)=true
 | .tup ds=>by simp only[aT,bare];exact kP ds
 | .lst _ ds=>by simp only[aT,bare];simpa using kP ds
 | .cy _ _ _ ds=>by simp only[aT,bare];simpa using kP ds
 | .bJ=>rfl | .bl _=>rfl | .int _=>rfl | .str _=>rfl | .fn _=>rfl
theorem kP:∀ds:List D,a9 (d9 ds)=true
 | []=>rfl
 |d::r=>by simp only[d9,a9,Fv d,kP r,Bool.and_self]
end
mutual
theorem E9:∀d:D,bare d=true->aT d=d
 | .tup ds,h=>by simp only[bare] at h;simp only[aT,kL ds h]
 | .lst o ds,h=>by
  simp only[bare,Bool.and_eq_true,Bool.not_eq_true'] at h
  simp only[aT,kL ds h.2,h.1]
 | .cy o _ _ ds,h=>by
  simp only[bare,Bool.and_eq_true,Bool.not_eq_true'] at h
  simp only[aT,kL ds h.2,h.1]
 | .bJ,_=>rfl | .bl _,_=>rfl | .int _,_=>rfl | .str _,_=>rfl | .fn _,_=>rfl
theorem kL:∀ds:List D,a9 ds=true->d9 ds=ds
 | [],_=>rfl
 |d::r,h=>by
  simp only[a9,Bool.and_eq_true] at h
  simp only[d9,E9 d h.1,kL r h.2]
end
end
abbrev ai:=List (Option D)
def lU:Option HO->Prop
 |some (.lst _)=>True
 |some (.dK _)=>True
 |some (.dT _)=>True
 |_=>False
theorem lU.ne{o:Option HO}(h:lU o):o≠none:=fun z=>by rw[z] at h;exact h
theorem lU.gg{H:Hp}{a:Addr}{vs:List V}(h:lU (H a)):¬H a=some (.tup vs):=fun z=>by rw[z] at h;exact h
theorem lU.up{H H':Hp}{a:Addr}(h:lU (H a))(k:∀o,H a=some o->H' a=some o):lU (H' a):=by
 cases e:H a with
 |none=>rw[e] at h;exact h.elim
 |some o=>rw[k o e,<-e];exact h
def cQ(φ:Nat->Set):Set:=fun a=>∃i,φ i a
structure Ok(Z:Set)(H:Hp)(env:ai)(σ:St)(φ:Nat->Set):Prop where
 own:∀i d,env[i]? = some (some d)->∃v,σ[i]? = some (some v)/\Own Z H d v (φ i)
 dj:∀i j a,φ i a->φ j a->i=j
 fz:∀i a,φ i a->¬Z a
 fm:∀i a,φ i a->lU (H a)
 zh:∀a,Z a->H a≠none
 len:env.length=σ.length
structure Res(Z:Set)(H:Hp)(F:Set)(Z':Set)(H':Hp)(F' G:Set):Prop where
 z:∀a,Z a->Z' a
 zn:∀a,Z' a->Z a\/F a\/H a=none
 k:∀a o,H a=some o->¬F a->H' a=some o
 f:∀a,F' a->F a\/H a=none
 g:∀a,G a->F a\/H a=none
 d:∀a,F' a->¬G a
 gz:∀a,G a->¬Z' a
 gm:∀a,G a->lU (H' a)
section
variable {Z Z1 Z2:Set}{H H1 H2:Hp}{F F1 F2 G G1 G2:Set}{env aL:ai}{σ:St}{φ bI:Nat->Set}
theorem Res.refl:Res Z H F Z H F cE:=⟨fun _ z=>z,fun _ z=>.inl z,fun _ _ e _=>e,fun _ z=>.inl z,fun _ z=>z.elim,fun _ _ z=>z,fun _ z=>z.elim,fun _ z=>z.elim⟩
theorem Res.kn(r:Res Z H F Z1 H1 F1 G1){a:Addr}(h:F1 a\/H1 a=none):F a\/H a=none:=by
 rcases h with h|h
 ·exact r.f a h
 ·cases e:H a with
  |none=>exact .inr rfl
  |some o=>
   refine .inl (Classical.byContradiction fun n=>?_)
   rw[r.k a o e n] at h;cases h
theorem Res.seq(r1:Res Z H F Z1 H1 F1 G1)(r2:Res Z1 H1 F1 Z2 H2 F2 G2):Res Z H F Z2 H2 F2 (fun a=>G1 a\/G2 a)/\∀a,G1 a->¬G2 a:=by
 have g1:∀a,G1 a->¬(F1 a\/H1 a=none):=fun a h z=>z.elim (fun z=>r1.d a z h) fun z=>(r1.gm a h).ne z
 have n1:∀a o,H1 a=some o->¬F1 a->H2 a=some o:=r2.k
 refine⟨⟨fun a h=>r2.z a (r1.z a h),fun a h=>?_,fun a o e n=>?_,fun a h=>r1.kn (r2.f a h),fun a h=>h.elim (r1.g a) fun h=>r1.kn (r2.g a h),fun a h z=>?_,fun a h z=>?_,fun a h=>?_⟩,fun a h z=>g1 a h (r2.g a z)⟩
 ·rcases r2.zn a h with h|h
  ·exact r1.zn a h
  ·exact .inr (r1.kn h)
 ·refine r2.k a o (r1.k a o e n) fun z=>?_
  rcases r1.f a z with z|z
  ·exact n z
  ·rw[z] at e;cases e
 ·rcases z with z|z
  ·exact g1 a z (r2.f a h)
  ·exact r2.d a h z
 ·rcases h with h|h
  ·rcases r2.zn a z with z|z
   ·exact r1.gz a h z
   ·exact g1 a h z
  ·exact r2.gz a h z
 ·rcases h with h|h
  ·exact(r1.gm a h).up fun o e=>r2.k a o e fun z=>r1.d a z h
  ·exact r2.gm a h
theorem Res.trans(r1:Res Z H F Z1 H1 F1 cE)(r2:Res Z1 H1 F1 Z2 H2 F2 G2):Res Z H F Z2 H2 F2 G2:=by
 have q:=(r1.seq r2).1
 have e:(fun a=>cE a\/G2 a)=G2:=by funext a;exact propext ⟨fun z=>z.elim (fun z=>z.elim) id,.inr⟩
 rw[e] at q;exact q
theorem Res.keep(O:Ok Z1 H1 aL σ bI)(r:Res Z1 H1 (cQ bI) Z2 H2 F2 G2){d:D}{v:V}(dj:∀a,cQ bI a->¬G1 a)(h:Own Z1 H1 d v G1):Own Z2 H2 d v G1:=
 Own.step (cQ bI) r.z r.k (fun a ⟨i,z⟩=>O.fz i a z) (fun a vs ⟨i,z⟩=>(O.fm i a z).gg) d (fun _ z=>z) dj h
end
inductive Ref where
 |a8 (d:D)|var (i:Nat)
def Ref.at(env:ai):Ref->Option D
 | .a8 d=>some d
 | .var i=>env[i]?.join
def mY(Z:Set)(H:Hp)(σ:St):Ref->V->Set->Prop
 | .a8 d,v,G=>Own Z H d v G
 | .var i,v,_=>σ[i]? = some (some v)
def rX(Z:Set)(H:Hp)(σ:St):List Ref->List V->Set->Prop
 | [],vs,_=>vs=[]
 |r::rs,vs,G=>∃v ws G1 G2,vs=v::ws/\mY Z H σ r v G1/\rX Z H σ rs ws G2/\(∀a,G1 a->G a)/\(∀a,G2 a->G a)/\(∀a,G1 a->¬G2 a)
abbrev UB:=ai->(Ref->ai->Prop)->Prop
abbrev UA:=ai->(List Ref->ai->Prop)->Prop
abbrev UT:=ai->(Bool->ai->Prop)->Prop
def aY(t:TE)(u:UB):Prop:=∀(σ:St) (env:ai) (Z:Set) (H:Hp) (φ:Nat->Set) (Q:Ref->ai->Prop) (R:VK),Ok Z H env σ φ->u env Q ->
 (∀r bT v Z' H' cJ G,Q r bT->Ok Z' H' bT σ cJ->Res Z H (cQ φ) Z' H' (cQ cJ) G->mY Z' H' σ r v G->R v H')->t σ H R
def oz(t:TA)(u:UA):Prop:=∀(σ:St) (env:ai) (Z:Set) (H:Hp) (φ:Nat->Set) (Q:List Ref->ai->Prop) (R:List V->Hp->Prop),Ok Z H env σ φ->u env Q ->
 (∀rs bT vs Z' H' cJ G,Q rs bT->Ok Z' H' bT σ cJ->Res Z H (cQ φ) Z' H' (cQ cJ) G->rX Z' H' σ rs vs G->R vs H')->t σ H R
def gS(t:TT)(u:UT):Prop:=∀(σ:St) (env:ai) (Z:Set) (H:Hp) (φ:Nat->Set) (Q:Bool->ai->Prop) (R:Bool->Hp->Prop),Ok Z H env σ φ->u env Q ->
 (∀b bT Z' H' cJ,Q b bT->Ok Z' H' bT σ cJ->Res Z H (cQ φ) Z' H' (cQ cJ) cE->R b H')->t σ H R
def ao:UA:=fun env Q=>Q [] env
def ae(u:UB)(w:UA):UA:=fun env Q=>u env fun r e=>w e fun rs e2=>Q (r::rs) e2
section
variable {Z Z1 Z2:Set}{H H1 H2:Hp}{F F1 F2 G G1 G2:Set}{env aL:ai}{σ:St}{φ bI:Nat->Set}
theorem mY.keep(O:Ok Z1 H1 aL σ bI)(r:Res Z1 H1 (cQ bI) Z2 H2 F2 G2)(dj:∀a,cQ bI a->¬G1 a):∀{x:Ref}{v:V},mY Z1 H1 σ x v G1->mY Z2 H2 σ x v G1
 | .a8 d,v,h=>r.keep O dj h
 | .var i,v,h=>h
theorem uZ:oz wF ao:=fun σ env Z H φ Q R O u k=>k [] env [] Z H φ cE u O Res.refl rfl
theorem l6{t:TE}{ts:TA}{u:UB}{us:UA}(h1:aY t u)(h2:oz ts us):oz (k7 t ts) (ae u us):=by
 intro σ env Z H φ Q R O q k
 refine h1 σ env Z H φ _ _ O q fun r aL v Z1 H1 bI G1 q1 O1 r1 jh=>?_
 refine h2 σ aL Z1 H1 bI _ _ O1 q1 fun rs fZ vs Z2 H2 gU G2 q2 O2 r2 nV=>?_
 obtain⟨z8,dj⟩:=r1.seq r2
 exact k _ _ _ _ _ _ _ q2 O2 z8 ⟨v,vs,G1,G2,rfl,jh.keep O1 r2 r1.d,nV,fun _ z=>.inl z,fun _ z=>.inr z,dj⟩
end
structure iV(Z:Set)(H H':Hp)(d:D)(v:V)(G:Set):Prop where
 same:cf H H'
 own:Own Z H' d v G
 new:∀a,G a->H a=none/\lU (H' a)
def r_(env:ai):List Ref->Option (List D)
 | []=>some []
 |r::rs=>match r.at env,r_ env rs with
  |some d,some ds=>some (d::ds)
  |_,_=>none
abbrev Seen(Z:Set)(H:Hp):List D->List V->Prop:=Paired fun d v=>∃F,Own Z H d v F
def MW(r:List V->Hp->VK->Prop)(f:List D->(D->Prop)->Prop):Prop:=∀(Z:Set) (H:Hp) (ds:List D) (vs:List V) (P:D->Prop) (R:VK),Seen Z H ds vs->f ds P->(∀d v H' G,P d->iV Z H H' d v G->R v H')->r vs H R
def pR(f:List D->(D->Prop)->Prop)(ua:UA):UB:=fun env Q=>ua env fun rs e=>∃ds,r_ e rs=some ds/\f ds fun d=>Q (.a8 d) e
section
variable {Z Z1 Z2:Set}{H H1 H2 H':Hp}{F F1 F2 G G1 G2:Set}{env aL:ai}{σ:St}{φ bI:Nat->Set}
theorem u_(O:Ok Z H env σ φ):∀{rs:List Ref}{vs:List V}{G:Set}{ds:List D},rX Z H σ rs vs G->r_ env rs=some ds->Seen Z H ds vs
 | [],vs,G,ds,h,e=>by
  cases (show vs=[] from h)
  cases (show some []=some ds from e)
  exact .nil
 |r::rs,vs,G,ds,h,e=>by
  obtain⟨v,ws,G1,G2,rfl,h1,h2,_⟩:=h
  unfold r_ at e
  cases e1:r.at env with
  |none=>simp[e1] at e
  |some d=>
   cases e2:r_ env rs with
   |none=>simp[e1,e2] at e
   |some Ay=>
    simp only[e1,e2,Option.some.injEq] at e
    subst e
    refine .cons ?_ (u_ O h2 e2)
    cases r with
    |a8 d'=>cases (show some d'=some d from e1);exact⟨G1,h1⟩
    |var i=>
     have e1:env[i]?.join=some d:=e1
     have e3:env[i]? = some (some d):=by
      cases q:env[i]? with
      |none=>rw[q] at e1;cases e1
      |some o=>rw[q] at e1;cases (show o=some d from e1);rfl
     obtain⟨v',hv,ho⟩:=O.own i d e3
     have h1:σ[i]? = some (some v):=h1
     rw[hv] at h1;cases h1
     exact⟨φ i,ho⟩
theorem Ok.grow(O:Ok Z H env σ φ)(s:cf H H'):Ok Z H' env σ φ:=
 ⟨fun i d e=>let ⟨v,hv,h⟩:=O.own i d e;⟨v,hv,h.grow s⟩,O.dj,O.fz,fun i a h=>(O.fm i a h).up fun o e=>s a o e,fun a h z=>(by
  cases e:H a with
  |none=>exact O.zh a h e
  |some o=>rw[s a o e] at z;cases z),O.len⟩
theorem iV.res(O:Ok Z1 H1 aL σ bI)(r:Res Z H F Z1 H1 (cQ bI) G1){d:D}{v:V}(n:iV Z1 H1 H' d v G):Res Z H F Z1 H' (cQ bI) G:=
 ⟨r.z,r.zn,fun a o e z=>n.same a o (r.k a o e z),r.f,fun a h=>r.kn (.inr (n.new a h).1),fun a ⟨i,z⟩ h=>(O.fm i a z).ne (n.new a h).1,fun a h z=>O.zh a z (n.new a h).1,fun a h=>(n.new a h).2⟩
theorem u6{t:TA}{ua:UA}{r:List V->Hp->VK->Prop}{f:List D->(D->Prop)->Prop}(ha:oz t ua)(hf:MW r f):aY (Gx r t) (pR f ua):=by
 intro σ env Z H φ Q R O q k
 refine ha σ env Z H φ _ _ O q fun rs aL vs Z1 H1 bI G1 ⟨ds,e,q1⟩ O1 r1 jh=>?_
 exact hf Z1 H1 ds vs _ R (u_ O1 jh e) q1 fun d v H' G p n=>k (.a8 d) aL v Z1 H' bI G p (O1.grow n.same) (n.res O1 r1) n.own
end
end VS
end
section
namespace VS
open PySem L2
section
variable {Z:Set}{H H':Hp}{F:Set}{v:V}
theorem kG:Own Z H .bJ v F↔v=.bJ:=by simp only[Own]
theorem c_{b}:Own Z H (.bl b) v F↔v=.bl b:=by simp only[Own]
theorem a_{i}:Own Z H (.int i) v F↔v=.int i:=by simp only[Own]
theorem dN{x}:Own Z H (.str x) v F↔v=.str x:=by simp only[Own]
theorem yU{a}:Own Z H (.fn a) v F↔v=.ref a:=by simp only[Own]
theorem c7{ds}:Own Z H (.tup ds) v F↔∃a vs,v=.ref a/\H a=some (.tup vs)/\ar Z H ds vs F:=by simp only[Own]
theorem bD{ds}:Own Z H (.lst true ds) v F↔∃a vs,v=.ref a/\H a=some (.lst vs)/\F a/\ar Z H ds vs (fun b=>F b/\b≠a):=by simp only[Own]
theorem j3{ds}:Own Z H (.lst false ds) v F↔∃a vs,v=.ref a/\Rd H a (.lst vs)/\Z a/\ar Z H ds vs cE:=by simp only[Own]
theorem dR{t ks ds}:Own Z H (.cy true t ks ds) v F↔∃a vs u,v=.ref a/\H a=some u/\DictAt t u ks vs/\F a/\ar Z H ds vs (fun b=>F b/\b≠a):=by simp only[Own]
theorem iq{t ks ds}:Own Z H (.cy false t ks ds) v F↔∃a vs u,v=.ref a/\Rd H a u/\DictAt t u ks vs/\Z a/\ar Z H ds vs cE:=by simp only[Own]
theorem ba{vs:List V}:ar Z H [] vs F↔vs=[]:=by simp only[ar]
theorem aF{d:D}{ds:List D}{vs:List V}:ar Z H (d::ds) vs F↔∃v r F1 F2,vs=v::r/\Own Z H d v F1/\ar Z H ds r F2/\(∀b,F1 b->F b)/\(∀b,F2 b->F b)/\(∀b,F1 b->¬F2 b):=by simp only[ar]
theorem fF{o ds}(h:Own Z H (.lst o ds) v F):∃a vs,v=.ref a/\Rd H a (.lst vs)/\ar Z H ds vs F:=by
 cases o with
 |true=>obtain⟨a,vs,e,hr,_,hl⟩:=bD.mp h;exact⟨a,vs,e,.inl hr,hl.mono fun _ z=>z.1⟩
 |false=>obtain⟨a,vs,e,hr,_,hl⟩:=j3.mp h;exact⟨a,vs,e,hr,hl.mono fun _ z=>z.elim⟩
theorem gJ{o t ks ds}(h:Own Z H (.cy o t ks ds) v F):∃a vs u,v=.ref a/\Rd H a u/\DictAt t u ks vs/\ar Z H ds vs F:=by
 cases o with
 |true=>obtain⟨a,vs,u,e,hr,hd,_,hl⟩:=dR.mp h;exact⟨a,vs,u,e,.inl hr,hd,hl.mono fun _ z=>z.1⟩
 |false=>obtain⟨a,vs,u,e,hr,hd,_,hl⟩:=iq.mp h;exact⟨a,vs,u,e,hr,hd,hl.mono fun _ z=>z.elim⟩
theorem ar.length:∀{ds:List D}{vs:List V}{F:Set},ar Z H ds vs F->vs.length=ds.length
 | [],vs,F,h=>by rw[ba.mp h];rfl
 |d::ds,vs,F,h=>by
  obtain⟨v,r,F1,F2,rfl,_,h2,_⟩:=aF.mp h
  simp[ar.length h2]
theorem ar.get:∀{ds:List D}{vs:List V}{F:Set}{i:Nat}{d:D},ar Z H ds vs F->ds[i]? = some d->∃v,vs[i]? = some v/\Own Z H d v F
 | [],vs,F,i,d,h,e=>by simp at e
 |d'::ds,vs,F,0,d,h,e=>by
  obtain⟨v,r,F1,F2,rfl,h1,h2,s1,s2,_⟩:=aF.mp h
  cases (show some d'=some d from e)
  exact⟨v,rfl,h1.mono s1⟩
 |d'::ds,vs,F,i+1,d,h,e=>by
  obtain⟨v,r,F1,F2,rfl,h1,h2,s1,s2,_⟩:=aF.mp h
  obtain⟨w,e',q⟩:=ar.get (i:=i) h2 (by simpa using e)
  exact⟨w,by simpa using e',q.mono s2⟩
theorem ar.g_{ds:List D}{vs:List V}{i:Int}{d:D}(h:ar Z H ds vs F)(e:g_ ds i=some d):∃v,L2.g_ vs i=some v/\Own Z H d v F:=by
 unfold L2.g_ at e ⊢
 rw[h.length]
 cases q:xy ds.length i with
 |none=>rw[q] at e;cases e
 |some j=>rw[q] at e;exact h.get e
theorem iV.refl{d:D}(h:Own Z H d v cE):iV Z H H d v cE:=⟨fun _ _ e=>e,h,fun _ z=>z.elim⟩
end
def iG(r:R2)(f:D->D->(D->Prop)->Prop):Prop:=∀(Z:Set) (H:Hp) (d1 d2:D) (v1 v2:V) (F1 F2:Set) (P:D->Prop) (R:VK),Own Z H d1 v1 F1->Own Z H d2 v2 F2->f d1 d2 P->(∀d v H' G,P d->iV Z H H' d v G->R v H')->r v1 v2 H R
def aj(f:D->D->(D->Prop)->Prop)(ua ub:UB):UB:=fun env Q=>ua env fun r1 e1=>ub e1 fun r2 e2=>∃d1 d2,r1.at e2=some d1/\r2.at e2=some d2/\f d1 d2 fun d=>Q (.a8 d) e2
theorem jn{ta tb:TE}{ua ub:UB}{r:R2}{f:D->D->(D->Prop)->Prop}(ha:aY ta ua)(hb:aY tb ub)(hf:iG r f):aY (Gw r ta tb) (aj f ua ub):=by
 have q:=u6 (r:=fun vs H Q=>r (vs.getD 0 .bJ) (vs.getD 1 .bJ) H Q) (f:=fun ds P=>∃d1 d2,ds=[d1,d2]/\f d1 d2 P) (l6 ha (l6 hb uZ)) (by
  rintro Z H ds vs P R s ⟨d1,d2,rfl,Tz⟩ k
  cases s with
  |cons h1 t=>
   cases t with
   |cons h2 t=>
    cases t
    obtain⟨F1,h1⟩:=h1
    obtain⟨F2,h2⟩:=h2
    exact hf Z H d1 d2 _ _ F1 F2 P R h1 h2 Tz k)
 intro σ env Z H φ Q R O u k
 refine q σ env Z H φ Q R O ?_ k
 show ua env fun r1 e1=>ub e1 fun r2 e2=>∃ds,r_ e2 [r1,r2]=some ds/\∃d1 d2,ds=[d1,d2]/\f d1 d2 fun d=>Q (.a8 d) e2
 have e:(fun r1 e1=>ub e1 fun r2 e2=>∃ds,r_ e2 [r1,r2]=some ds/\∃d1 d2,ds=[d1,d2]/\f d1 d2 fun d=>Q (.a8 d) e2)=(fun r1 e1=>ub e1 fun r2 e2=>∃d1 d2,r1.at e2=some d1/\r2.at e2=some d2/\f d1 d2 fun d=>Q (.a8 d) e2):=by
  funext r1 e1
  congr 1
  funext r2 e2
  refine propext ⟨?_,?_⟩
  ·rintro⟨ds,h,d1,d2,rfl,q⟩
   unfold r_ r_ r_ at h
   cases e1:r1.at e2<;>cases Zu:r2.at e2<;>simp[e1,Zu] at h
   obtain⟨rfl,rfl⟩:=h
   exact⟨_,_,rfl,rfl,q⟩
  ·rintro⟨d1,d2,h1,h2,q⟩
   exact⟨[d1,d2],by unfold r_ r_ r_;simp[h1,h2],d1,d2,rfl,q⟩
 rw[e]
 exact u
def PD(r:V->Hp->VK->Prop)(f:D->(D->Prop)->Prop):Prop:=∀(Z:Set) (H:Hp) (d1:D) (v1:V) (F1:Set) (P:D->Prop) (R:VK),Own Z H d1 v1 F1->f d1 P->(∀d v H' G,P d->iV Z H H' d v G->R v H')->r v1 H R
def pb(f:D->(D->Prop)->Prop)(ua:UB):UB:=fun env Q=>ua env fun r1 e1=>∃d1,r1.at e1=some d1/\f d1 fun d=>Q (.a8 d) e1
theorem u5{ta:TE}{ua:UB}{r:V->Hp->VK->Prop}{f:D->(D->Prop)->Prop}(ha:aY ta ua)(hf:PD r f):aY (UJ r ta) (pb f ua):=by
 have q:=u6 (r:=fun vs H Q=>r (vs.getD 0 .bJ) H Q) (f:=fun ds P=>∃d1,ds=[d1]/\f d1 P) (l6 ha uZ) (by
  rintro Z H ds vs P R s ⟨d1,rfl,Tz⟩ k
  cases s with
  |cons h1 t=>
   cases t
   obtain⟨F1,h1⟩:=h1
   exact hf Z H d1 _ F1 P R h1 Tz k)
 intro σ env Z H φ Q R O u k
 refine q σ env Z H φ Q R O ?_ k
 show ua env fun r1 e1=>∃ds,r_ e1 [r1]=some ds/\∃d1,ds=[d1]/\f d1 fun d=>Q (.a8 d) e1
 have e:(fun r1 e1=>∃ds,r_ e1 [r1]=some ds/\∃d1,ds=[d1]/\f d1 fun d=>Q (.a8 d) e1)=(fun r1 e1=>∃d1,r1.at e1=some d1/\f d1 fun d=>Q (.a8 d) e1):=by
  funext r1 e1
  refine propext ⟨?_,?_⟩
  ·rintro⟨ds,h,d1,rfl,q⟩
   unfold r_ r_ at h
   cases e1:r1.at e1<;>simp[e1] at h
   subst h
   exact⟨_,rfl,q⟩
  ·rintro⟨d1,h1,q⟩
   exact⟨[d1],by unfold r_ r_;simp[h1],d1,rfl,q⟩
 rw[e]
 exact u
def RJ(i:Nat):UB:=fun env Q=>Q (.var i) env
def a7(i:Nat):UB:=fun env Q=>∃d,env[i]? = some (some d)/\bare d=true/\Q (.a8 d) env
def eZ(i:Nat):UB:=fun env Q=>∃d,env[i]? = some (some d)/\Q (.a8 d) (env.set i none)
def uC(d:D):UB:=fun env Q=>Q (.a8 d) env
section
variable {Z:Set}{H:Hp}{env:ai}{σ:St}{φ:Nat->Set}
theorem Ds{i:Nat}:aY (jQ i) (a7 i):=by
 intro σ env Z H φ Q R O ⟨d,e,hb,q⟩ k
 obtain⟨v,hv,h⟩:=O.own i d e
 exact⟨v,hv,k (.a8 d) env v Z H φ cE q O Res.refl (h.bare d hb)⟩
def without(φ:Nat->Set)(i:Nat):Nat->Set:=fun j a=>φ j a/\j≠i
theorem Ok.without(O:Ok Z H env σ φ)(i:Nat):Ok Z H (env.set i none) σ (without φ i):=
 ⟨fun j d e=>by
  by_cases hj:i=j
  ·subst hj
   have:i<env.length:=by
    by_cases h:i<env.length
    ·exact h
    ·rw[List.getElem?_eq_none (by simpa using h)] at e;cases e
   rw[List.getElem?_set_self this] at e;cases e
  ·rw[List.getElem?_set_ne hj] at e
   obtain⟨v,hv,h⟩:=O.own j d e
   exact⟨v,hv,h.mono fun a z=>⟨z,Ne.symm hj⟩⟩,fun j k a h1 h2=>O.dj j k a h1.1 h2.1,fun j a h=>O.fz j a h.1,fun j a h=>O.fm j a h.1,O.zh,by rw[List.length_set];exact O.len⟩
theorem Df{i:Nat}:aY (jQ i) (eZ i):=by
 intro σ env Z H φ Q R O ⟨d,e,q⟩ k
 obtain⟨v,hv,h⟩:=O.own i d e
 refine⟨v,hv,k (.a8 d) (env.set i none) v Z H (VS.without φ i) (φ i) q (O.without i) ⟨fun _ z=>z,fun _ z=>.inl z,fun _ _ e _=>e,fun a ⟨j,z⟩=>.inl ⟨j,z.1⟩,fun a z=>.inl ⟨i,z⟩,fun a ⟨j,z⟩ z2=>z.2 (O.dj j i a z.1 z2),fun a z=>O.fz i a z,fun a z=>O.fm i a z⟩ h⟩
end
def aa(i:Nat):UB:=fun env Q=>∃d,env[i]? = some (some d)/\Q (.var i) env
theorem Bi{i:Nat}:aY (jQ i) (aa i):=by
 intro σ env Z H φ Q R O ⟨d,e,q⟩ k
 obtain⟨v,hv,h⟩:=O.own i d e
 exact⟨v,hv,k (.var i) env v Z H φ cE q O Res.refl hv⟩
def QF:V->D
 | .bJ=>.bJ | .bl b=>.bl b | .int i=>.int i | .str x=>.str x | .ref a=>.fn a|_=>.bJ
theorem Ac{Z:Set}{H:Hp}{v:V}(h:(match v with | .vU _=>false | .FN _=>false | .ty _=>false|_=>true)=true):Own Z H (QF v) v cE:=by
 cases v<;>simp[QF,Own] at h ⊢
theorem wL{v:V}(h:(match v with | .vU _=>false | .FN _=>false | .ty _=>false|_=>true)=true:=by rfl):aY (tC v) (uC (QF v)):=
 fun σ env Z H φ Q R O q k=>k (.a8 _) env v Z H φ cE q O Res.refl (Ac h)
def fI(C:Int->Int->Prop)(g:Int->Int->D):D->D->(D->Prop)->Prop
 | .int i,.int j,P=>C i j/\P (g i j)
 |_,_,_=>False
def kZ(g:Int->Int->D):D->D->(D->Prop)->Prop
 | .int i,.int j,P=>P (g i j)
 |_,_,_=>False
theorem T5{C:Int->Int->Prop}{gv:Int->Int->V}{gd:Int->Int->D}(hg:∀i j (Z:Set) (H:Hp),Own Z H (gd i j) (gv i j) cE):iG (rI C gv) (fI C gd):=by
 intro Z H d1 d2 v1 v2 F1 F2 P R h1 h2 hf k
 cases d1<;>try exact hf.elim
 cases d2<;>try exact hf.elim
 rw[a_] at h1 h2
 exact⟨_,_,h1,h2,hf.1,k _ _ _ _ hf.2 (iV.refl (hg _ _ _ _))⟩
theorem Jo{gv:Int->Int->V}{gd:Int->Int->D}(hg:∀i j (Z:Set) (H:Hp),Own Z H (gd i j) (gv i j) cE):iG (yN gv) (kZ gd):=by
 intro Z H d1 d2 v1 v2 F1 F2 P R h1 h2 hf k
 cases d1<;>try exact hf.elim
 cases d2<;>try exact hf.elim
 rw[a_] at h1 h2
 exact⟨_,_,h1,h2,k _ _ _ _ hf (iV.refl (hg _ _ _ _))⟩
theorem cn{C:Int->Int->Prop}{g:Int->Int->Int}:iG (rI C fun i j=>.int (g i j)) (fI C fun i j=>.int (g i j)):=T5 fun _ _ _ _=>a_.mpr rfl
theorem dw{g:Int->Int->Int}:iG (yN fun i j=>.int (g i j)) (kZ fun i j=>.int (g i j)):=Jo fun _ _ _ _=>a_.mpr rfl
theorem lN{g:Int->Int->Bool}:iG (yN fun i j=>.bl (g i j)) (kZ fun i j=>.bl (g i j)):=Jo fun _ _ _ _=>c_.mpr rfl
def fU(g:Int->D):D->(D->Prop)->Prop
 | .int i,P=>P (g i)
 |_,_=>False
theorem LV:PD (rU fun i=>.int (-i)) (fU fun i=>.int (-i)):=by
 intro Z H d1 v1 F1 P R h1 hf k
 cases d1<;>try exact hf.elim
 rw[a_] at h1
 exact⟨_,h1,k _ _ _ _ hf (iV.refl (a_.mpr rfl))⟩
def sY:D->D->Option Bool
 | .int i,.int j=>some (decide (i=j))
 | .str i,.str j=>some (decide (i=j))
 | .bl i,.bl j=>some (decide (i=j))
 | .bJ,.bJ=>some true
 | .bJ,.int _=>some false | .int _,.bJ=>some false | .bJ,.bl _=>some false | .bl _,.bJ=>some false | .bJ,.str _=>some false | .str _,.bJ=>some false
 | .int _,.str _=>some false | .str _,.int _=>some false | .bl _,.str _=>some false | .str _,.bl _=>some false
 |_,_=>none
def kc(neg:Bool):D->D->(D->Prop)->Prop:=fun a b P=>∃k,sY a b=some k/\P (.bl (if neg then !k else k))
theorem Fg{Z:Set}{H:Hp}{a b:D}{k:Bool}{v1 v2:V}{F1 F2:Set}(h1:Own Z H a v1 F1)(h2:Own Z H b v2 F2)(e:sY a b=some k):DC v1 v2=true/\k=decide (v1=v2):=by
 cases a<;>cases b<;>simp only[sY,reduceCtorEq,Option.some.injEq] at e<;>simp only[Own] at h1 h2<;>subst h1 h2<;>subst e<;>refine⟨rfl,?_⟩<;>simp
theorem eO:iG U8 (kc false):=by
 rintro Z H d1 d2 v1 v2 F1 F2 P R h1 h2 ⟨k,e,hf⟩ kk
 obtain⟨s,rfl⟩:=Fg h1 h2 e
 exact⟨s,kk _ _ _ _ hf (iV.refl (c_.mpr rfl))⟩
theorem Au:iG U7 (kc true):=by
 rintro Z H d1 d2 v1 v2 F1 F2 P R h1 h2 ⟨k,e,hf⟩ kk
 obtain⟨s,rfl⟩:=Fg h1 h2 e
 exact⟨s,kk _ _ _ _ hf (iV.refl (c_.mpr rfl))⟩
def xA:D->Bool
 | .bJ=>true
 |_=>false
def Fd(neg:Bool):D->(D->Prop)->Prop:=fun a P=>P (.bl (if neg then !xA a else xA a))
theorem EF{Z:Set}{H:Hp}{a:D}{v:V}{F:Set}(h:Own Z H a v F):decide (v=.bJ)=xA a:=by
 cases a with
 |bJ=>rw[kG.mp h];rfl
 |bl b=>rw[c_.mp h];rfl
 |int i=>rw[a_.mp h];rfl
 |str x=>rw[dN.mp h];rfl
 |fn x=>rw[yU.mp h];rfl
 |tup ds=>obtain⟨_,_,rfl,_⟩:=c7.mp h;rfl
 |lst o ds=>obtain⟨_,_,rfl,_⟩:=fF h;rfl
 |cy o t ks ds=>obtain⟨_,_,_,rfl,_⟩:=gJ h;rfl
theorem Dd{ta:TE}{ua:UB}(ha:aY ta ua):aY (IE ta) (pb (Fd true) ua):=u5 (r:=fun x H Q=>Q (.bl (!decide (x=.bJ))) H) ha fun Z H d1 v1 F1 P R h1 hf k=>by
 show R (.bl (!decide (v1=.bJ))) H
 rw[EF h1];exact k _ _ _ _ hf (iV.refl (c_.mpr rfl))
def dz:D->D->(D->Prop)->Prop
 | .lst _ ds,.int k,P=>∃d,g_ ds k=some d/\bare d=true/\P d
 |_,_,_=>False
def bc:D->D->(D->Prop)->Prop
 | .tup ds,.int k,P=>∃d,g_ ds k=some d/\bare d=true/\P d
 |_,_,_=>False
def zp:D->D->(D->Prop)->Prop
 | .str x,.int k,P=>x.length<=1000000/\∃c,g_ x.cps.toList k=some c/\P (.str ⟨#[c]⟩)
 |_,_,_=>False
theorem L0{K:PySem.W.Frag}:iG (DU K) dz:=by
 intro Z H d1 d2 v1 v2 F1 F2 P R h1 h2 hf k
 cases d1<;>try exact hf.elim
 cases d2<;>try exact hf.elim
 rw[a_] at h2
 obtain⟨d,e,hb,p⟩:=hf
 obtain⟨a,vs,e1,hr,hl⟩:=fF h1
 obtain⟨v,ev,ho⟩:=hl.g_ e
 exact⟨a,vs,_,v,e1,h2,.inl hr,ev,k _ _ _ _ p (iV.refl (ho.bare d hb))⟩
theorem LY{K:PySem.W.Frag}:iG (DT K) bc:=by
 intro Z H d1 d2 v1 v2 F1 F2 P R h1 h2 hf k
 cases d1<;>try exact hf.elim
 cases d2<;>try exact hf.elim
 rw[a_] at h2
 obtain⟨d,e,hb,p⟩:=hf
 obtain⟨a,vs,e1,hr,hl⟩:=c7.mp h1
 obtain⟨v,ev,ho⟩:=hl.g_ e
 exact⟨a,vs,_,v,e1,h2,.inl (.inl hr),ev,k _ _ _ _ p (iV.refl (ho.bare d hb))⟩
theorem LZ:iG Kf zp:=by
 intro Z H d1 d2 v1 v2 F1 F2 P R h1 h2 hf k
 cases d1<;>try exact hf.elim
 cases d2<;>try exact hf.elim
 rw[a_] at h2
 rw[dN] at h1
 obtain⟨hz,c,e,p⟩:=hf
 exact⟨_,_,c,h1,h2,Nat.le_of_lt (fc hz),e,k _ _ _ _ p (iV.refl (dN.mpr rfl))⟩
end VS
end
section
namespace VS
open PySem L2
def bQ{α:Type}:List DK->List α->DK->Option α
 |k'::ks,d::ds,k=>if k'=k then some d else bQ ks ds k
 |_,_,_=>none
def DH:D->Option Key
 | .int i=>some (.inl i)
 | .str x=>some (.inr x)
 |_=>none
def yK:List D->Option (List Key)
 | []=>some []
 |d::ds=>match DH d,yK ds with
  |some k,some r=>some (k::r)
  |_,_=>none
def keyOf:Bool->D->Option DK
 |false,d=>(DH d).map .s
 |true,.tup ds=>(yK ds).map .t
 |true,_=>none
section
variable {Z:Set}{H H':Hp}{F:Set}{v:V}
theorem pU{d:D}{k:Key}(e:DH d=some k)(h:Own Z H d v F):v=kV k:=by
 cases d<;>simp only[DH,reduceCtorEq,Option.some.injEq] at e<;>subst e
 ·exact a_.mp h
 ·exact dN.mp h
theorem qN:∀{ds:List D}{ks:List Key}{vs:List V}{F:Set},yK ds=some ks->ar Z H ds vs F->vs=ks.map kV
 | [],ks,vs,F,e,h=>by
  cases (show some []=some ks from e)
  exact ba.mp h
 |d::ds,ks,vs,F,e,h=>by
  obtain⟨v,r,F1,F2,rfl,h1,h2,_⟩:=aF.mp h
  unfold yK at e
  cases e1:DH d with
  |none=>simp[e1] at e
  |some k=>
   cases e2:yK ds with
   |none=>simp[e1,e2] at e
   |some QJ=>
    simp only[e1,e2,Option.some.injEq] at e
    subst e
    rw[pU e1 h1,qN e2 h2]
    rfl
theorem CU(k:Key):∀(kl:List Key) (vs:List V),kl.length=vs.length->gc (kl.zip vs) k=bQ (kl.map DK.s) vs (.s k)
 | [],vs,_=>by cases vs<;>rfl
 |k'::kl,[],h=>by simp at h
 |k'::kl,v::vs,h=>by
  show gc ((k',v)::kl.zip vs) k=if DK.s k'=DK.s k then some v else bQ (kl.map DK.s) vs (.s k)
  by_cases e:k'=k
  ·rw[iW e,if_pos (by rw[e])]
  ·rw[iX e,if_neg (fun z=>e (DK.s.inj z))]
   exact CU k kl vs (by simpa using h)
theorem CT(k:List Key):∀(kl:List (List Key)) (vs:List V),kl.length=vs.length->gc (kl.zip vs) k=bQ (kl.map DK.t) vs (.t k)
 | [],vs,_=>by cases vs<;>rfl
 |k'::kl,[],h=>by simp at h
 |k'::kl,v::vs,h=>by
  show gc ((k',v)::kl.zip vs) k=if DK.t k'=DK.t k then some v else bQ (kl.map DK.t) vs (.t k)
  by_cases e:k'=k
  ·rw[iW e,if_pos (by rw[e])]
  ·rw[iX e,if_neg (fun z=>e (DK.t.inj z))]
   exact CT k kl vs (by simpa using h)
theorem ar.find:∀{ks:List DK}{ds:List D}{vs:List V}{F:Set}{k:DK},ar Z H ds vs F->(∀d,bQ ks ds k=some d->∃v,bQ ks vs k=some v/\Own Z H d v F)/\(bQ ks ds k=none->bQ ks vs k=none)
 | [],ds,vs,F,k,h=>⟨fun d e=>by simp[bQ] at e,fun _=>by simp[bQ]⟩
 |k'::ks,[],vs,F,k,h=>by rw[ba.mp h];exact⟨fun d e=>by simp[bQ] at e,fun _=>by simp[bQ]⟩
 |k'::ks,d'::ds,vs,F,k,h=>by
  obtain⟨v,r,F1,F2,rfl,h1,h2,s1,s2,_⟩:=aF.mp h
  have ih:=ar.find (ks:=ks) (k:=k) h2
  unfold bQ
  by_cases e:k'=k
  ·rw[if_pos e,if_pos e]
   exact⟨fun d q=>by cases q;exact⟨v,rfl,h1.mono s1⟩,fun q=>by cases q⟩
  ·rw[if_neg e,if_neg e]
   exact⟨fun d q=>let ⟨w,q1,q2⟩:=ih.1 d q;⟨w,q1,q2.mono s2⟩,ih.2⟩
theorem kh{t:Bool}{ks:List DK}{ds:List D}{a:Addr}{vs:List V}{u:HO}{kd:D}{k:DK}{y:V}{F2:Set}(hr:Rd H a u)(hd:DictAt t u ks vs)(hl:ar Z H ds vs F)(hk:keyOf t kd=some k)(hy:Own Z H kd y F2):jF H a y (bQ ks vs k):=by
 cases t with
 |false=>
  obtain⟨kl,rfl,hlen,zj,rfl⟩:=hd
  cases e:DH kd with
  |none=>simp[keyOf,e] at hk
  |some k'=>
   simp only[keyOf,e,Option.map_some,Option.some.injEq] at hk
   subst hk
   exact .inl ⟨_,k',hr,pU e hy,(CU k' kl vs hlen).symm⟩
 |true=>
  obtain⟨kl,rfl,hlen,zj,rfl⟩:=hd
  cases kd<;>simp only[keyOf,reduceCtorEq] at hk
  rename_i Ay
  cases e:yK Ay with
  |none=>simp[e] at hk
  |some k'=>
   simp only[e,Option.map_some,Option.some.injEq] at hk
   subst hk
   obtain⟨b,ws,rfl,hb,hw⟩:=c7.mp hy
   rw[qN e hw] at hb
   exact .inr ⟨_,k',b,hr,rfl,hb,(CT k' kl vs hlen).symm⟩
end
def oR:D->D->(D->Prop)->Prop
 | .cy _ t ks ds,kd,P=>∃k d,keyOf t kd=some k/\bQ ks ds k=some d/\bare d=true/\P d
 |_,_,_=>False
theorem Dr{ta tb:TE}{ua ub:UB}(ha:aY ta ua)(hb:aY tb ub):aY (zR ta tb) (aj oR ua ub):=jn (r:=fun x y H Q=>∃a v,x=.ref a/\jF H a y (some v)/\Q v H) ha hb fun Z H d1 d2 v1 v2 F1 F2 P R h1 h2 hf kk=>by
 cases d1<;>try exact hf.elim
 obtain⟨k,d,e1,e2,MR,p⟩:=hf
 obtain⟨a,vs,u,rfl,hr,hd,hl⟩:=gJ h1
 obtain⟨v,ev,ho⟩:=hl.find.1 d e2
 have g:=kh hr hd hl e1 h2
 rw[ev] at g
 exact⟨a,v,rfl,g,kk _ _ _ _ p (iV.refl (ho.bare d MR))⟩
def jy(neg:Bool):D->D->(D->Prop)->Prop
 |kd,.cy _ t ks ds,P=>∃k,keyOf t kd=some k/\P (.bl (if neg then !(bQ ks ds k).isSome else(bQ ks ds k).isSome))
 |_,_,_=>False
theorem oQ{Z:Set}{H:Hp}{F:Set}{ks:List DK}{ds:List D}{vs:List V}{k:DK}(hl:ar Z H ds vs F):(bQ ks vs k).isSome=(bQ ks ds k).isSome:=by
 cases e:bQ ks ds k with
 |none=>rw[hl.find.2 e];rfl
 |some d=>obtain⟨v,ev,_⟩:=hl.find.1 d e;rw[ev];rfl
theorem GQ{ta tb:TE}{ua ub:UB}(ha:aY ta ua)(hb:aY tb ub):aY (Nw ta tb) (aj (jy false) ua ub):=jn (r:=fun y x H Q=>∃a o,x=.ref a/\jF H a y o/\Q (.bl o.isSome) H) ha hb fun Z H d1 d2 v1 v2 F1 F2 P R h1 h2 hf kk=>by
 cases d2<;>try exact hf.elim
 obtain⟨k,e1,p⟩:=hf
 obtain⟨a,vs,u,rfl,hr,hd,hl⟩:=gJ h2
 refine⟨a,_,rfl,kh hr hd hl e1 h1,?_⟩
 rw[oQ hl]
 exact kk _ _ _ _ p (iV.refl (c_.mpr rfl))
theorem yG{ta tb:TE}{ua ub:UB}(ha:aY ta ua)(hb:aY tb ub):aY (zQ ta tb) (aj (jy true) ua ub):=jn (r:=fun y x H Q=>∃a o,x=.ref a/\jF H a y o/\Q (.bl (!o.isSome)) H) ha hb fun Z H d1 d2 v1 v2 F1 F2 P R h1 h2 hf kk=>by
 cases d2<;>try exact hf.elim
 obtain⟨k,e1,p⟩:=hf
 obtain⟨a,vs,u,rfl,hr,hd,hl⟩:=gJ h2
 refine⟨a,_,rfl,kh hr hd hl e1 h1,?_⟩
 rw[oQ hl]
 exact kk _ _ _ _ p (iV.refl (c_.mpr rfl))
def zq:List D->(D->Prop)->Prop
 | [.cy _ t ks ds,kd,x],P=>∃k,keyOf t kd=some k/\bare ((bQ ks ds k).getD x)=true/\P ((bQ ks ds k).getD x)
 |_,_=>False
theorem EG{Z:Set}{H:Hp}{t:Bool}{ks:List DK}{a:Addr}{vs:List V}{u:HO}(hr:Rd H a u)(hd:DictAt t u ks vs):Mg H a:=by
 cases t with
 |false=>obtain⟨kl,_,_,_,rfl⟩:=hd;exact .inl ⟨_,hr⟩
 |true=>obtain⟨kl,_,_,_,rfl⟩:=hd;exact .inr ⟨_,hr⟩
theorem eh{Z:Set}{H:Hp}{env:ai}{σ:St}{φ:Nat->Set}{r:Ref}{v:V}{G:Set}{d:D}(O:Ok Z H env σ φ)(h:mY Z H σ r v G)(e:r.at env=some d):∃F,Own Z H d v F:=by
 have q:=u_ (rs:=[r]) (vs:=[v]) (G:=G) (ds:=[d]) O ⟨v,[],G,cE,rfl,h,rfl,fun _ z=>z,fun _ z=>z.elim,fun _ _ z=>z⟩ (by unfold r_ r_;rw[e])
 cases q with
 |cons h _=>exact h
def wC(ua ub uc:UB):UB:=fun env Q=>ua env fun r1 e1=>(∃o t ks ds,r1.at e1=some (.cy o t ks ds))/\ub e1 fun r2 e2=>uc e2 fun r3 e3=>∃d1 d2 d3,r1.at e3=some d1/\r2.at e3=some d2/\r3.at e3=some d3/\zq [d1,d2,d3] fun d=>Q (.a8 d) e3
theorem Dk{ta tb tc:TE}{ua ub uc:UB}(ha:aY ta ua)(hb:aY tb ub)(hc:aY tc uc):aY (C6 ta tb tc) (wC ua ub uc):=by
 intro σ env Z H φ Q R O q k
 refine ha σ env Z H φ _ _ O q fun x1 aL v1 Z1 H1 bI G1 ⟨⟨o,t,ks,ds,lT⟩,q1⟩ O1 r1 jh=>?_
 obtain⟨F1,h1⟩:=eh O1 jh lT
 obtain⟨a,vs,u,rfl,hr,hd,hl⟩:=gJ h1
 refine⟨a,rfl,EG (Z:=Z1) hr hd,?_⟩
 refine hb σ aL Z1 H1 bI _ _ O1 q1 fun x2 fZ v2 Z2 H2 gU G2 q2 O2 r2 nV=>?_
 refine hc σ fZ Z2 H2 gU _ _ O2 q2 fun x3 sZ v3 Z3 H3 yf G3 ⟨d1,d2,d3,e1,e2,e3,f⟩ O3 r3 Af=>?_
 obtain⟨z8,O6⟩:=r1.seq r2
 obtain⟨Sb,WN⟩:=z8.seq r3
 have Sl:=((jh.keep O1 r2 r1.d).keep O2 r3 fun a z y=>z8.d a z (.inl y))
 have Sk:=nV.keep O2 r3 r2.d
 obtain⟨F1',T3⟩:=eh O3 Sl e1
 obtain⟨F2',T1⟩:=eh O3 Sk e2
 obtain⟨F3',TZ⟩:=eh O3 Af e3
 cases d1<;>try exact f.elim
 rename_i o' t' QJ Ay
 obtain⟨kk,ek,MR,p⟩:=f
 obtain⟨a',lR,u',ea,Yi,pJ,B4⟩:=gJ T3
 cases ea
 have n:∃d v G,iV Z3 H3 H3 d v G/\v=(bQ QJ lR kk).getD v3/\d=(bQ QJ Ay kk).getD d3:=by
  cases e:bQ QJ Ay kk with
  |none=>
   rw[e] at MR
   exact⟨d3,v3,_,iV.refl (TZ.bare d3 MR),by rw[B4.find.2 e];rfl,rfl⟩
  |some d=>
   rw[e] at MR
   obtain⟨v,ev,ho⟩:=B4.find.1 d e
   exact⟨d,v,_,iV.refl (ho.bare d MR),by rw[ev];rfl,rfl⟩
 obtain⟨d,v,G,n,ev,ed⟩:=n
 subst ev ed
 exact⟨_,kh Yi pJ B4 ek T1,k (.a8 _) sZ _ Z3 H3 yf G p (O3.grow n.same) (n.res O3 Sb) n.own⟩
def jU:List D->(D->Prop)->Prop
 | [.lst _ ds],P=>P (.int ds.length)
 | [.tup ds],P=>P (.int ds.length)
 |_,_=>False
theorem LX{K:PySem.W.Frag}:MW (fun xs H Q=>∃p ys,xs=[V.ref p]/\(je K H p ys\/ox K H p ys)/\Q (.int ys.length) H) jU:=by
 intro Z H ds vs P R s f k
 cases s with
 |nil=>exact f.elim
 |cons h t=>
  obtain⟨F,h⟩:=h
  cases t with
  |cons h2 t2=>rename_i d _ _ _ _ _;cases d<;>exact f.elim
  |nil=>
   rename_i d v
   cases d<;>try exact f.elim
   ·obtain⟨a,vs,rfl,hr,hl⟩:=c7.mp h
    refine⟨a,vs,rfl,.inr (.inl (.inl hr)),?_⟩
    rw[hl.length]
    exact k _ _ _ _ f (iV.refl (a_.mpr rfl))
   ·obtain⟨a,vs,rfl,hr,hl⟩:=fF h
    refine⟨a,vs,rfl,.inl (.inl hr),?_⟩
    rw[hl.length]
    exact k _ _ _ _ f (iV.refl (a_.mpr rfl))
def OX:List D->(D->Prop)->Prop
 | [.str x],P=>x.length<=1000000/\P (.int x.length)
 |_,_=>False
def uV:List Ref->Option (List D)
 | []=>some []
 | .a8 d::rs=>(uV rs).map (d :: ·)
 | .var _::_=>none
theorem vn{Z:Set}{H:Hp}{σ:St}:∀{rs:List Ref}{vs:List V}{G:Set}{ds:List D},rX Z H σ rs vs G->uV rs=some ds->ar Z H ds vs G
 | [],vs,G,ds,h,e=>by
  cases (show some []=some ds from e)
  exact ba.mpr h
 | .a8 d::rs,vs,G,ds,h,e=>by
  obtain⟨v,ws,G1,G2,rfl,h1,h2,s1,s2,dj⟩:=h
  unfold uV at e
  cases e2:uV rs with
  |none=>simp[e2] at e
  |some Ay=>
   simp only[e2,Option.map_some,Option.some.injEq] at e
   subst e
   exact aF.mpr ⟨v,ws,G1,G2,rfl,h1,vn h2 e2,s1,s2,dj⟩
 | .var i::rs,vs,G,ds,h,e=>by simp[uV] at e
def gf(ua:UA):UB:=fun env Q=>ua env fun rs e=>∃ds,uV rs=some ds/\ds.length<=1000000/\Q (.a8 (.tup ds)) e
def cW(ua:UA):UB:=fun env Q=>ua env fun rs e=>∃ds,uV rs=some ds/\ds.length<=1000000/\Q (.a8 (.lst true ds)) e
section
variable {Z Z1:Set}{H H1 H':Hp}{F G G1:Set}{aL:ai}{σ:St}{bI:Nat->Set}
theorem Res.lay(O:Ok Z1 H1 aL σ bI)(r:Res Z H F Z1 H1 (cQ bI) G1)(s:cf H1 H')(g:∀a,G a->G1 a\/(H1 a=none/\lU (H' a))):Res Z H F Z1 H' (cQ bI) G:=
 ⟨r.z,r.zn,fun a o e z=>s a o (r.k a o e z),r.f,fun a h=>(g a h).elim (r.g a) fun h=>r.kn (.inr h.1),fun a ⟨i,z⟩ h=>(g a h).elim (r.d a ⟨i,z⟩) fun h=>(O.fm i a z).ne h.1,
  fun a h z=>(g a h).elim (fun h=>r.gz a h z) fun h=>O.zh a z h.1,fun a h=>(g a h).elim (fun h=>(r.gm a h).up fun o e=>s a o e) fun h=>h.2⟩
end
theorem GD{t:TA}{ua:UA}(ha:oz t ua):aY (IB t) (gf ua):=by
 intro σ env Z H φ Q R O q k
 refine ha σ env Z H φ _ _ O q fun rs aL vs Z1 H1 bI G1 ⟨ds,e,hz,q1⟩ O1 r1 jh=>?_
 have ho:=vn jh e
 refine⟨by rw[ho.length];exact hz,fun p H2 hn hs hp=>?_⟩
 exact k (.a8 (.tup ds)) aL (.ref p) Z1 H2 bI G1 q1 (O1.grow hs) (Res.lay O1 r1 hs fun a z=>.inl z) (c7.mpr ⟨p,vs,rfl,hp,ho.grow hs⟩)
theorem GL{t:TA}{ua:UA}(ha:oz t ua):aY (IH t) (cW ua):=by
 intro σ env Z H φ Q R O q k
 refine ha σ env Z H φ _ _ O q fun rs aL vs Z1 H1 bI G1 ⟨ds,e,hz,q1⟩ O1 r1 jh=>?_
 have ho:=vn jh e
 refine⟨by rw[ho.length];exact hz,fun p H2 hn hs hp=>?_⟩
 refine k (.a8 (.lst true ds)) aL (.ref p) Z1 H2 bI (fun a=>G1 a\/a=p) q1 (O1.grow hs) (Res.lay O1 r1 hs fun a z=>z.imp id fun z=>?_) (bD.mpr ⟨p,vs,rfl,hp,.inr rfl,(ho.grow hs).mono fun a z=>⟨.inl z,fun y=>?_⟩⟩)
 ·subst z;exact⟨hn,by rw[hp];exact trivial⟩
 ·subst y;exact(r1.gm _ z).ne hn
end VS
end
section
namespace VS
open PySem L2
section
variable {Z Z1 Z2:Set}{H H1 H2:Hp}{F F1 F2 G G1:Set}
theorem Res.drop(r:Res Z H F Z1 H1 F1 G):Res Z H F Z1 H1 F1 cE:=⟨r.z,r.zn,r.k,r.f,fun _ z=>z.elim,fun _ _ z=>z,fun _ z=>z.elim,fun _ z=>z.elim⟩
end
theorem DQ{Z:Set}{H:Hp}{σ:St}{b:Bool}{v:V}{G:Set}(h:mY Z H σ (.a8 (.bl b)) v G):v=.bl b:=c_.mp (show Own Z H (.bl b) v G from h)
theorem vh{Z:Set}{H:Hp}{σ:St}{b:Bool}:mY Z H σ (.a8 (.bl b)) (.bl b) cE:=show Own Z H (.bl b) _ cE from c_.mpr rfl
def aN(ua:UB):UT:=fun env Q=>ua env fun r e=>∃b,r=.a8 (.bl b)/\Q b e
theorem qi{ta:TE}{ua:UB}(h:aY ta ua):gS (C3 ta) (aN ua):=by
 intro σ env Z H φ Q R O q k
 refine h σ env Z H φ _ _ O q fun r aL v Z1 H1 bI G ⟨b,e,q1⟩ O1 r1 ok=>?_
 subst e
 exact⟨b,DQ ok,k b aL Z1 H1 bI q1 O1 r1.drop⟩
theorem Bg{ta:TE}{ua:UB}(h:aY ta ua):gS (tB ta) (aN ua):=qi h
def ym(t:UT):UT:=fun env Q=>t env fun b e=>Q (!b) e
theorem GK{t:TT}{u:UT}(h:gS t u):gS (Nu t) (ym u):=fun σ env Z H φ Q R O q k=>h σ env Z H φ _ _ O q fun b aL Z1 H1 bI q1 O1 r1=>k (!b) aL Z1 H1 bI q1 O1 r1
def qb(t u:UT):UT:=fun env Q=>t env fun b e=>if b=true then u e Q else Q false e
def W7(t u:UT):UT:=fun env Q=>t env fun b e=>if b=true then Q true e else u e Q
theorem snd_and{t t':TT}{u u':UT}(h:gS t u)(h':gS t' u'):gS (Nz t t') (qb u u'):=by
 intro σ env Z H φ Q R O q k
 refine h σ env Z H φ _ _ O q fun b aL Z1 H1 bI q1 O1 r1=>?_
 cases b with
 |true=>rw[if_pos rfl] at q1 ⊢;exact h' σ aL Z1 H1 bI _ _ O1 q1 fun b fZ Z2 H2 gU q2 O2 r2=>k b fZ Z2 H2 gU q2 O2 (r1.trans r2)
 |false=>rw[if_neg Bool.false_ne_true] at q1 ⊢;exact k false aL Z1 H1 bI q1 O1 r1
def RQ:D->Option Bool
 | .bJ=>some false
 | .bl b=>some b
 | .int i=>some (i != 0)
 | .lst _ ds=>some (!ds.isEmpty)
 | .tup ds=>some (!ds.isEmpty)
 |_=>none
def lx(ua:UB):UT:=fun env Q=>ua env fun r e=>∃d b,r.at e=some d/\RQ d=some b/\Q b e
theorem Bf{K:PySem.W.Frag}{ta:TE}{ua:UB}(h:aY ta ua):gS (fun σ H Q=>ta σ H fun x H'=>∃k,Mf K x H' k/\Q k H') (lx ua):=by
 intro σ env Z H φ Q R O q k
 refine h σ env Z H φ _ _ O q fun r aL v Z1 H1 bI G ⟨d,b,e,et,q1⟩ O1 r1 ok=>?_
 obtain⟨F,ho⟩:=eh O1 ok e
 refine⟨b,?_,k b aL Z1 H1 bI q1 O1 r1.drop⟩
 cases d<;>simp only[RQ,reduceCtorEq,Option.some.injEq] at et<;>subst et
 ·rw[kG.mp ho];rfl
 ·rw[c_.mp ho];rfl
 ·rw[a_.mp ho];rfl
 ·rename_i ds
  obtain⟨a,vs,rfl,hr,hl⟩:=c7.mp ho
  have:=hl.length
  refine .inr (.inl ⟨vs,.inl (.inl hr),?_⟩)
  cases vs<;>cases ds<;>simp at this ⊢
 ·rename_i o ds
  obtain⟨a,vs,rfl,hr,hl⟩:=fF ho
  have:=hl.length
  refine .inl ⟨vs,.inl hr,?_⟩
  cases vs<;>cases ds<;>simp at this ⊢
def zN(ua ub:UB):UB:=fun env Q=>ua env fun r e=>∃c,r=.a8 (.bl c)/\if c=true then ub e Q else Q (.a8 (.bl false)) e
def RL(ua ub:UB):UB:=fun env Q=>ua env fun r e=>∃c,r=.a8 (.bl c)/\if c=true then Q (.a8 (.bl true)) e else ub e Q
def Nn(ua:UB):UB:=fun env Q=>ua env fun r e=>∃c,r=.a8 (.bl c)/\Q (.a8 (.bl (!c))) e
def zK(t:UT)(ua ub:UB):UB:=fun env Q=>t env fun b e=>if b=true then ua e Q else ub e Q
theorem Du{ta tb:TE}{ua ub:UB}(h:aY ta ua)(h':aY tb ub):aY (IL ta tb) (zN ua ub):=by
 intro σ env Z H φ Q R O q k
 refine h σ env Z H φ _ _ O q fun r aL v Z1 H1 bI G ⟨c,e,q1⟩ O1 r1 ok=>?_
 subst e
 refine⟨c,DQ ok,?_⟩
 cases c with
 |true=>rw[if_pos rfl] at q1 ⊢;exact h' σ aL Z1 H1 bI _ _ O1 q1 fun b fZ v2 Z2 H2 gU G2 q2 O2 r2 nV=>k b fZ v2 Z2 H2 gU G2 q2 O2 (r1.drop.trans r2) nV
 |false=>rw[if_neg Bool.false_ne_true] at q1 ⊢;exact k _ aL _ Z1 H1 bI cE q1 O1 r1.drop vh
theorem GO{t:TT}{u:UT}{ta tb:TE}{ua ub:UB}(hc:gS t u)(h:aY ta ua)(h':aY tb ub):aY (UR t ta tb) (zK u ua ub):=by
 intro σ env Z H φ Q R O q k
 refine hc σ env Z H φ _ _ O q fun b aL Z1 H1 bI q1 O1 r1=>?_
 cases b with
 |true=>rw[if_pos rfl] at q1 ⊢;exact h σ aL Z1 H1 bI _ _ O1 q1 fun b fZ v2 Z2 H2 gU G2 q2 O2 r2 nV=>k b fZ v2 Z2 H2 gU G2 q2 O2 (r1.trans r2) nV
 |false=>rw[if_neg Bool.false_ne_true] at q1 ⊢;exact h' σ aL Z1 H1 bI _ _ O1 q1 fun b fZ v2 Z2 H2 gU G2 q2 O2 r2 nV=>k b fZ v2 Z2 H2 gU G2 q2 O2 (r1.trans r2) nV
def Kp(I:Nat->Bool)(σ bU:St):Prop:=∀i:Nat,I i=true->bU[i]? = σ[i]?
theorem Kp.refl{I:Nat->Bool}{σ:St}:Kp I σ σ:=fun _ _=>rfl
theorem Kp.trans{I:Nat->Bool}{a b c:St}(h:Kp I a b)(h':Kp I b c):Kp I a c:=fun i hi=>(h' i hi).trans (h i hi)
structure cV where
 nx:ai->Prop
 rt:D->ai->Prop
 bk:ai->Prop
 ct:ai->Prop
abbrev US:=cV->ai->Prop
def KN(I:Nat->Bool)(Z:Set)(H:Hp)(F:Set)(σ:St)(P:ai->Prop)(K:St->Hp->Prop):Prop:=∀bT bU Z' H' cJ,P bT->Ok Z' H' bT bU cJ->Res Z H F Z' H' (cQ cJ) cE->Kp I σ bU->K bU H'
def KR(I:Nat->Bool)(Z:Set)(H:Hp)(F:Set)(σ:St)(P:D->ai->Prop)(K:VK):Prop:=∀d bT v bU Z' H' cJ G,P d bT->Ok Z' H' bT bU cJ->Res Z H F Z' H' (cQ cJ) G->Own Z' H' d v G->Kp I σ bU->K v H'
structure Jw(I:Nat->Bool)(Z:Set)(H:Hp)(F:Set)(σ:St)(D:cV)(E:Ends):Prop where
 nx:KN I Z H F σ D.nx E.nx
 rt:KR I Z H F σ D.rt E.rt
 bk:KN I Z H F σ D.bk E.bk
 ct:KN I Z H F σ D.ct E.ct
def fJ(I:Nat->Bool)(t:TS)(u:US):Prop:=∀(σ:St) (env:ai) (Z:Set) (H:Hp) (φ:Nat->Set) (D:cV) (E:Ends),Ok Z H env σ φ->u D env->Jw I Z H (cQ φ) σ D E->t E σ H
section
variable {I:Nat->Bool}{Z Z1:Set}{H H1:Hp}{F F1:Set}{σ yg:St}
theorem KN.after{P:ai->Prop}{K:St->Hp->Prop}(k:KN I Z H F σ P K)(r:Res Z H F Z1 H1 F1 cE)(s:Kp I σ yg):KN I Z1 H1 F1 yg P K:=fun bT bU Z' H' cJ p O r' s'=>k bT bU Z' H' cJ p O (r.trans r') (s.trans s')
theorem KR.after{P:D->ai->Prop}{K:VK}(k:KR I Z H F σ P K)(r:Res Z H F Z1 H1 F1 cE)(s:Kp I σ yg):KR I Z1 H1 F1 yg P K:=fun d bT v bU Z' H' cJ G p O r' o s'=>k d bT v bU Z' H' cJ G p O (r.trans r') o (s.trans s')
theorem Jw.after{D:cV}{E:Ends}(k:Jw I Z H F σ D E)(r:Res Z H F Z1 H1 F1 cE)(s:Kp I σ yg):Jw I Z1 H1 F1 yg D E:=⟨k.nx.after r s,k.rt.after r s,k.bk.after r s,k.ct.after r s⟩
end
def aC(a b:US):US:=fun D env=>a {D with nx:=b D} env
def cg:US:=fun D env=>D.nx env
def RM:US:=fun D env=>D.bk env
def zM:US:=fun D env=>D.ct env
def bO(ua:UB):US:=fun D env=>ua env fun r e=>∃d,r=.a8 d/\D.rt d e
def Nm:US:=fun D env=>D.rt .bJ env
def zL(ua:UB):US:=fun D env=>ua env fun _ e=>D.nx e
def di(t:UT)(a b:US):US:=fun D env=>t env fun c e=>if c=true then a D e else b D e
def ly:US:=fun _ _=>False
section
variable {I:Nat->Bool}
theorem GH{t t':TS}{u u':US}(h:fJ I t u)(h':fJ I t' u'):fJ I (Nr t t') (aC u u'):=fun σ env Z H φ D E O q k=>
 h σ env Z H φ _ _ O q ⟨fun bT bU Z' H' cJ p O' r s=>h' bU bT Z' H' cJ D E O' p (k.after r s),k.rt,k.bk,k.ct⟩
theorem De:fJ I IF cg:=fun σ env Z H φ D E O q k=>k.nx env σ Z H φ q O Res.refl Kp.refl
theorem Dt:fJ I IK zM:=fun σ env Z H φ D E O q k=>k.ct env σ Z H φ q O Res.refl Kp.refl
theorem Bj{t:TS}:fJ I t ly:=fun σ env Z H φ D E O q k=>q.elim
theorem GI{t:TE}{u:UB}(h:aY t u):fJ I (Nt t) (bO u):=fun σ env Z H φ D E O q k=>
 h σ env Z H φ _ _ O q fun r aL v Z1 H1 bI G ⟨d,e,q1⟩ O1 r1 ok=>k.rt d aL v σ Z1 H1 bI G q1 O1 r1 (by subst e;exact ok) Kp.refl
theorem Dp{t:TE}{u:UB}(h:aY t u):fJ I (tM t) (zL u):=fun σ env Z H φ D E O q k=>
 h σ env Z H φ _ _ O q fun r aL v Z1 H1 bI G q1 O1 r1 ok=>k.nx aL σ Z1 H1 bI q1 O1 r1.drop Kp.refl
theorem J1{t:TT}{u:UT}{a b:TS}{ua ub:US}(hc:gS t u)(ha:fJ I a ua)(hb:fJ I b ub):fJ I (Nv t a b) (di u ua ub):=by
 intro σ env Z H φ D E O q k
 refine hc σ env Z H φ _ _ O q fun c aL Z1 H1 bI q1 O1 r1=>?_
 cases c with
 |true=>rw[if_pos rfl] at q1 ⊢;exact ha σ aL Z1 H1 bI D E O1 q1 (k.after r1 Kp.refl)
 |false=>rw[if_neg Bool.false_ne_true] at q1 ⊢;exact hb σ aL Z1 H1 bI D E O1 q1 (k.after r1 Kp.refl)
end
abbrev UG:=D->ai->(ai->Prop)->Prop
abbrev Cu:=List D->ai->(ai->Prop)->Prop
def ip(φ:Nat->Set)(i:Nat)(G:Set):Nat->Set:=fun j a=>if j=i then G a else φ j a
def jD(I:Nat->Bool)(g:TG)(u:UG):Prop:=∀(σ:St) (env:ai) (Z:Set) (H:Hp) (φ:Nat->Set) (d:D) (v:V) (G:Set) (Q:ai->Prop) (K:St->Hp->Prop),Ok Z H env σ φ->Own Z H d v G->(∀a,cQ φ a->¬G a)->(∀a,G a->¬Z a)->(∀a,G a->lU (H a))->u d env Q ->
 (∀bT bU Z' cJ,Q bT->Ok Z' H bT bU cJ->(∀a,Z a->Z' a)->(∀a,Z' a->Z a\/G a)->(∀a,cQ cJ a->cQ φ a\/G a)->Kp I σ bU->K bU H)->g v σ H K
def x_(I:Nat->Bool)(g:Cv)(u:Cu):Prop:=∀(σ:St) (env:ai) (Z:Set) (H:Hp) (φ:Nat->Set) (ds:List D) (vs:List V) (G:Set) (Q:ai->Prop) (K:St->Hp->Prop),Ok Z H env σ φ->ar Z H ds vs G->(∀a,cQ φ a->¬G a)->(∀a,G a->¬Z a)->(∀a,G a->lU (H a))->u ds env Q ->
 (∀bT bU Z' cJ,Q bT->Ok Z' H bT bU cJ->(∀a,Z a->Z' a)->(∀a,Z' a->Z a\/G a)->(∀a,cQ cJ a->cQ φ a\/G a)->Kp I σ bU->K bU H)->g vs σ H K
def au(i:Nat):UG:=fun d env k=>i<env.length/\k (env.set i (some d))
def bB(i:Nat):UG:=fun d env k=>i<env.length/\k (env.set i (some (aT d)))
def fO:Cu:=fun ds env k=>ds=[]/\k env
def bC(g:UG)(gs:Cu):Cu:=fun ds env k=>∃d r,ds=d::r/\g d env fun e=>gs r e k
def fN(n:Nat)(gs:Cu):UG:=fun d env k=>∃ds,d=.tup ds/\ds.length=n/\gs ds env k
section
variable {I:Nat->Bool}{Z:Set}{H:Hp}{env:ai}{σ:St}{φ:Nat->Set}
theorem Ok.put(O:Ok Z H env σ φ){i:Nat}{d:D}{v:V}{G:Set}(ho:Own Z H d v G)(hd:∀a,cQ φ a->¬G a)(hz:∀a,G a->¬Z a)(hm:∀a,G a->lU (H a))(hi:i<env.length)(hs:i<σ.length):Ok Z H (env.set i (some d)) (σ.set i (some v)) (ip φ i G):=by
 refine⟨fun j e he=>?_,fun j k a h1 h2=>?_,fun j a h=>?_,fun j a h=>?_,O.zh,by rw[List.length_set,List.length_set];exact O.len⟩
 ·by_cases hj:i=j
  ·subst hj
   rw[List.getElem?_set_self hi] at he
   cases he
   exact⟨v,List.getElem?_set_self hs,by unfold ip;exact ho.mono fun a z=>by rw[if_pos rfl];exact z⟩
  ·rw[List.getElem?_set_ne hj] at he
   obtain⟨w,hw,h⟩:=O.own j e he
   exact⟨w,by rw[List.getElem?_set_ne hj];exact hw,h.mono fun a z=>by unfold ip;rw[if_neg (Ne.symm hj)];exact z⟩
 ·unfold ip at h1 h2
  by_cases hj:j=i<;>by_cases hk:k=i
  ·rw[hj,hk]
  ·rw[if_pos hj] at h1;rw[if_neg hk] at h2;exact absurd h1 (hd a ⟨k,h2⟩)
  ·rw[if_neg hj] at h1;rw[if_pos hk] at h2;exact absurd h2 (hd a ⟨j,h1⟩)
  ·rw[if_neg hj] at h1;rw[if_neg hk] at h2;exact O.dj j k a h1 h2
 ·unfold ip at h
  by_cases hj:j=i
  ·rw[if_pos hj] at h;exact hz a h
  ·rw[if_neg hj] at h;exact O.fz j a h
 ·unfold ip at h
  by_cases hj:j=i
  ·rw[if_pos hj] at h;exact hm a h
  ·rw[if_neg hj] at h;exact O.fm j a h
theorem kE{i:Nat}{G:Set}(a:Addr)(h:cQ (ip φ i G) a):cQ φ a\/G a:=by
 obtain⟨j,h⟩:=h
 unfold ip at h
 by_cases hj:j=i
 ·rw[if_pos hj] at h;exact .inr h
 ·rw[if_neg hj] at h;exact .inl ⟨j,h⟩
end
end VS
end
section
namespace VS
open PySem L2
section
variable {I:Nat->Bool}{Z:Set}{H:Hp}{env:ai}{σ:St}{φ:Nat->Set}
theorem Ok.Mo(O:Ok Z H env σ φ){G:Set}(h1:∀a,G a->¬cQ φ a)(h2:∀a,G a->H a≠none):Ok (fun a=>Z a\/G a) H env σ φ:=
 ⟨fun i d e=>let ⟨v,hv,h⟩:=O.own i d e;⟨v,hv,h.ig fun _ z=>.inl z⟩,O.dj,fun i a h z=>z.elim (O.fz i a h) fun z=>h1 a z ⟨i,h⟩,O.fm,fun a z=>z.elim (O.zh a) (h2 a),O.len⟩
theorem y7{i:Nat}{v:Option V}(hi:I i=false):Kp I σ (σ.set i v):=fun j hj=>List.getElem?_set_ne fun e=>by rw[e,hj] at hi;cases hi
theorem tR{i:Nat}(hi:I i=false):jD I (As i) (au i):=by
 intro σ env Z H φ d v G Q K O ho hd hz hm ⟨hl,q⟩ k
 exact k _ _ Z _ q (O.put ho hd hz hm hl (by rw[<-O.len];exact hl)) (fun _ z=>z) (fun _ z=>.inl z) kE (y7 hi)
theorem qk{i:Nat}(hi:I i=false):jD I (As i) (bB i):=by
 intro σ env Z H φ d v G Q K O ho hd hz hm ⟨hl,q⟩ k
 have O2:=O.Mo (G:=G) (fun a z y=>hd a y z) fun a z=>(hm a z).ne
 exact k _ _ _ _ q (O2.put (G:=cE) ho.aT (fun _ _ z=>z) (fun _ z=>z.elim) (fun _ z=>z.elim) hl (by rw[<-O.len];exact hl)) (fun _ z=>.inl z) (fun _ z=>z) (fun a z=>(kE a z).imp id fun z=>z.elim) (y7 hi)
theorem Dj:x_ I OS fO:=fun σ env Z H φ ds vs G Q K O ho hd hz hm ⟨e,q⟩ k=>by
 subst e
 exact⟨ba.mp ho,k env σ Z φ q O (fun _ z=>z) (fun _ z=>.inl z) (fun _ z=>.inl z) Kp.refl⟩
theorem Bm{g:TG}{gs:Cv}{u:UG}{us:Cu}(h:jD I g u)(h':x_ I gs us):x_ I (Jn g gs) (bC u us):=by
 intro σ env Z H φ ds vs G Q K O ho hd hz hm ⟨d,r,e,q⟩ k
 subst e
 obtain⟨v,ws,F1,F2,rfl,h1,h2,s1,s2,dj⟩:=aF.mp ho
 refine⟨v,ws,rfl,h σ env Z H φ d v F1 _ _ O h1 (fun a z y=>hd a z (s1 a y)) (fun a z=>hz a (s1 a z)) (fun a z=>hm a (s1 a z)) q fun aL yg Z1 bI q1 O1 z1 Uu f1 k1=>?_⟩
 refine h' yg aL Z1 H bI r ws F2 Q K O1 (h2.ig z1) (fun a z y=>(f1 a z).elim (fun z=>hd a z (s2 a y)) fun z=>dj a z y) (fun a z y=>(Uu a y).elim (hz a (s2 a z)) fun y=>dj a y z) (fun a z=>hm a (s2 a z)) q1 fun fZ uO Z2 gU q2 O2 z2 MX f2 k2=>?_
 exact k fZ uO Z2 gU q2 O2 (fun a z=>z2 a (z1 a z)) (fun a z=>(MX a z).elim (fun z=>(Uu a z).imp id (s1 a)) fun z=>.inr (s2 a z)) (fun a z=>(f2 a z).elim (fun z=>(f1 a z).imp id (s1 a)) fun z=>.inr (s2 a z)) (k1.trans k2)
theorem Di{K:PySem.W.Frag}{n:Nat}{gs:Cv}{us:Cu}(h:x_ I gs us):jD I (OQ K n gs) (fN n us):=by
 intro σ env Z H φ d v G Q K O ho hd hz hm ⟨ds,e,hn,q⟩ k
 subst e
 obtain⟨a,vs,rfl,hr,hl⟩:=c7.mp ho
 exact⟨a,vs,rfl,.inl (.inl hr),by rw[hl.length];exact hn,h σ env Z H φ ds vs G Q K O hl hd hz hm q k⟩
def aX(ua:UB)(g:UG):US:=fun E env=>ua env fun r e=>∃d,r=.a8 d/\g d e E.nx
theorem l7{t:TE}{u:UB}{g:TG}{ug:UG}(h:aY t u)(hg:jD I g ug):fJ I (yx t g) (aX u ug):=by
 intro σ env Z H φ D E O q k
 refine h σ env Z H φ _ _ O q fun r aL v Z1 H1 bI G ⟨d,e,q1⟩ O1 r1 ok=>?_
 subst e
 refine hg σ aL Z1 H1 bI d v G _ _ O1 ok r1.d r1.gz r1.gm q1 fun fZ uO Z2 gU q2 O2 z2 MX f2 k2=>?_
 exact k.nx fZ uO Z2 H1 gU q2 O2 ⟨fun a z=>z2 a (r1.z a z),fun a z=>(MX a z).elim (r1.zn a) fun z=>.inr (r1.g a z),r1.k,fun a z=>(f2 a z).elim (r1.f a) (r1.g a),fun _ z=>z.elim,fun _ _ z=>z,fun _ z=>z.elim,fun _ z=>z.elim⟩ k2
def CW(i:Nat)(f:Int->Int->Int)(ua:UB):US:=fun E env=>∃a,env[i]? = some (some (.int a))/\ua env fun r e=>∃b,r=.a8 (.int b)/\i<e.length/\E.nx (e.set i (some (.int (f a b))))
theorem GR{i:Nat}{f:Int->Int->Int}{t:TE}{u:UB}(hi:I i=false)(h:aY t u):fJ I (Ny i t (SE f)) (CW i f u):=by
 intro σ env Z H φ D E O ⟨a,e,q⟩ k
 obtain⟨v,hv,ho⟩:=O.own i _ e
 rw[a_] at ho
 subst ho
 refine⟨_,hv,h σ env Z H φ _ _ O q fun r aL v Z1 H1 bI G ⟨b,e1,hl,q1⟩ O1 r1 ok=>?_⟩
 subst e1
 refine⟨a,b,rfl,a_.mp (show Own Z1 H1 (.int b) v G from ok),?_⟩
 exact k.nx _ _ Z1 H1 _ q1 (O1.put (G:=cE) (a_.mpr rfl) (fun _ _ z=>z) (fun _ z=>z.elim) (fun _ z=>z.elim) hl (by rw[<-O1.len];exact hl)) ⟨r1.z,r1.zn,r1.k,fun a z=>(kE a z).elim (r1.f a) fun z=>z.elim,fun _ z=>z.elim,fun _ _ z=>z,fun _ z=>z.elim,fun _ z=>z.elim⟩ (y7 hi)
end
def nj(p q:Int->Int->Bool)(ua ub uc:UB):UB:=fun env Q=>ua env fun r1 e1=>ub e1 fun r2 e2=>∃i j,r1=.a8 (.int i)/\r2=.a8 (.int j)/\if p i j=true then uc e2 fun r3 e3=>∃k,r3=.a8 (.int k)/\Q (.a8 (.bl (q j k))) e3 else Q (.a8 (.bl false)) e2
theorem Bt{p q:Int->Int->Bool}{ta tb tc:TE}{ua ub uc:UB}(ha:aY ta ua)(hb:aY tb ub)(hc:aY tc uc):aY (C8 (yN fun i j=>.bl (p i j)) (yN fun i j=>.bl (q i j)) ta tb tc) (nj p q ua ub uc):=by
 intro σ env Z H φ Q R O u k
 refine ha σ env Z H φ _ _ O u fun r1 aL v1 Z1 H1 bI G1 q1 O1 s1 jh=>?_
 refine hb σ aL Z1 H1 bI _ _ O1 q1 fun r2 fZ v2 Z2 H2 gU G2 ⟨i,j,e1,e2,q2⟩ O2 s2 nV=>?_
 subst e1 e2
 have f1:=a_.mp (show Own Z1 H1 (.int i) v1 G1 from jh)
 have f2:=a_.mp (show Own Z2 H2 (.int j) v2 G2 from nV)
 refine⟨i,j,f1,f2,p i j,rfl,?_⟩
 have yL:=s1.drop.trans s2.drop
 by_cases hp:p i j=true
 ·rw[if_pos hp] at q2 ⊢
  refine hc σ fZ Z2 H2 gU _ _ O2 q2 fun r3 sZ v3 Z3 H3 yf G3 ⟨kk,e3,q3⟩ O3 s3 Af=>?_
  subst e3
  exact⟨j,kk,f2,a_.mp (show Own Z3 H3 (.int kk) v3 G3 from Af),k _ sZ _ Z3 H3 yf cE q3 O3 (yL.trans s3.drop) vh⟩
 ·rw[if_neg hp] at q2 ⊢
  exact k _ fZ _ Z2 H2 gU cE q2 O2 yL vh
structure oB(Z:Set)(H:Hp)(Z2:Set)(H2:Hp):Prop where
 z:∀a,Z a->Z2 a
 k:∀a o,H a=some o->Z a->H2 a=some o
 t:∀a vs,H a=some (.tup vs)->H2 a=some (.tup vs)
theorem oB.refl{Z:Set}{H:Hp}:oB Z H Z H:=⟨fun _ z=>z,fun _ _ e _=>e,fun _ _ e=>e⟩
theorem oB.trans{Z Z1 Z2:Set}{H H1 H2:Hp}(a:oB Z H Z1 H1)(b:oB Z1 H1 Z2 H2):oB Z H Z2 H2:=⟨fun x z=>b.z x (a.z x z),fun x o e z=>b.k x o (a.k x o e z) (a.z x z),fun x vs e=>b.t x vs (a.t x vs e)⟩
theorem Res.Cp{Z Z2:Set}{H H2:Hp}{env:ai}{σ:St}{φ:Nat->Set}{F2 G:Set}(O:Ok Z H env σ φ)(r:Res Z H (cQ φ) Z2 H2 F2 G):oB Z H Z2 H2:=⟨r.z,fun a o e z=>r.k a o e fun⟨i,y⟩=>O.fz i a y z,fun a vs e=>r.k a _ e fun⟨i,y⟩=>(O.fm i a y).gg e⟩
theorem oB.own{Z Z2:Set}{H H2:Hp}(k:oB Z H Z2 H2){d:D}{v:V}(h:Own Z H d v cE):Own Z2 H2 d v cE:=
 Own.step (fun a=>¬Z a/\∀vs,¬H a=some (.tup vs)) k.z (fun a o e n=>by
  by_cases hz:Z a
  ·exact k.k a o e hz
  ·by_cases ht:∃vs,H a=some (.tup vs)
   ·obtain⟨vs,ht⟩:=ht
    rw[e] at ht;cases ht
    exact k.t a vs e
   ·exact absurd ⟨hz,fun vs z=>ht ⟨vs,z⟩⟩ n) (fun a z=>z.1) (fun a vs z=>z.2 vs) d (fun _ z=>z) (fun _ _ z=>z) h
theorem oB.KJ{Z Z2:Set}{H H2:Hp}(k:oB Z H Z2 H2){ds:List D}{vs:List V}(h:ar Z H ds vs cE):ar Z2 H2 ds vs cE:=
 ar.step (fun a=>¬Z a/\∀vs,¬H a=some (.tup vs)) k.z (fun a o e n=>by
  by_cases hz:Z a
  ·exact k.k a o e hz
  ·by_cases ht:∃vs,H a=some (.tup vs)
   ·obtain⟨vs,ht⟩:=ht
    rw[e] at ht;cases ht
    exact k.t a vs e
   ·exact absurd ⟨hz,fun vs z=>ht ⟨vs,z⟩⟩ n) (fun a z=>z.1) (fun a vs z=>z.2 vs) ds (fun _ z=>z) (fun _ _ z=>z) h
structure Walk(J:It)(Z:Set)(H:Hp)(items:List D):Prop where
 stop:∀Z2 H2,oB Z H Z2 H2->J.stop items.length H2
 go:∀i d Z2 H2,items[i]? = some d->oB Z H Z2 H2->J.go i H2/\∀x H3,J.Mp i H2 x H3->cf H2 H3/\Own Z2 H3 d x cE
abbrev UI:=ai->(List D->ai->Prop)->Prop
def s_(wi:TI)(ui:UI):Prop:=∀(σ:St) (env:ai) (Z:Set) (H:Hp) (φ:Nat->Set) (Q:List D->ai->Prop) (R:It->Hp->Prop),Ok Z H env σ φ->ui env Q ->
 (∀items bT Z' H' cJ J,Q items bT->Ok Z' H' bT σ cJ->Res Z H (cQ φ) Z' H' (cQ cJ) cE->Walk J Z' H' items->R J H')->wi σ H R
def pL(ug:UG)(ub:US)(E:cV):List D->ai->Prop
 | [],e=>E.nx e
 |x::xs,e=>ug x e fun e2=>ub {nx:=pL ug ub E xs,rt:=E.rt,bk:=E.nx,ct:=pL ug ub E xs} e2
def eC(ui:UI)(ug:UG)(ub:US):US:=fun E env=>ui env fun items e=>pL ug ub E items e
theorem Res.same{Z:Set}{H H':Hp}{F:Set}(s:cf H H'):Res Z H F Z H' F cE:=⟨fun _ z=>z,fun _ z=>.inl z,fun a o e _=>s a o e,fun _ z=>.inl z,fun _ z=>z.elim,fun _ _ z=>z,fun _ z=>z.elim,fun _ z=>z.elim⟩
theorem Res.UH{Z Z':Set}{H:Hp}{F F':Set}(z1:∀a,Z a->Z' a)(z2:∀a,Z' a->Z a\/cE a)(f:∀a,F' a->F a\/cE a):Res Z H F Z' H F' cE:=⟨z1,fun a z=>(z2 a z).elim .inl fun z=>z.elim,fun _ _ e _=>e,fun a z=>(f a z).imp id fun z=>z.elim,fun _ z=>z.elim,fun _ _ z=>z,fun _ z=>z.elim,fun _ z=>z.elim⟩
theorem xM{I:Nat->Bool}{J:It}{g:TG}{ug:UG}{tb:TS}{ub:US}{σ:St}{aL:ai}{Z1:Set}{H1:Hp}{bI:Nat->Set}{D:cV}{E:Ends}{items:List VS.D}(hg:jD I g ug)(hb:fJ I tb ub)(O1:Ok Z1 H1 aL σ bI)(w:Walk J Z1 H1 items)(q1:pL ug ub D items aL)(k1:Jw I Z1 H1 (cQ bI) σ D E) :
  ∃W:Nat->Nat->St->Hp->Prop,(∃m,W 0 m σ H1)/\∀i m σ H,W i m σ H ->
   (J.stop i H/\E.nx σ H)\/(J.go i H/\∃N:St->Hp->Prop,(∀bU H',N bU H'->∃m',m'<m/\W (i+1) m' bU H')/\∀x H',J.Mp i H x H'->g x σ H' fun uO H2=>tb {E with nx:=N,ct:=N,bk:=E.nx} uO H2):=by
 refine⟨fun i m bU H'=>∃bT Z' cJ,Ok Z' H' bT bU cJ/\Res Z1 H1 (cQ bI) Z' H' (cQ cJ) cE/\Kp I σ bU/\i<=items.length/\m=items.length-i/\pL ug ub D (items.drop i) bT,⟨items.length,aL,Z1,bI,O1,Res.refl,Kp.refl,Nat.zero_le _,rfl,q1⟩,?_⟩
 rintro i m bU H' ⟨bT,Z',cJ,O',r',kp,MM,rfl,q'⟩
 by_cases iM:i<items.length
 ·have hd:items[i]? = some items[i]:=List.getElem?_eq_getElem iM
  obtain⟨Tr,hy⟩:=w.go i items[i] Z' H' hd (r'.Cp O1)
  refine .inr ⟨Tr,fun uO H2=>∃bT Z' cJ,Ok Z' H2 bT uO cJ/\Res Z1 H1 (cQ bI) Z' H2 (cQ cJ) cE/\Kp I σ uO/\i+1<=items.length/\pL ug ub D (items.drop (i+1)) bT,fun uO H2 ⟨bT,Z',cJ,a,b,c,d,e⟩=>⟨items.length-(i+1),by omega,bT,Z',cJ,a,b,c,d,rfl,e⟩,fun x H3 y=>?_⟩
  obtain⟨s3,o3⟩:=hy x H3 y
  rw[List.drop_eq_getElem_cons iM] at q'
  refine hg bU bT Z' H3 cJ _ x cE _ _ (O'.grow s3) o3 (fun _ _ z=>z) (fun _ z=>z.elim) (fun _ z=>z.elim) q' fun T9 WY Z4 FV q4 O4 z4 Ri f4 N9=>?_
  have r4:Res Z1 H1 (cQ bI) Z4 H3 (cQ FV) cE:=(r'.trans (Res.same s3)).trans (Res.UH z4 Ri f4)
  have k4:=k1.after r4 (kp.trans N9)
  exact hb WY T9 Z4 H3 FV _ _ O4 q4 ⟨fun e s Z5 H5 FE p O5 r5 K_=>⟨e,Z5,FE,O5,r4.trans r5,(kp.trans N9).trans K_,iM,p⟩,k4.rt,k4.nx,fun e s Z5 H5 FE p O5 r5 K_=>⟨e,Z5,FE,O5,r4.trans r5,(kp.trans N9).trans K_,iM,p⟩⟩
 ·have e:i=items.length:=by omega
  subst e
  rw[List.drop_length] at q'
  exact .inl ⟨w.stop Z' H' (r'.Cp O1),k1.nx bT bU Z' H' cJ q' O' r' kp⟩
theorem GP{I:Nat->Bool}{wi:TI}{ui:UI}{g:TG}{ug:UG}{tb:TS}{ub:US}(hi:s_ wi ui)(hg:jD I g ug)(hb:fJ I tb ub):fJ I (JX wi g tb) (eC ui ug ub):=by
 intro σ env Z H φ D E O q k
 refine hi σ env Z H φ _ _ O q fun items aL Z1 H1 bI J q1 O1 r1 w=>?_
 exact xM hg hb O1 w q1 (k.after r1 Kp.refl)
def m_(uc:UT)(ub:US):US:=fun E env=>∃W:Nat->ai->Prop,(∃m,W m env)/\∀m e,W m e->uc e fun b e1=>if b=true then ub {nx:=fun e2=>∃m',m'<m/\W m' e2,rt:=E.rt,bk:=E.nx,ct:=fun e2=>∃m',m'<m/\W m' e2} e1 else E.nx e1
theorem Be{I:Nat->Bool}{t:TT}{u:UT}{tb:TS}{ub:US}(hc:gS t u)(hb:fJ I tb ub):fJ I (C1 t tb) (m_ u ub):=by
 intro σ env Z H φ D E O ⟨W,⟨m0,w0⟩,turn⟩ k
 refine⟨fun m bU H'=>∃bT Z' cJ,Ok Z' H' bT bU cJ/\Res Z H (cQ φ) Z' H' (cQ cJ) cE/\Kp I σ bU/\W m bT,⟨m0,env,Z,φ,O,Res.refl,Kp.refl,w0⟩,?_⟩
 rintro m bU H' ⟨bT,Z',cJ,O',r',kp,w⟩
 refine hc bU bT Z' H' cJ _ _ O' (turn m bT w) fun b aL Z1 H1 bI q1 O1 r1=>?_
 have Qz:=r'.trans r1
 cases b with
 |true=>
  rw[if_pos rfl] at q1 ⊢
  have k1:=k.after Qz kp
  refine⟨fun uO H2=>∃m',m'<m/\∃bT Z' cJ,Ok Z' H2 bT uO cJ/\Res Z H (cQ φ) Z' H2 (cQ cJ) cE/\Kp I σ uO/\W m' bT,fun uO H2 h=>h,?_⟩
  exact hb bU aL Z1 H1 bI _ _ O1 q1 ⟨fun e s Z5 H5 FE ⟨m',hm,p⟩ O5 r5 K_=>⟨m',hm,e,Z5,FE,O5,Qz.trans r5,kp.trans K_,p⟩,k1.rt,k1.nx,fun e s Z5 H5 FE ⟨m',hm,p⟩ O5 r5 K_=>⟨m',hm,e,Z5,FE,O5,Qz.trans r5,kp.trans K_,p⟩⟩
 |false=>
  rw[if_neg Bool.false_ne_true] at q1 ⊢
  exact k.nx aL bU Z1 H1 bI q1 O1 Qz kp
end VS
end
section
namespace VS
open PySem L2
section
variable {Z:Set}{H:Hp}{env:ai}{σ:St}{φ:Nat->Set}{a:Addr}{vs:List V}{items:List D}{K:PySem.W.Frag}
theorem Res.rd(O:Ok Z H env σ φ){Z2:Set}{H2:Hp}{F2 G:Set}(r:Res Z H (cQ φ) Z2 H2 F2 G){u:HO}(hz:Z a)(h:Rd H a u):Rd H2 a u:=Rd.up (fun o e=>r.k a o e fun⟨i,z⟩=>O.fz i a z hz) h
theorem Res.Jb(O:Ok Z H env σ φ){Z2:Set}{H2:Hp}{F2 G:Set}(r:Res Z H (cQ φ) Z2 H2 F2 G){ds:List D}{G1:Set}(dj:∀a,cQ φ a->¬G1 a)(h:ar Z H ds vs G1):ar Z2 H2 ds vs G1:=
 ar.step (cQ φ) r.z r.k (fun a ⟨i,z⟩=>O.fz i a z) (fun a vs ⟨i,z⟩=>(O.fm i a z).gg) ds (fun _ z=>z) dj h
theorem tq(hr:Rd H a (.lst vs))(hz:Z a)(hl:ar Z H items vs cE):Walk (Up K a) Z H items where
 stop:=fun Z2 H2 r=>⟨vs,.inl (Rd.up (fun o e=>r.k a o e hz) hr),Nat.le_of_eq hl.length⟩
 go:=fun i d Z2 H2 e r=>by
  have Ou:Rd H2 a (.lst vs):=Rd.up (fun o e=>r.k a o e hz) hr
  obtain⟨v,ev,ho⟩:=(r.KJ hl).get e
  refine⟨⟨vs,v,.inl Ou,ev⟩,fun x H3 ⟨e3,hx⟩=>?_⟩
  subst e3
  have:=hx vs (.inl Ou)
  rw[ev] at this;cases this
  exact⟨fun _ _ e=>e,ho⟩
theorem CC(hr:H a=some (.tup vs))(hl:ar Z H items vs cE):Walk (Uo K a) Z H items:=by
 refine⟨fun Z2 H2 r=>⟨vs,.inl (.inl (r.t _ _ hr)),Nat.le_of_eq hl.length⟩,fun i d Z2 H2 e r=>?_⟩
 obtain⟨v,ev,ho⟩:=(r.KJ hl).get e
 refine⟨⟨vs,v,.inl (.inl (r.t _ _ hr)),ev⟩,fun x H3 ⟨e3,hx⟩=>?_⟩
 subst e3
 have:=hx vs (.inl (.inl (r.t _ _ hr)))
 rw[ev] at this;cases this
 exact⟨fun _ _ e=>e,ho⟩
def ff(lo:Int)(n:Nat):List D:=(List.range n).map fun(i:Nat)=>.int (lo+i)
theorem CD(lo:Int)(n:Nat):Walk (Px lo n) Z H (ff lo n) where
 stop:=fun Z2 H2 r=>by show n<=_;simp[ff]
 go:=fun i d Z2 H2 e r=>by
  simp only[ff,List.getElem?_map,Option.map_eq_some_iff] at e
  obtain⟨j,e1,rfl⟩:=e
  obtain⟨hj,e1⟩:=List.getElem?_eq_some_iff.mp e1
  simp at e1 hj
  subst e1
  refine⟨hj,fun x H3 ⟨e3,hx⟩=>?_⟩
  subst e3 hx
  exact⟨fun _ _ e=>e,a_.mpr rfl⟩
end
def bx(e:ai):Ref->Option (List D)
 | .a8 (.lst _ ds)=>some (d9 ds)
 | .var i=>match e[i]? with
  |some (some (.lst false ds))=>some ds
  |_=>none
 |_=>none
def qZ(e:ai):Ref->Option (List D)
 | .a8 (.tup ds)=>some (d9 ds)
 |_=>none
def dI(f:ai->Ref->Option (List D))(ua:UB):UI:=fun env Q=>ua env fun r e=>∃ds,f e r=some ds/\Q ds e
theorem Bk{K:PySem.W.Frag}{t:TE}{u:UB}(h:aY t u):s_ (Jf K t) (dI bx u):=by
 intro σ env Z H φ Q R O q k
 refine h σ env Z H φ _ _ O q fun r aL v Z1 H1 bI G ⟨ds,e,q1⟩ O1 r1 ok=>?_
 cases r with
 |a8 d=>
  cases d<;>simp only[bx,reduceCtorEq,Option.some.injEq] at e
  subst e
  rename_i o ds _
  have ho:Own Z1 H1 (.lst o ds) v G:=ok
  have hf:=ho.aT
  simp only[aT] at hf
  obtain⟨a,vs,rfl,hr,hz,hl⟩:=j3.mp hf
  have O2:=O1.Mo (G:=G) (fun a z y=>r1.d a y z) fun a z=>(r1.gm a z).ne
  exact⟨a,rfl,⟨vs,.inl hr⟩,k _ aL _ H1 bI _ q1 O2 ⟨fun a z=>.inl (r1.z a z),fun a z=>z.elim (r1.zn a) fun z=>.inr (r1.g a z),r1.k,r1.f,fun _ z=>z.elim,fun _ _ z=>z,fun _ z=>z.elim,fun _ z=>z.elim⟩ (tq hr hz hl)⟩
 |var i=>
  simp only[bx] at e
  split at e<;>simp only[reduceCtorEq,Option.some.injEq] at e
  subst e
  rename_i ds he
  obtain⟨v',hv,ho⟩:=O1.own i _ he
  have ok:σ[i]? = some (some v):=ok
  rw[hv] at ok;cases ok
  obtain⟨a,vs,rfl,hr,hz,hl⟩:=j3.mp ho
  exact⟨a,rfl,⟨vs,.inl hr⟩,k _ aL _ H1 bI _ q1 O1 r1.drop (tq hr hz hl)⟩
theorem Dh{K:PySem.W.Frag}{t:TE}{u:UB}(h:aY t u):s_ (Og K t) (dI qZ u):=by
 intro σ env Z H φ Q R O q k
 refine h σ env Z H φ _ _ O q fun r aL v Z1 H1 bI G ⟨ds,e,q1⟩ O1 r1 ok=>?_
 cases r with
 |a8 d=>
  cases d<;>simp only[qZ,reduceCtorEq,Option.some.injEq] at e
  subst e
  rename_i ds _
  have ho:Own Z1 H1 (.tup ds) v G:=ok
  have hf:=ho.aT
  simp only[aT] at hf
  obtain⟨a,vs,rfl,hr,hl⟩:=c7.mp hf
  have O2:=O1.Mo (G:=G) (fun a z y=>r1.d a y z) fun a z=>(r1.gm a z).ne
  exact⟨a,rfl,⟨vs,.inl (.inl hr)⟩,k _ aL _ H1 bI _ q1 O2 ⟨fun a z=>.inl (r1.z a z),fun a z=>z.elim (r1.zn a) fun z=>.inr (r1.g a z),r1.k,r1.f,fun _ z=>z.elim,fun _ _ z=>z,fun _ z=>z.elim,fun _ z=>z.elim⟩ (CC hr hl)⟩
 |var i=>simp[qZ] at e
def fw(ua:UA):UI:=fun env Q=>ua env fun rs e=>∃n:Int,rs=[.a8 (.int n)]/\-(2 ^ 62)<=n/\n<2 ^ 62/\Q (ff 0 n.toNat) e
theorem C'{t:TA}{u:UA}(h:oz t u):s_ (Je t) (fw u):=by
 intro σ env Z H φ Q R O q k
 refine h σ env Z H φ _ _ O q fun rs aL vs Z1 H1 bI G ⟨n,e,l,hh,q1⟩ O1 r1 ok=>?_
 subst e
 obtain⟨v,ws,G1,G2,rfl,h1,h2,_⟩:=ok
 cases (show ws=[] from h2)
 refine⟨n,by rw[a_.mp (show Own Z1 H1 (.int n) v G1 from h1)],l,hh,k _ aL Z1 H1 bI _ q1 O1 r1.drop (CD 0 _)⟩
abbrev UX:=ai->D->Prop
def oy(t:TE)(u:UX):Prop:=∀(σ:St) (env:ai) (Z:Set) (H:Hp) (φ:Nat->Set) (d:D) (R:VK),Ok Z H env σ φ->u env d->(∀v,Own Z H d v cE->R v H)->t σ H R
def lV(i:Nat):UX:=fun env d=>env[i]? = some (some d)/\bare d=true
def xC(c:D):UX:=fun _ d=>d=c
theorem Gz{i:Nat}:oy (jQ i) (lV i):=fun σ env Z H φ d R O ⟨e,hb⟩ k=>let ⟨v,hv,h⟩:=O.own i d e;⟨v,hv,k v (h.bare d hb)⟩
theorem R0{v:V}(h:(match v with | .vU _=>false | .FN _=>false | .ty _=>false|_=>true)=true:=by rfl):oy (tC v) (xC (QF v)):=fun σ env Z H φ d R O e k=>by subst e;exact k v (Ac h)
section
variable {Z:Set}{H H':Hp}{env:ai}{σ:St}{φ:Nat->Set}{i:Nat}{d d':D}{v:V}{G:Set}{W:Set}
theorem Ok.write(O:Ok Z H env σ φ)(hi:env[i]? = some (some d))(hv:σ[i]? = some (some v))(hW:∀a,W a->φ i a)(k:∀a,¬W a->H' a=H a)(hm:∀a,W a->lU (H' a))(g1:∀a,G a->¬cQ φ a)(g2:∀a,G a->¬Z a)(g3:∀a,G a->lU (H a))(ho:Own Z H' d' v (fun a=>φ i a\/G a)) :
  Ok Z H' (env.set i (some d')) σ (ip φ i fun a=>φ i a\/G a):=by
 have hl:i<env.length:=(List.getElem?_eq_some_iff.mp hi).1
 have im:∀a,lU (H a)->lU (H' a):=fun a h=>by
  by_cases hw:W a
  ·exact hm a hw
  ·rw[k a hw];exact h
 refine⟨fun j e he=>?_,fun j k' a h1 h2=>?_,fun j a h=>?_,fun j a h=>?_,fun a z=>?_,by rw[List.length_set];exact O.len⟩
 ·by_cases hj:i=j
  ·subst hj
   rw[List.getElem?_set_self hl] at he
   cases he
   exact⟨v,hv,by unfold ip;exact ho.mono fun a z=>by rw[if_pos rfl];exact z⟩
  ·rw[List.getElem?_set_ne hj] at he
   obtain⟨w,hw,h⟩:=O.own j e he
   refine⟨w,hw,Own.step W (fun _ z=>z) (fun a o q nw=>by rw[k a nw];exact q) (fun a z=>O.fz i a (hW a z)) (fun a vs z=>(O.fm i a (hW a z)).gg) e (fun a z=>by unfold ip;rw[if_neg (Ne.symm hj)];exact z) (fun a z y=>hj (O.dj i j a (hW a z) y)) h⟩
 ·unfold ip at h1 h2
  by_cases hj:j=i<;>by_cases hk:k'=i
  ·rw[hj,hk]
  ·rw[if_pos hj] at h1;rw[if_neg hk] at h2
   rcases h1 with h1|h1
   ·exact absurd (O.dj i k' a h1 h2).symm hk
   ·exact absurd ⟨k',h2⟩ (g1 a h1)
  ·rw[if_neg hj] at h1;rw[if_pos hk] at h2
   rcases h2 with h2|h2
   ·exact absurd (O.dj j i a h1 h2) hj
   ·exact absurd ⟨j,h1⟩ (g1 a h2)
  ·rw[if_neg hj] at h1;rw[if_neg hk] at h2;exact O.dj j k' a h1 h2
 ·unfold ip at h
  by_cases hj:j=i
  ·rw[if_pos hj] at h;exact h.elim (O.fz i a) (g2 a)
  ·rw[if_neg hj] at h;exact O.fz j a h
 ·unfold ip at h
  by_cases hj:j=i
  ·rw[if_pos hj] at h;exact im a (h.elim (O.fm i a) (g3 a))
  ·rw[if_neg hj] at h;exact im a (O.fm j a h)
 ·rw[k a fun w=>O.fz i a (hW a w) z];exact O.zh a z
theorem Res.write{Z0:Set}{H0:Hp}{F0 G1:Set}(r:Res Z0 H0 F0 Z H (cQ φ) G1)(hW:∀a,W a->φ i a)(k:∀a,¬W a->H' a=H a)(hG:∀a,G a->G1 a):Res Z0 H0 F0 Z H' (cQ (ip φ i fun a=>φ i a\/G a)) cE:=by
 refine⟨r.z,r.zn,fun a o e n=>?_,fun a z=>?_,fun _ z=>z.elim,fun _ _ z=>z,fun _ z=>z.elim,fun _ z=>z.elim⟩
 ·rw[k a fun w=>?_]
  ·exact r.k a o e n
  ·rcases r.f a ⟨i,hW a w⟩ with z|z
   ·exact n z
   ·rw[z] at e;cases e
 ·rcases kE a z with z|z|z
  ·exact r.f a z
  ·exact r.f a ⟨i,z⟩
  ·exact r.g a (hG a z)
theorem i6:∀{ds:List D}{vs:List V}{F G:Set}{d:D}{v:V},ar Z H ds vs F->Own Z H d v G->(∀a,F a->¬G a)->ar Z H (ds++[d]) (vs++[v]) (fun a=>F a\/G a)
 | [],vs,F,G,d,v,h,h2,dj=>by
  rw[ba.mp h]
  exact aF.mpr ⟨v,[],G,cE,rfl,h2,ba.mpr rfl,fun _ z=>.inr z,fun _ z=>z.elim,fun _ _ z=>z⟩
 |e::ds,vs,F,G,d,v,h,h2,dj=>by
  obtain⟨w,r,F1,F2,rfl,h1,h3,s1,s2,Fn⟩:=aF.mp h
  exact aF.mpr ⟨w,r++[v],F1,fun a=>F2 a\/G a,rfl,h1,i6 h3 h2 fun a z=>dj a (s2 a z),fun a z=>.inl (s1 a z),fun a z=>z.imp (s2 a) id,fun a z y=>y.elim (Fn a z) fun y=>dj a (s1 a z) y⟩
end
def cB(i:Nat)(ua:UA):US:=fun E env=>(∃ds,env[i]? = some (some (.lst true ds)))/\ua env fun rs e=>∃d ds,rs=[.a8 d]/\e[i]? = some (some (.lst true ds))/\ds.length<=1000000/\E.nx (e.set i (some (.lst true (ds++[d]))))
theorem yI{I:Nat->Bool}{K:PySem.W.Frag}{i:Nat}{t:TA}{u:UA}(h:oz t u):fJ I (tM (Nx K "list" qz (jQ i) t)) (cB i u):=by
 intro σ env Z H φ DE E O ⟨⟨Zv,e0⟩,q⟩ k
 obtain⟨v,hv,ho⟩:=O.own i _ e0
 obtain⟨a,Qp,rfl,S6,_,_⟩:=bD.mp ho
 refine⟨_,hv,.inl ⟨rfl,Qp,je.of S6⟩,h σ env Z H φ _ _ O q fun rs aL vs Z1 H1 bI G1 ⟨d,ds,e1,e2,hz,q1⟩ O1 r1 ok=>?_⟩
 subst e1
 obtain⟨w,ws,Ga,Gb,rfl,h1,h2,sa,_,_⟩:=ok
 cases (show ws=[] from h2)
 obtain⟨v',zg,gh⟩:=O1.own i _ e2
 rw[hv] at zg;cases zg
 obtain⟨a',lR,ea,hr,ha,hl⟩:=bD.mp gh
 cases ea
 have h1:Own Z1 H1 d w Ga:=h1
 have E1:∀b,cQ bI b->¬Ga b:=fun b z y=>r1.d b z (sa b y)
 refine⟨a,lR,w,rfl,rfl,hr,by rw[hl.length];exact hz,fun H3 f7 h3=>?_⟩
 have na:¬Ga a:=E1 a ⟨i,ha⟩
 have st:∀{d:D}{v:V}{F:Set},(∀b,F b->b≠a)->Own Z1 H1 d v F->Own Z1 H3 d v F:=fun{d v F} hF h=>Own.step (fun b=>b=a) (fun _ z=>z) (fun b o e n=>by rw[f7 b n];exact e) (fun b z=>by rw[z];exact O1.fz i a ha) (fun b vs z=>by rw[z];exact(O1.fm i a ha).gg) d (fun _ z=>z) (fun b z y=>hF b y z) h
 have GB:∀{d:List D}{v:List V}{F:Set},(∀b,F b->b≠a)->ar Z1 H1 d v F->ar Z1 H3 d v F:=fun{d v F} hF h=>ar.step (fun b=>b=a) (fun _ z=>z) (fun b o e n=>by rw[f7 b n];exact e) (fun b z=>by rw[z];exact O1.fz i a ha) (fun b vs z=>by rw[z];exact(O1.fm i a ha).gg) d (fun _ z=>z) (fun b z y=>hF b y z) h
 have hW:∀b,(fun b=>b=a) b->bI i b:=fun b z=>by rw[z];exact ha
 have hk:∀b,¬(fun b=>b=a) b->H3 b=H1 b:=fun b n=>f7 b n
 refine k.nx _ σ Z1 H3 _ q1 (O1.write (W:=fun b=>b=a) (G:=Ga) (d':=.lst true (ds++[d])) e2 hv hW hk (fun b z=>by rw[z,h3];exact trivial) (fun b z y=>E1 b y z) (fun b z=>r1.gz b (sa b z)) (fun b z=>r1.gm b (sa b z)) (bD.mpr ⟨a,_,rfl,h3,.inl ha,?_⟩)) (r1.write hW hk sa) Kp.refl
 refine(i6 (GB (fun b z=>z.2) hl) (st (fun b z y=>na (by rw[<-y];exact z)) h1) fun b z y=>E1 b ⟨i,z.1⟩ y).mono fun b z=>?_
 rcases z with z|z
 ·exact⟨.inl z.1,z.2⟩
 ·exact⟨.inr z,fun y=>na (by rw[<-y];exact z)⟩
end VS
end
section
namespace VS
open PySem L2
abbrev fH:=List D->(D->ai->Prop)->Prop
def gb(ms:List Bool)(m:fH):Sp:=fun vs H Q _=>vs.length=ms.length/\∃(ds:List D) (Z:Set) (φ:Nat->Set) (P:D->ai->Prop),ds.length=ms.length/\Ok Z H (ds.map some) (vs.map some) φ/\(∀i a,φ i a->ms[i]? = some true)/\m ds P /\
 ∀d es v Z' H' cJ G,P d es->es.length=ms.length->Ok Z' H' es (vs.map some) cJ->Res Z H (cQ φ) Z' H' (cQ cJ) G->(∀i a,cJ i a->ms[i]? = some true)->Own Z' H' d v G->Q v H'
def fin(ms:List Bool)(env:ai):ai:=(List.range ms.length).map fun i=>if ms[i]? = some true then env[i]?.join else none
theorem vL{ms:List Bool}{env:ai}:(fin ms env).length=ms.length:=by simp[fin]
theorem Ik{ms:List Bool}{env:ai}{i:Nat}{d:D}(h:(fin ms env)[i]? = some (some d)):ms[i]? = some true/\env[i]? = some (some d)/\i<ms.length:=by
 simp only[fin,List.getElem?_map,Option.map_eq_some_iff] at h
 obtain⟨j,h1,h2⟩:=h
 obtain⟨hj,e⟩:=List.getElem?_eq_some_iff.mp h1
 simp at e hj
 subst e
 by_cases hm:ms[i]? = some true
 ·rw[if_pos hm] at h2
  refine⟨hm,?_,hj⟩
  cases q:env[i]? with
  |none=>rw[q] at h2;cases h2
  |some o=>rw[q] at h2;cases (show o=some d from h2);rfl
 ·rw[if_neg hm] at h2;cases h2
def bF(ms:List Bool)(P:D->ai->Prop):cV:=⟨fun e=>P .bJ (fin ms e),fun d e=>P d (fin ms e),fun _=>False,fun _=>False⟩
def ay(n:Nat)(ds:List D):ai:=ds.map some++List.replicate n none
theorem Ir{ms:List Bool}{m:fH}{I:Nat->Bool}{t:TS}{u:US}{N:List Str}(h:fJ I t u)(hI:∀i:Nat,ms[i]? = some true->I i=true)(hN:ms.length<=N.length)(hm:∀ds P,ds.length=ms.length->m ds P->u (bF ms P) (ay (N.length-ms.length) ds))
  {vs:List V}{H:Hp}{Q:VK}{E:XK} (hs:gb ms m vs H Q E):t {nx:=fun _ H'=>Q .bJ H',rt:=Q} (L2.start N vs) H:=by
 obtain⟨lv,ds,Z,φ,P,ld,O,ZV,hp,k⟩:=hs
 have O0:Ok Z H (ay (N.length-ms.length) ds) (L2.start N vs) φ:=by
  refine⟨fun i d e=>?_,O.dj,O.fz,O.fm,O.zh,?_⟩
  ·have hi:i<ds.length:=by
    refine Nat.lt_of_not_le fun hi=>?_
    unfold ay at e
    rw[List.getElem?_append_right (by simpa using hi),List.getElem?_replicate] at e
    split at e<;>cases e
   unfold ay at e
   rw[List.getElem?_append_left (by simpa using hi)] at e
   obtain⟨v,hv,ho⟩:=O.own i d e
   refine⟨v,?_,ho⟩
   unfold L2.start
   rw[List.getElem?_append_left (by simp;omega)]
   exact hv
  ·simp[ay,L2.start];omega
 have back:∀bT bU Z' H' cJ,Ok Z' H' bT bU cJ->Kp I (L2.start N vs) bU->∃uN,Ok Z' H' (fin ms bT) (vs.map some) uN/\(∀i a,uN i a->cJ i a)/\(∀i a,uN i a->ms[i]? = some true):=fun bT bU Z' H' cJ O' kp=>by
  refine⟨fun i a=>cJ i a/\ms[i]? = some true,⟨fun i d e=>?_,fun i j a h1 h2=>O'.dj i j a h1.1 h2.1,fun i a h1=>O'.fz i a h1.1,fun i a h1=>O'.fm i a h1.1,O'.zh,by rw[vL,List.length_map,lv]⟩,fun i a z=>z.1,fun i a z=>z.2⟩
  obtain⟨h1,h2,h3⟩:=Ik e
  obtain⟨v,hv,ho⟩:=O'.own i d h2
  refine⟨v,?_,ho.mono fun a z=>⟨z,h1⟩⟩
  rw[kp i (hI i h1)] at hv
  unfold L2.start at hv
  rw[List.getElem?_append_left (by simp;omega)] at hv
  exact hv
 refine h _ _ Z H φ (bF ms P) _ O0 (hm ds P ld hp) ⟨fun bT bU Z' H' cJ p O' r kp=>?_,fun d bT v bU Z' H' cJ G p O' r ho kp=>?_,fun _ _ _ _ _ p _ _ _=>p.elim,fun _ _ _ _ _ p _ _ _=>p.elim⟩
 ·obtain⟨uN,Ul,s,sm⟩:=back bT bU Z' H' cJ O' kp
  exact k .bJ _ .bJ Z' H' uN cE p vL Ul ⟨r.z,r.zn,r.k,fun a ⟨i,z⟩=>r.f a ⟨i,s i a z⟩,fun _ z=>z.elim,fun _ _ z=>z,fun _ z=>z.elim,fun _ z=>z.elim⟩ sm (kG.mpr rfl)
 ·obtain⟨uN,Ul,s,sm⟩:=back bT bU Z' H' cJ O' kp
  exact k d _ v Z' H' uN G p vL Ul ⟨r.z,r.zn,r.k,fun a ⟨i,z⟩=>r.f a ⟨i,s i a z⟩,r.g,fun a ⟨i,z⟩=>r.d a ⟨i,s i a z⟩,r.gz,r.gm⟩ sm ho
def pass:List Bool->ai->List Ref->Option (List D)
 | [],_,[]=>some []
 |false::ms,e,r::rs=>match r.at e,pass ms e rs with
  |some d,some ds=>some (aT d::ds)
  |_,_=>none
 |true::ms,e,.var i::rs=>match e[i]?.join,pass ms e rs with
  |some d,some ds=>some (d::ds)
  |_,_=>none
 |_,_,_=>none
def cx:List Bool->List Ref->List Nat
 |true::ms,.var i::rs=>i::cx ms rs
 |_::ms,_::rs=>cx ms rs
 |_,_=>[]
def apart(io:List Nat):List Bool->List Ref->Bool
 |false::ms,.var i::rs=>!io.contains i&&apart io ms rs
 |_::ms,_::rs=>apart io ms rs
 |_,_=>true
def fg:List Bool->List Ref->ai->ai->ai
 |true::ms,.var i::rs,o::es,e=>fg ms rs es (e.set i o)
 |_::ms,_::rs,_::es,e=>fg ms rs es e
 |_,_,_,e=>e
def sU:ai->Bool
 | []=>true
 |none::r=>sU r
 |some d::r=>eJ d&&sU r
def iU:List Nat->Bool
 | []=>true
 |i::r=>!r.contains i&&iU r
def aA(ms:List Bool)(m:fH)(ua:UA):UB:=fun env Q=>ua env fun rs e=>∃ds,pass ms e rs=some ds/\iU (cx ms rs)=true/\apart (cx ms rs) ms rs=true/\m ds fun d es=>eJ d=true/\sU es=true/\Q (.a8 d) (fg ms rs es e)
theorem qy{Z:Set}{H:Hp}{σ:St}:∀{rs:List Ref}{vs:List V}{G:Set},rX Z H σ rs vs G->vs.length=rs.length/\∀(k:Nat) (r:Ref),rs[k]? = some r->∃v Gk,vs[k]? = some v/\mY Z H σ r v Gk/\∀a,Gk a->G a
 | [],vs,G,h=>by
  cases (show vs=[] from h)
  exact⟨rfl,fun k r e=>by simp at e⟩
 |r::rs,vs,G,h=>by
  obtain⟨v,ws,G1,G2,rfl,h1,h2,s1,s2,_⟩:=h
  obtain⟨l,ih⟩:=qy h2
  refine⟨by simp[l],fun k r' e=>?_⟩
  cases k with
  |zero=>cases (show some r=some r' from e);exact⟨v,G1,rfl,h1,s1⟩
  |succ k=>
   obtain⟨v',Gk,e1,e2,e3⟩:=ih k r' (by simpa using e)
   exact⟨v',Gk,by simpa using e1,e2,fun a z=>s2 a (e3 a z)⟩
theorem qJ{e:ai}:∀{ms:List Bool}{rs:List Ref}{ds:List D},pass ms e rs=some ds->ds.length=ms.length/\rs.length=ms.length/\∀(k:Nat) (d:D),ds[k]? = some d->(ms[k]? = some false/\∃(r:Ref) (d0:D),rs[k]? = some r/\r.at e=some d0/\d=aT d0)\/(ms[k]? = some true/\∃i:Nat,rs[k]? = some (Ref.var i)/\e[i]? = some (some d))
 | [],[],ds,h=>by
  cases (show some []=some ds from h)
  exact⟨rfl,rfl,fun k d e=>by simp at e⟩
 | [],_::_,ds,h=>by simp[pass] at h
 |false::ms,[],ds,h=>by simp[pass] at h
 |false::ms,r::rs,ds,h=>by
  unfold pass at h
  cases e1:r.at e with
  |none=>simp[e1] at h
  |some d0=>
   cases e2:pass ms e rs with
   |none=>simp[e1,e2] at h
   |some Ay=>
    simp only[e1,e2,Option.some.injEq] at h
    subst h
    obtain⟨l1,l2,ih⟩:=qJ e2
    refine⟨by simp[l1],by simp[l2],fun k d q=>?_⟩
    cases k with
    |zero=>cases (show some (aT d0)=some d from q);exact .inl ⟨rfl,r,d0,rfl,e1,rfl⟩
    |succ k=>exact ih k d (by simpa using q)
 |true::ms,[],ds,h=>by simp[pass] at h
 |true::ms,.a8 _::rs,ds,h=>by simp[pass] at h
 |true::ms,.var i::rs,ds,h=>by
  unfold pass at h
  cases e1:e[i]?.join with
  |none=>simp[e1] at h
  |some d0=>
   cases e2:pass ms e rs with
   |none=>simp[e1,e2] at h
   |some Ay=>
    simp only[e1,e2,Option.some.injEq] at h
    subst h
    obtain⟨l1,l2,ih⟩:=qJ e2
    refine⟨by simp[l1],by simp[l2],fun k d q=>?_⟩
    cases k with
    |zero=>
     cases (show some d0=some d from q)
     refine .inr ⟨rfl,i,rfl,?_⟩
     cases q:e[i]? with
     |none=>rw[q] at e1;cases e1
     |some o=>rw[q] at e1;cases (show o=some d0 from e1);rfl
    |succ k=>exact ih k d (by simpa using q)
theorem gw{i:Nat}:∀{ms:List Bool}{rs:List Ref},i∈cx ms rs↔∃k:Nat,ms[k]? = some true/\rs[k]? = some (.var i)
 | [],rs=>by simp[cx]
 |m::ms,[]=>by cases m<;>simp[cx]
 |m::ms,r::rs=>by
  have ih:=gw (i:=i) (ms:=ms) (rs:=rs)
  have key:(∃k:Nat,(m::ms)[k]? = some true/\(r::rs)[k]? = some (.var i))↔(m=true/\r=.var i)\/∃k:Nat,ms[k]? = some true/\rs[k]? = some (.var i):=by
   constructor
   ·rintro⟨k,h1,h2⟩
    cases k with
    |zero=>simp at h1 h2;exact .inl ⟨h1,h2⟩
    |succ k=>exact .inr ⟨k,by simpa using h1,by simpa using h2⟩
   ·rintro(⟨h1,h2⟩|⟨k,h1,h2⟩)
    ·exact⟨0,by simp[h1],by simp[h2]⟩
    ·exact⟨k+1,by simpa using h1,by simpa using h2⟩
  rw[key,<-ih]
  cases m<;>cases r<;>simp[cx]
  rename_i j
  exact⟨fun h=>h.imp Eq.symm id,fun h=>h.imp Eq.symm id⟩
theorem rf{i:Nat}:∀{ms:List Bool}{rs:List Ref}{k k':Nat},iU (cx ms rs)=true->ms[k]? = some true->rs[k]? = some (.var i)->ms[k']? = some true->rs[k']? = some (.var i)->k=k'
 | [],rs,k,k',h,a,b,c,d=>by simp at a
 |m::ms,[],k,k',h,a,b,c,d=>by simp at b
 |m::ms,r::rs,k,k',h,a,b,c,d=>by
  have tl:iU (cx ms rs)=true/\(m=true->∀j,r=.var j->j∉cx ms rs):=by
   cases m with
   |false=>exact⟨by cases r<;>simpa[cx] using h,fun z=>by cases z⟩
   |true=>
    cases r with
    |a8 x=>exact⟨by simpa[cx] using h,fun _ j z=>by cases z⟩
    |var x=>
     simp only[cx,iU,Bool.and_eq_true,Bool.not_eq_true',List.contains_eq_mem,decide_eq_false_iff_not] at h
     exact⟨h.2,fun _ j z=>by cases z;exact h.1⟩
  cases k with
  |zero=>
   cases k' with
   |zero=>rfl
   |succ k'=>
    simp at a b
    exact absurd (gw.mpr ⟨k',by simpa using c,by simpa using d⟩) (tl.2 a i b)
  |succ k=>
   cases k' with
   |zero=>
    simp at c d
    exact absurd (gw.mpr ⟨k,by simpa using a,by simpa using b⟩) (tl.2 c i d)
   |succ k'=>rw[rf (ms:=ms) (rs:=rs) (k:=k) (k':=k') tl.1 (by simpa using a) (by simpa using b) (by simpa using c) (by simpa using d)]
theorem uL{io:List Nat}{j:Nat}:∀{ms:List Bool}{rs:List Ref}{k:Nat},apart io ms rs=true->ms[k]? = some false->rs[k]? = some (.var j)->j∉io
 | [],rs,k,h,a,b=>by simp at a
 |m::ms,[],k,h,a,b=>by simp at b
 |m::ms,r::rs,k,h,a,b=>by
  have tl:apart io ms rs=true/\(m=false->∀j,r=.var j->j∉io):=by
   cases m with
   |true=>exact⟨by cases r<;>simpa[apart] using h,fun z=>by cases z⟩
   |false=>
    cases r with
    |a8 x=>exact⟨by simpa[apart] using h,fun _ j z=>by cases z⟩
    |var x=>
     simp only[apart,Bool.and_eq_true,Bool.not_eq_true',List.contains_eq_mem,decide_eq_false_iff_not] at h
     exact⟨h.2,fun _ j z=>by cases z;exact h.1⟩
  cases k with
  |zero=>simp at a b;exact tl.2 a j b
  |succ k=>exact uL (ms:=ms) (rs:=rs) (k:=k) tl.1 (by simpa using a) (by simpa using b)
theorem ow:∀{ms:List Bool}{rs:List Ref}{es e:ai},(fg ms rs es e).length=e.length
 | [],_,_,_=>by simp[fg]
 |m::ms,[],es,e=>by cases m<;>simp[fg]
 |m::ms,r::rs,[],e=>by cases m<;>cases r<;>simp[fg]
 |m::ms,r::rs,o::es,e=>by cases m<;>cases r<;>simp[fg,ow]
theorem jb{i:Nat}:∀{ms:List Bool}{rs:List Ref}{es e:ai},i∉cx ms rs->(fg ms rs es e)[i]? = e[i]?
 | [],_,_,_,_=>by simp[fg]
 |m::ms,[],es,e,_=>by cases m<;>simp[fg]
 |m::ms,r::rs,[],e,_=>by cases m<;>cases r<;>simp[fg]
 |m::ms,r::rs,o::es,e,h=>by
  cases m with
  |false=>cases r<;>(simp only[fg,cx] at h ⊢;exact jb h)
  |true=>
   cases r with
   |a8 x=>simp only[fg,cx] at h ⊢;exact jb h
   |var x=>
    simp only[fg,cx,List.mem_cons,not_or] at h ⊢
    rw[jb h.2,List.getElem?_set_ne (Ne.symm h.1)]
theorem mK{i:Nat}:∀{ms:List Bool}{rs:List Ref}{es e:ai}{k:Nat},iU (cx ms rs)=true->ms[k]? = some true->rs[k]? = some (.var i)->es.length=ms.length->i<e.length->(fg ms rs es e)[i]? = es[k]?
 | [],rs,es,e,k,h,a,b,l,hi=>by simp at a
 |m::ms,[],es,e,k,h,a,b,l,hi=>by simp at b
 |m::ms,r::rs,[],e,k,h,a,b,l,hi=>by simp at l
 |m::ms,r::rs,o::es,e,0,h,a,b,l,hi=>by
  simp at a b
  subst a b
  simp only[cx,iU,Bool.and_eq_true,Bool.not_eq_true',List.contains_eq_mem,decide_eq_false_iff_not] at h
  simp only[fg]
  rw[jb h.1,List.getElem?_set_self hi]
  rfl
 |m::ms,r::rs,o::es,e,k+1,h,a,b,l,hi=>by
  have tl:iU (cx ms rs)=true:=by
   cases m with
   |false=>cases r<;>simpa[cx] using h
   |true=>
    cases r with
    |a8 x=>simpa[cx] using h
    |var x=>simp only[cx,iU,Bool.and_eq_true] at h;exact h.2
  have a':ms[k]? = some true:=by simpa using a
  have b':rs[k]? = some (.var i):=by simpa using b
  have l':es.length=ms.length:=by simpa using l
  have e0:(o::es)[k+1]? = es[k]?:=by simp
  rw[e0]
  cases m with
  |false=>cases r<;>(simp only[fg];exact mK tl a' b' l' hi)
  |true=>
   cases r with
   |a8 x=>simp only[fg];exact mK tl a' b' l' hi
   |var x=>simp only[fg];exact mK tl a' b' l' (by rw[List.length_set];exact hi)
theorem xp:∀{es:ai}{k:Nat}{d:D},sU es=true->es[k]? = some (some d)->eJ d=true
 | [],k,d,h,e=>by simp at e
 |o::es,0,d,h,e=>by
  cases (show some o=some (some d) from e)
  simp only[sU,Bool.and_eq_true] at h
  exact h.1
 |o::es,k+1,d,h,e=>by
  refine xp (es:=es) (k:=k) ?_ (by simpa using e)
  cases o with
  |none=>simpa[sU] using h
  |some x=>simp only[sU,Bool.and_eq_true] at h;exact h.2
end VS
end
section
namespace VS
open PySem L2
theorem mx{α:Type}{l:List α}{i:Nat}{o:Option α}(h:(l.map some)[i]? = some o):∃x,o=some x/\l[i]? = some x:=by
 rw[List.getElem?_map] at h
 cases e:l[i]? with
 |none=>rw[e] at h;cases h
 |some x=>rw[e] at h;exact⟨x,(Option.some.inj h).symm,rfl⟩
theorem wK{ms:List Bool}{m:fH}{t:TA}{u:UA}(h:oz t u):aY (tN (gb ms m) [] E0 t) (aA ms m u):=by
 intro σ env Z H φ Q R O q k
 refine h σ env Z H φ _ _ O q fun rs aL vs Z1 H1 bI G1 ⟨ds,ES,zj,Y3,q1⟩ O1 r1 ok=>?_
 rw[List.append_nil]
 obtain⟨lv,refs⟩:=qy ok
 obtain⟨l1,l2,ps⟩:=qJ ES
 let io:=cx ms rs
 let Fc:Set:=fun a=>∃i,i∈io/\bI i a
 let Zc:Set:=fun a=>H1 a≠none/\¬Fc a
 let Jz:Nat->Set:=fun j a=>ms[j]? = some true/\∃i,rs[j]? = some (.var i)/\bI i a
 have Rj:∀a,Z1 a->Zc a:=fun a z=>⟨O1.zh a z,fun⟨i,_,y⟩=>O1.fz i a y z⟩
 have eF:∀a,cQ Jz a↔Fc a:=fun a=>⟨fun⟨j,h1,i,h2,h3⟩=>⟨i,gw.mpr ⟨j,h1,h2⟩,h3⟩,fun⟨i,hi,h3⟩=>let ⟨j,h1,h2⟩:=gw.mp hi;⟨j,h1,i,h2,h3⟩⟩
 have Rh:∀a,Fc a->cQ bI a:=fun a ⟨i,_,z⟩=>⟨i,z⟩
 have Oc:Ok Zc H1 (ds.map some) (vs.map some) Jz:=by
  refine⟨fun j d e=>?_,fun j j' a ⟨h1,i,h2,h3⟩ ⟨T3,i',T1,TZ⟩=>?_,fun j a h z=>z.2 ((eF a).mp ⟨j,h⟩),fun j a ⟨_,i,_,z⟩=>O1.fm i a z,fun a z=>z.1,by simp[l1,l2,lv]⟩
  ·obtain⟨x,ex,e⟩:=mx e
   cases ex
   rcases ps j d e with⟨hm,r,d0,hr,lT,rfl⟩|⟨hm,i,hr,he⟩
   ·obtain⟨v,Gk,hv,ho,hs⟩:=refs j r hr
    refine⟨v,by rw[List.getElem?_map,hv];rfl,?_⟩
    cases r with
    |a8 d1=>
     obtain rfl:d1=d0:=Option.some.inj lT
     have ho:Own Z1 H1 d1 v Gk:=ho
     exact(ho.aT.ig fun a z=>z.elim (Rj a) fun z=>⟨(r1.gm a (hs a z)).ne,fun y=>r1.d a (Rh a y) (hs a z)⟩).mono fun _ z=>z.elim
    |var i=>
     have lT:aL[i]?.join=some d0:=lT
     have he:aL[i]? = some (some d0):=by
      cases q:aL[i]? with
      |none=>rw[q] at lT;cases lT
      |some o=>rw[q] at lT;cases (show o=some d0 from lT);rfl
     obtain⟨v',zg,gh⟩:=O1.own i d0 he
     have ho:σ[i]? = some (some v):=ho
     rw[zg] at ho;cases ho
     have XF:=uL Y3 hm hr
     exact(gh.aT.ig fun a z=>z.elim (Rj a) fun z=>⟨(O1.fm i a z).ne,fun⟨i',MM,y⟩=>XF (by rw[O1.dj i i' a z y];exact MM)⟩).mono fun _ z=>z.elim
   ·obtain⟨v,Gk,hv,ho,hs⟩:=refs j _ hr
    refine⟨v,by rw[List.getElem?_map,hv];rfl,?_⟩
    obtain⟨v',zg,gh⟩:=O1.own i d he
    have ho:σ[i]? = some (some v):=ho
    rw[zg] at ho;cases ho
    exact(gh.ig Rj).mono fun a z=>⟨hm,i,hr,z⟩
  ·have e:=O1.dj i i' a h3 TZ
   subst e
   exact rf zj h1 h2 T3 T1
 refine⟨by rw[lv,l2],ds,Zc,Jz,_,l1,Oc,fun j a ⟨z,_⟩=>z,q1,?_⟩
 rintro d es v Ph H' Jy G ⟨nf,XG,q2⟩ Ve Pp rc sm ho
 have Qy:∀a,cQ Jy a->Fc a\/H1 a=none:=fun a z=>(rc.f a z).imp (eF a).mp id
 have R6:∀a,G a->Fc a\/H1 a=none:=fun a z=>(rc.g a z).imp (eF a).mp id
 have Qx:∀a o,H1 a=some o->¬Fc a->H' a=some o:=fun a o e n=>rc.k a o e fun z=>n ((eF a).mp z)
 let gU:Nat->Set:=fun i a=>(i∉io/\bI i a)\/∃j,ms[j]? = some true/\rs[j]? = some (.var i)/\Jy j a
 have nz:∀a,Fc a\/H1 a=none->¬Z1 a:=fun a z y=>z.elim (fun⟨i,_,z⟩=>O1.fz i a z y) (O1.zh a y)
 have n1:∀i a,i∉io->bI i a->¬(Fc a\/H1 a=none):=fun i a hi z y=>y.elim (fun⟨i',MM,y⟩=>hi (by rw[O1.dj i i' a z y];exact MM)) (O1.fm i a z).ne
 have O2:Ok Z1 H' (fg ms rs es aL) σ gU:=by
  refine⟨fun i d' e=>?_,fun i j a z1 z2=>?_,fun i a z=>?_,fun i a z=>?_,fun a z y=>?_,by rw[ow];exact O1.len⟩
  ·by_cases hi:i∈io
   ·obtain⟨j,h1,h2⟩:=gw.mp hi
    have hl:i<aL.length:=by rw[<-ow (ms:=ms) (rs:=rs) (es:=es)];exact(List.getElem?_eq_some_iff.mp e).1
    rw[mK zj h1 h2 Ve hl] at e
    obtain⟨w,hw,gh⟩:=Pp.own j d' e
    obtain⟨v',Gk,hv,hr,_⟩:=refs j _ h2
    rw[List.getElem?_map,hv] at hw
    obtain rfl:v'=w:=Option.some.inj (Option.some.inj hw)
    exact⟨v',hr,(Own.eJ d' (xp XG e) gh).mono fun a z=>.inr ⟨j,h1,h2,z⟩⟩
   ·rw[jb hi] at e
    obtain⟨w,hw,gh⟩:=O1.own i d' e
    refine⟨w,hw,Own.step Fc (fun _ z=>z) Qx (fun a ⟨i',_,z⟩=>O1.fz i' a z) (fun a vs ⟨i',_,z⟩=>(O1.fm i' a z).gg) d' (fun a z=>.inl ⟨hi,z⟩) (fun a z y=>n1 i a hi y (.inl z)) gh⟩
  ·rcases z1 with⟨hi,z1⟩|⟨j1,a1,b1,z1⟩<;>rcases z2 with⟨hj,z2⟩|⟨j2,a2,b2,z2⟩
   ·exact O1.dj i j a z1 z2
   ·exact absurd (Qy a ⟨j2,z2⟩) (n1 i a hi z1)
   ·exact absurd (Qy a ⟨j1,z1⟩) (n1 j a hj z2)
   ·have e:=Pp.dj j1 j2 a z1 z2
    subst e
    rw[b1] at b2
    cases b2;rfl
  ·rcases z with⟨hi,z⟩|⟨j,_,_,z⟩
   ·exact O1.fz i a z
   ·exact nz a (Qy a ⟨j,z⟩)
  ·rcases z with⟨hi,z⟩|⟨j,_,_,z⟩
   ·exact(O1.fm i a z).up fun o e=>Qx a o e fun y=>n1 i a hi z (.inl y)
   ·exact Pp.fm j a z
  ·cases e:H1 a with
   |none=>exact O1.zh a z e
   |some o=>rw[Qx a o e fun y=>nz a (.inl y) z] at y;cases y
 have f2:∀a,cQ gU a->cQ bI a\/H1 a=none:=fun a ⟨i,z⟩=>by
  rcases z with⟨hi,z⟩|⟨j,_,_,z⟩
  ·exact .inl ⟨i,z⟩
  ·exact(Qy a ⟨j,z⟩).imp (Rh a) id
 refine k (.a8 d) _ v Z1 H' gU G q2 O2 ⟨r1.z,r1.zn,fun a o e n=>?_,fun a z=>r1.kn (f2 a z),fun a z=>r1.kn ((R6 a z).imp (Rh a) id),fun a ⟨i,z⟩ y=>?_,fun a z=>nz a (R6 a z),rc.gm⟩ (show Own Z1 H' d v G from Own.eJ d nf ho)
 ·refine Qx a o (r1.k a o e n) fun z=>?_
  rcases r1.f a (Rh a z) with z|z
  ·exact n z
  ·rw[z] at e;cases e
 ·rcases z with⟨hi,z⟩|⟨j,_,_,z⟩
  ·exact n1 i a hi z (R6 a y)
  ·exact rc.d a ⟨j,z⟩ y
end VS
end
section
namespace VS
open PySem L2
class Acc (α:Type) where
 vals:α->List D
 is:α->HO->List V->Prop
 QL:∀{a u vs},is a u vs->lU (some u)
instance:Acc (List D):=⟨id,fun _ u vs=>u=.lst vs,fun h=>by subst h;exact trivial⟩
structure CS{α:Type} [Acc α] (I:Nat->Bool) (Z1:Set) (H1:Hp) (F1:Set) (rZ:St) (p:Addr) (acc:α) (e:ai) (τ:St) (H:Hp) (Z:Set) (φ:Nat->Set) (A:Set) (vs:List V):Prop where
 ok:Ok Z H e τ φ
 res:Res Z1 H1 F1 Z H (cQ φ) (fun a=>A a\/a=p)
 at_:∃u,H p=some u/\Acc.is acc u vs
 own:ar Z H (Acc.vals acc) vs A
 np:¬A p
 kp:Kp I rZ τ
abbrev UL(α:Type):=α->ai->(α->ai->Prop)->Prop
def mX{α:Type} [Acc α] (I:Nat->Bool) (p:Addr) (tl:TL) (ul:UL α):Prop:=∀(Z1:Set) (H1:Hp) (F1:Set) (rZ:St) (acc:α) (e:ai) (τ:St) (H:Hp) (Z:Set) (φ:Nat->Set) (A:Set) (vs:List V) (k:α->ai->Prop) (K:St->Hp->Prop),
 CS I Z1 H1 F1 rZ p acc e τ H Z φ A vs->ul acc e k->(∀f9 e' iD H' Z' cJ A' lR,k f9 e'->CS I Z1 H1 F1 rZ p f9 e' iD H' Z' cJ A' lR->oB Z H Z' H'->K iD H')->tl K τ H
section
variable {α:Type} [Acc α] {I:Nat->Bool}{Z1 Z Z2:Set}{H1 H H2:Hp}{F1:Set}{rZ τ FF:St}{p:Addr}{acc acc2:α}{e e2:ai}{φ gU:Nat->Set}{A G2:Set}{vs:List V}
theorem CS.next(c:CS I Z1 H1 F1 rZ p acc e τ H Z φ A vs)(O2:Ok Z2 H2 e2 FF gU)(r:Res Z H (cQ φ) Z2 H2 (cQ gU) cE)(kp:Kp I τ FF):CS I Z1 H1 F1 rZ p acc e2 FF H2 Z2 gU A vs:=by
 have q:=(c.res.seq r).1
 have e:(fun a=>(A a\/a=p)\/cE a)=fun a=>A a\/a=p:=by funext a;exact propext ⟨fun z=>z.elim id fun z=>z.elim,.inl⟩
 rw[e] at q
 exact⟨O2,q,let ⟨u,hu,ha⟩:=c.at_;⟨u,r.k p _ hu fun z=>c.res.d p z (.inr rfl),ha⟩,r.Jb c.ok (fun a z y=>c.res.d a z (.inl y)) c.own,c.np,c.kp.trans kp⟩
theorem CS.emit(c:CS I Z1 H1 F1 rZ p acc e τ H Z φ A vs)(O2:Ok Z2 H2 e2 τ gU)(r:Res Z H (cQ φ) Z2 H2 (cQ gU) G2){d:D}{v:V}{vs2:List V}(ho:Own Z2 H2 d v G2){H3:Hp}{u3:HO}(f7:∀b,b≠p->H3 b=H2 b)(h3:H3 p=some u3)(a3:Acc.is acc2 u3 vs2)
  (own:∀{A G:Set},ar Z2 H3 (Acc.vals acc) vs A->Own Z2 H3 d v G->(∀a,A a->¬G a)->ar Z2 H3 (Acc.vals acc2) vs2 (fun a=>A a\/G a)) :
  CS I Z1 H1 F1 rZ p acc2 e2 τ H3 Z2 gU (fun a=>A a\/G2 a) vs2:=by
 obtain⟨q,dj⟩:=c.res.seq r
 obtain⟨u,hu,kY⟩:=c.at_
 have ET:H2 p=some u:=r.k p _ hu fun z=>c.res.d p z (.inr rfl)
 have Vd:lU (H2 p):=by rw[ET];exact Acc.QL kY
 have XE:¬cQ gU p:=fun z=>q.d p z (.inl (.inr rfl))
 have nz:¬Z2 p:=fun z=>q.gz p (.inl (.inr rfl)) z
 have nG:¬G2 p:=dj p (.inr rfl)
 have st:∀{d:D}{v:V}{F:Set},¬F p->Own Z2 H2 d v F->Own Z2 H3 d v F:=fun{d v F} hF h=>Own.step (fun b=>b=p) (fun _ z=>z) (fun b o e n=>by rw[f7 b n];exact e) (fun b z=>by rw[z];exact nz) (fun b vs z=>by rw[z];exact Vd.gg) d (fun _ z=>z) (fun b z y=>hF (by rw[<-z];exact y)) h
 have GB:∀{d:List D}{v:List V}{F:Set},¬F p->ar Z2 H2 d v F->ar Z2 H3 d v F:=fun{d v F} hF h=>ar.step (fun b=>b=p) (fun _ z=>z) (fun b o e n=>by rw[f7 b n];exact e) (fun b z=>by rw[z];exact nz) (fun b vs z=>by rw[z];exact Vd.gg) d (fun _ z=>z) (fun b z y=>hF (by rw[<-z];exact y)) h
 have im:∀a,lU (H2 a)->lU (H3 a):=fun a h=>by
  by_cases ha:a=p
  ·rw[ha,h3];exact Acc.QL a3
  ·rw[f7 a ha];exact h
 refine⟨⟨fun i d e=>let ⟨w,hw,h⟩:=O2.own i d e;⟨w,hw,st (fun z=>XE ⟨i,z⟩) h⟩,O2.dj,O2.fz,fun i a h=>im a (O2.fm i a h),fun a z=>?_,O2.len⟩,⟨q.z,q.zn,fun a o e n=>?_,q.f,fun a z=>?_,fun a z y=>?_,fun a z=>?_,fun a z=>?_⟩,⟨u3,h3,a3⟩,?_,fun z=>z.elim c.np nG,c.kp⟩
 ·rw[f7 a fun y=>nz (by rw[<-y];exact z)];exact O2.zh a z
 ·have ha:a≠p:=fun y=>by
   rcases q.g a (.inl (.inr y)) with z|z
   ·exact n z
   ·rw[z] at e;cases e
  rw[f7 a ha];exact q.k a o e n
 ·refine q.g a ?_
  rcases z with(z|z)|z
  ·exact .inl (.inl z)
  ·exact .inr z
  ·exact .inl (.inr z)
 ·refine q.d a z ?_
  rcases y with(z|z)|z
  ·exact .inl (.inl z)
  ·exact .inr z
  ·exact .inl (.inr z)
 ·refine q.gz a ?_
  rcases z with(z|z)|z
  ·exact .inl (.inl z)
  ·exact .inr z
  ·exact .inl (.inr z)
 ·refine im a (q.gm a ?_)
  rcases z with(z|z)|z
  ·exact .inl (.inl z)
  ·exact .inr z
  ·exact .inl (.inr z)
 ·exact own (GB c.np (r.Jb c.ok (fun a z y=>c.res.d a z (.inl y)) c.own)) (st nG ho) fun a z=>dj a (.inl z)
theorem CS.Cp(c:CS I Z1 H1 F1 rZ p acc e τ H Z φ A vs){H3:Hp}(r:oB Z H Z2 H2)(nz:¬Z2 p)(hp:∀vs,¬H2 p=some (.tup vs))(f7:∀b,b≠p->H3 b=H2 b):oB Z H Z2 H3:=
 r.trans ⟨fun _ z=>z,fun a o e z=>by rw[f7 a fun y=>nz (by rw[<-y];exact z)];exact e,fun a vs e=>by rw[f7 a fun y=>hp vs (by rw[<-y];exact e)];exact e⟩
end
def fE(ue:UB):UL (List D):=fun acc e k=>ue e fun r e4=>∃d,r=.a8 d/\acc.length<=1000000/\k (acc++[d]) e4
theorem Dn{I:Nat->Bool}{p:Addr}{te:TE}{ue:UB}(h:aY te ue):mX I p (II te p) (fE ue):=by
 intro Z1 H1 F1 rZ acc e τ H Z φ A vs k K c q kk
 refine h τ e Z H φ _ _ c.ok q fun r e4 v Z4 H4 FV G4 ⟨d,er,hz,q4⟩ O4 r4 NV=>?_
 subst er
 obtain⟨u4,X7,rfl⟩:=c.at_
 have Ow:H4 p=some (.lst vs):=r4.k p _ X7 fun z=>c.res.d p z (.inr rfl)
 have q:=(c.res.seq r4).1
 refine⟨vs,Ow,by rw[c.own.length];exact hz,fun H5 f7 h5=>?_⟩
 exact kk _ e4 τ H5 Z4 FV _ _ q4 (c.emit (acc2:=acc++[d]) O4 r4 NV f7 h5 rfl i6) (c.Cp (r4.Cp c.ok) (fun z=>q.gz p (.inl (.inr rfl)) z) (fun lR z=>by rw[Ow] at z;cases z) f7)
def ef{α:Type}(ug:UG)(ut:UT)(inner:UL α)(k:α->ai->Prop):List D->α->ai->Prop
 | [],acc,e=>k acc e
 |x::xs,acc,e=>ug x e fun e2=>ut e2 fun b e3=>if b=true then inner acc e3 (ef ug ut inner k xs) else ef ug ut inner k xs acc e3
theorem nC{α:Type} [Acc α] {I:Nat->Bool}{p:Addr}{J:It}{g:TG}{ug:UG}{tt:TT}{ut:UT}{tl:TL}{ul:UL α} (hg:jD I g ug) (ht:gS tt ut) (hl:mX I p tl ul) {Z1:Set}{H1:Hp}{F1:Set}{rZ:St}{acc:α}{e:ai}{τ:St}{H:Hp}{Z:Set}{φ:Nat->Set}{A:Set}{vs:List V}{items:List D}{k:α->ai->Prop}{K:St->Hp->Prop}
  (c:CS I Z1 H1 F1 rZ p acc e τ H Z φ A vs) (w:Walk J Z H items) (q:ef ug ut ul k items acc e) (kk:∀f9 e' iD H' Z' cJ A' lR,k f9 e'->CS I Z1 H1 F1 rZ p f9 e' iD H' Z' cJ A' lR->oB Z H Z' H'->K iD H'):t8 J g tt tl K τ H:=by
 refine⟨fun i m iD H'=>∃f9 e' Z' cJ A' lR,CS I Z1 H1 F1 rZ p f9 e' iD H' Z' cJ A' lR/\oB Z H Z' H'/\i<=items.length/\m=items.length-i/\ef ug ut ul k (items.drop i) f9 e',⟨items.length,acc,e,Z,φ,A,vs,c,oB.refl,Nat.zero_le _,rfl,q⟩,?_⟩
 rintro i m iD H' ⟨f9,e',Z',cJ,A',lR,c',ke,hi,rfl,q'⟩
 by_cases iM:i<items.length
 ·have hd:items[i]? = some items[i]:=List.getElem?_eq_getElem iM
  obtain⟨Tr,hy⟩:=w.go i items[i] Z' H' hd ke
  refine .inr ⟨Tr,fun FF H2=>∃f9 e' Z' cJ A' lR,CS I Z1 H1 F1 rZ p f9 e' FF H2 Z' cJ A' lR/\oB Z H Z' H2/\i+1<=items.length/\ef ug ut ul k (items.drop (i+1)) f9 e',fun FF H2 ⟨f9,e',Z',cJ,A',lR,a,b,c,d⟩=>⟨items.length-(i+1),by omega,f9,e',Z',cJ,A',lR,a,b,c,rfl,d⟩,fun x H3 y=>?_⟩
  obtain⟨s3,o3⟩:=hy x H3 y
  rw[List.drop_eq_getElem_cons iM] at q'
  have c3:=c'.next (c'.ok.grow s3) (Res.same s3) Kp.refl
  have XJ:oB Z H Z' H3:=ke.trans ⟨fun _ z=>z,fun a o e _=>s3 a o e,fun a vs e=>s3 a _ e⟩
  refine hg iD e' Z' H3 cJ _ x cE _ _ c3.ok o3 (fun _ _ z=>z) (fun _ z=>z.elim) (fun _ z=>z.elim) q' fun e4 Ut Z4 FV q4 O4 z4 Ri f4 N9=>?_
  have r4:Res Z' H3 (cQ cJ) Z4 H3 (cQ FV) cE:=Res.UH z4 Ri f4
  have c4:=c3.next O4 r4 N9
  have XI:=XJ.trans (r4.Cp c3.ok)
  refine ht Ut e4 Z4 H3 FV _ _ O4 q4 fun b e5 Z5 H5 FE q5 O5 r5=>?_
  have c5:=c4.next O5 r5 Kp.refl
  have Vh:=XI.trans (r5.Cp O4)
  cases b with
  |true=>
   rw[if_pos rfl] at q5 ⊢
   exact hl Z1 H1 F1 rZ _ e5 Ut H5 Z5 FE _ _ _ _ c5 q5 fun Ue e6 ZI H6 Z6 WX A6 W4 q6 c6 k6=>⟨Ue,e6,Z6,WX,A6,W4,c6,Vh.trans k6,iM,q6⟩
  |false=>
   rw[if_neg Bool.false_ne_true] at q5 ⊢
   exact⟨_,e5,Z5,FE,_,_,c5,Vh,iM,q5⟩
 ·have ei:i=items.length:=by omega
  subst ei
  rw[List.drop_length] at q'
  exact .inl ⟨w.stop Z' H' ke,kk _ e' iD H' Z' cJ A' lR q' c' ke⟩
def hX{α:Type}(ui:UI)(ug:UG)(ut:UT)(inner:UL α):UL α:=fun acc e k=>ui e fun items e1=>ef ug ut inner k items acc e1
theorem yH{α:Type} [Acc α] {I:Nat->Bool}{p:Addr}{wi:TI}{ui:UI}{g:TG}{ug:UG}{tt:TT}{ut:UT}{tl:TL}{ul:UL α} (hi:s_ wi ui) (hg:jD I g ug) (ht:gS tt ut) (hl:mX I p tl ul):mX I p (pS wi g tt tl) (hX ui ug ut ul):=by
 intro Z1 H1 F1 rZ acc e τ H Z φ A vs k K c q kk
 refine hi τ e Z H φ _ _ c.ok q fun items e1 Z' H' cJ J q1 O1 r1 w=>?_
 exact nC hg ht hl (c.next O1 r1 Kp.refl) w q1 fun f9 e' iD kQ Zz uN A' lR a b d=>kk f9 e' iD kQ Zz uN A' lR a b ((r1.Cp c.ok).trans d)
def lu:UT:=fun env Q=>Q true env
theorem GC:gS Nq lu:=fun σ env Z H φ Q R O q k=>k true env Z H φ q O Res.refl
def fP(n:Nat)(ui:UI)(ug:UG)(ut:UT)(ul:UL (List D)):UB:=fun env Q=>ui env fun items e=>ef ug ut ul (fun acc e'=>Q (.a8 (.lst true acc)) (e'.drop n)) items [] (List.replicate n none++e)
def outs(n:Nat):Nat->Bool:=fun i=>decide (n<=i)
theorem uF{α:Type} [Acc α] {n:Nat}{g:TG}{ug:UG}{tt:TT}{ut:UT}{tl:TL}{ul:UL α}{acc0:α}{u0:HO} (e0:Acc.vals acc0=[]) (a0:Acc.is acc0 u0 []) (fin:α->D) (EZ:∀{acc u vs Z H A p},H p=some u->Acc.is acc u vs->ar Z H (Acc.vals acc) vs A->¬A p->Own Z H (fin acc) (.ref p) (fun a=>A a\/a=p)) (hg:jD (outs n) g ug) (ht:gS tt ut) {p:Addr} (hl:mX (outs n) p tl ul)
  {J:It}{σ:St}{e1:ai}{Z1:Set}{H1:Hp}{bI:Nat->Set}{items:List D}{Q:α->ai->Prop}{R:VK} (O1:Ok Z1 H1 e1 σ bI) (w:Walk J Z1 H1 items) (q1:ef ug ut ul Q items acc0 (List.replicate n none++e1))
  (k:∀acc e' Z' H' cJ G,Q acc e'->Ok Z' H' (e'.drop n) σ cJ->Res Z1 H1 (cQ bI) Z' H' (cQ cJ) G->Own Z' H' (fin acc) (.ref p) G->R (.ref p) H') :
  ∀H2,H1 p=none->cf H1 H2->H2 p=some u0->(∀b,b≠p->H2 b=H1 b)->t8 J g tt tl (fun _ H'=>R (.ref p) H') (List.replicate n none++σ) H2:=by
 intro H2 hn hs hp lT
 let gU:Nat->Set:=fun i a=>∃j,i=n+j/\bI j a
 have U2:∀a,cQ gU a↔cQ bI a:=fun a=>⟨fun⟨i,j,_,z⟩=>⟨j,z⟩,fun⟨j,z⟩=>⟨n+j,j,rfl,z⟩⟩
 have O2:Ok Z1 H2 (List.replicate n none++e1) (List.replicate n none++σ) gU:=by
  have g1:=O1.grow hs
  refine⟨fun i d e=>?_,fun i j a ⟨i',e1,z1⟩ ⟨j',e2,z2⟩=>?_,fun i a ⟨j,_,z⟩=>g1.fz j a z,fun i a ⟨j,_,z⟩=>g1.fm j a z,g1.zh,by simp[O1.len]⟩
  ·have hi:n<=i:=by
    refine Nat.le_of_not_lt fun hi=>?_
    rw[List.getElem?_append_left (by simpa using hi),List.getElem?_replicate] at e
    split at e<;>cases e
   rw[List.getElem?_append_right (by simpa using hi),List.length_replicate] at e
   obtain⟨v,hv,ho⟩:=g1.own _ d e
   exact⟨v,by rw[List.getElem?_append_right (by simpa using hi),List.length_replicate];exact hv,ho.mono fun a z=>⟨i-n,by omega,z⟩⟩
  ·rw[e1,e2,g1.dj i' j' a z1 z2]
 have c0:CS (outs n) Z1 H1 (cQ bI) (List.replicate n none++σ) p acc0 (List.replicate n none++e1) (List.replicate n none++σ) H2 Z1 gU cE []:=by
  refine⟨O2,⟨fun _ z=>z,fun _ z=>.inl z,fun a o e _=>hs a o e,fun a z=>.inl ((U2 a).mp z),fun a z=>?_,fun a z y=>?_,fun a z y=>?_,fun a z=>?_⟩,⟨u0,hp,a0⟩,by rw[e0];exact ba.mpr rfl,fun z=>z,Kp.refl⟩
  ·rcases z with z|z
   ·exact z.elim
   ·rw[z];exact .inr hn
  ·rcases y with y|y
   ·exact y
   ·obtain⟨j,z⟩:=(U2 a).mp z
    exact(O1.fm j a z).ne (by rw[y];exact hn)
  ·rcases z with z|z
   ·exact z
   ·exact O1.zh a y (by rw[z];exact hn)
  ·rcases z with z|z
   ·exact z.elim
   ·rw[z,hp];exact Acc.QL a0
 have w2:Walk J Z1 H2 items:=⟨fun Z3 H3 r=>w.stop Z3 H3 (oB.trans ⟨fun _ z=>z,fun a o e _=>hs a o e,fun a vs e=>hs a _ e⟩ r),fun i d Z3 H3 e r=>w.go i d Z3 H3 e (oB.trans ⟨fun _ z=>z,fun a o e _=>hs a o e,fun a vs e=>hs a _ e⟩ r)⟩
 refine nC hg ht hl c0 w2 q1 fun acc e' iD H' Z' cJ A vs q' c _=>?_
 have Vj:∀j:Nat,iD[n+j]? = σ[j]?:=fun j=>by
  rw[c.kp (n+j) (decide_eq_true (Nat.le_add_right _ _)),List.getElem?_append_right (by simp),List.length_replicate]
  congr 1;omega
 have Zr:iD.drop n=σ:=List.ext_getElem? fun j=>by rw[List.getElem?_drop];exact Vj j
 have U3:∀a,(∃j,cJ (n+j) a)->cQ cJ a:=fun a ⟨j,z⟩=>⟨n+j,z⟩
 have O3:Ok Z' H' (e'.drop n) σ (fun j=>cJ (n+j)):=by
  refine⟨fun j d e=>?_,fun i j a z1 z2=>by have:=c.ok.dj _ _ a z1 z2;omega,fun j a z=>c.ok.fz _ a z,fun j a z=>c.ok.fm _ a z,c.ok.zh,?_⟩
  ·rw[List.getElem?_drop] at e
   obtain⟨v,hv,ho⟩:=c.ok.own _ d e
   exact⟨v,by rw[<-Vj];exact hv,ho⟩
  ·rw[List.length_drop,c.ok.len,<-Zr,List.length_drop]
 have rr:Res Z1 H1 (cQ bI) Z' H' (cQ fun j=>cJ (n+j)) (fun a=>A a\/a=p):=⟨c.res.z,c.res.zn,c.res.k,fun a z=>c.res.f a (U3 a z),c.res.g,fun a z=>c.res.d a (U3 a z),c.res.gz,c.res.gm⟩
 obtain⟨u,hu,ha⟩:=c.at_
 exact k acc e' Z' H' _ _ q' O3 rr (EZ hu ha c.own c.np)
theorem tS{α:Type} [Acc α] {X:Cx}{sc:Scope}{N:List Str}{tg:Expr}{ifs:List Expr}{inner:Value->PySem.Env->Sem Unit}{n:Nat}{wi:TI}{ui:UI}{ug:UG}{ut:UT}{ul:UL α}{acc0:α}{u0:HO} (e0:Acc.vals acc0=[]) (a0:Acc.is acc0 u0 []) (fin:α->D) (EZ:∀{acc u vs Z H A p},H p=some u->Acc.is acc u vs->ar Z H (Acc.vals acc) vs A->¬A p->Own Z H (fin acc) (.ref p) (fun a=>A a\/a=p)) (hi:s_ wi ui) (hb:∀C s H0 fp pins p,∃g tt tl,PG (dA X sc N C s H0 fp pins) tg g/\Cy (dA X sc N C s H0 fp pins) ifs tt/\PN (dA X sc N C s H0 fp pins) (inner (.ref p) (dA X sc N C s H0 fp pins).env) tl/\jD (outs n) g ug/\gS tt ut/\mX (outs n) p tl ul) :
  aY (jk X sc N tg ifs inner u0 n wi) (fun env Q=>ui env fun items e=>ef ug ut ul (fun acc e'=>Q (.a8 (fin acc)) (e'.drop n)) items acc0 (List.replicate n none++e)):=by
 intro σ env Z H φ Q R O q k
 refine hi σ env Z H φ _ _ O q fun items e1 Z1 H1 bI J q1 O1 r1 w=>?_
 intro p H2 hn hs hp lT C s H0 fp pins
 obtain⟨g,tt,tl,a1,a2,a3,hg,ht,hl⟩:=hb C s H0 fp pins p
 exact⟨g,tt,tl,a1,a2,a3,uF e0 a0 fin EZ hg ht hl O1 w q1 (fun acc e' Z' H' cJ G q' O' r' ho=>k (.a8 (fin acc)) _ (.ref p) Z' H' cJ G q' O' (r1.trans r') ho) H2 hn hs hp lT⟩
theorem ql{X:Cx}{sc:Scope}{N:List Str}{tg:Expr}{ifs:List Expr}{inner:Value->PySem.Env->Sem Unit}{n:Nat}{wi:TI}{ui:UI}{ug:UG}{ut:UT}{ul:UL (List D)}(hi:s_ wi ui)(hb:∀C s H0 fp pins p,∃g tt tl,PG (dA X sc N C s H0 fp pins) tg g/\Cy (dA X sc N C s H0 fp pins) ifs tt/\PN (dA X sc N C s H0 fp pins) (inner (.ref p) (dA X sc N C s H0 fp pins).env) tl/\jD (outs n) g ug/\gS tt ut/\mX (outs n) p tl ul):aY (jk X sc N tg ifs inner (.lst []) n wi) (fP n ui ug ut ul):=
 tS (acc0:=([]:List D)) rfl rfl (fun acc=>.lst true acc) (fun{acc u vs Z H A p} hu ha ho np=>by
  obtain rfl:u=.lst vs:=ha
  exact bD.mpr ⟨p,vs,rfl,hu,.inr rfl,ho.mono fun a z=>⟨.inl z,fun y=>np (by rw[<-y];exact z)⟩⟩) hi hb
end VS
end
section
namespace VS
open PySem L2
def dput{α:Type}:List DK->List α->DK->α->List DK×List α
 |k'::ks,d::ds,k,x=>if k'=k then(k'::ks,x::ds) else((k'::(dput ks ds k x).1),(d::(dput ks ds k x).2))
 |_,_,k,x=>([k],[x])
section
variable {Z:Set}{H H':Hp}
theorem qT{κ:Type} [DecidableEq κ] (k:κ) (x:V):∀(kl:List κ) (vs:List V),kl.contains k=false->((kl.zip vs).map fun kv=>if kv.1=k then(kv.1,x) else kv)=kl.zip vs
 | [],_,_=>by simp
 |_::_,[],_=>by simp
 |k'::kl,v::vs,h=>by
  rw[List.contains_cons,Bool.or_eq_false_iff] at h
  rw[List.zip_cons_cons,List.map_cons,qT k x kl vs h.2]
  have:¬k'=k:=fun z=>by simp[z] at h
  simp[this]
theorem qA{κ:Type} [DecidableEq κ] (c:κ->DK) (ci:∀a b,c a=c b->a=b) (k:κ) (x:V):∀(kl:List κ) (vs:List V),kl.length=vs.length->kl.Nodup->∃(ED:List κ) (lR:List V),putK (kl.zip vs) k x=ED.zip lR/\ED.length=lR.length/\ED.Nodup/\(∀y,y∈ED->y∈kl\/y=k)/\(ED.map c,lR)=dput (kl.map c) vs (c k) x
 | [],vs,h,_=>by
  cases vs with
  |nil=>exact⟨[k],[x],rfl,rfl,by simp,fun y hy=>.inr (by simpa using hy),rfl⟩
  |cons=>simp at h
 |k'::kl,[],h,_=>by simp at h
 |k'::kl,v::vs,h,nd=>by
  obtain⟨n1,n2⟩:=List.nodup_cons.mp nd
  by_cases e:k'=k
  ·subst e
   refine⟨k'::kl,x::vs,?_,by simpa using h,nd,fun y hy=>.inl hy,by simp[dput]⟩
   have hc:kl.contains k'=false:=by simpa using n1
   unfold putK
   rw[if_pos (by simp),List.zip_cons_cons,List.map_cons,qT k' x kl vs hc]
   simp
  ·obtain⟨ED,lR,h1,h2,hn,hm,h3⟩:=qA c ci k x kl vs (by simpa using h) n2
   refine⟨k'::ED,v::lR,?_,by simp[h2],List.nodup_cons.mpr ⟨fun z=>(hm _ z).elim n1 e,hn⟩,fun y hy=>(List.mem_cons.mp hy).elim (fun z=>.inl (by rw[z];exact List.mem_cons_self)) fun z=>(hm y z).imp (List.mem_cons_of_mem _) id,?_⟩
   ·rw[List.zip_cons_cons,List.zip_cons_cons,<-h1]
    unfold putK
    rw[List.any_cons]
    simp only[e,decide_false,Bool.false_or]
    by_cases ha:((kl.zip vs).any fun kv=>decide (kv.1=k))=true
    ·rw[if_pos ha,if_pos ha,List.map_cons];simp[e]
    ·rw[if_neg ha,if_neg ha];rfl
   ·have ec:¬c k'=c k:=fun z=>e (ci _ _ z)
    have e1:=congrArg Prod.fst h3
    have e2:=congrArg Prod.snd h3
    simp only at e1 e2
    simp[dput,ec,<-e1,<-e2]
theorem ar.dput:∀{ks:List DK}{ds:List D}{vs:List V}{F G:Set}{k:DK}{d:D}{v:V},ks.length=ds.length->ar Z H ds vs F->Own Z H d v G->(∀a,F a->¬G a)->ar Z H (VS.dput ks ds k d).2 (VS.dput ks vs k v).2 (fun a=>F a\/G a)/\(VS.dput ks ds k d).1=(VS.dput ks vs k v).1
 | [],ds,vs,F,G,k,d,v,hl,h,h2,dj=>by
  cases ds with
  |cons=>simp at hl
  |nil=>
   rw[ba.mp h]
   exact⟨aF.mpr ⟨v,[],G,cE,rfl,h2,ba.mpr rfl,fun _ z=>.inr z,fun _ z=>z.elim,fun _ _ z=>z⟩,rfl⟩
 |k'::ks,[],vs,F,G,k,d,v,hl,h,h2,dj=>by simp at hl
 |k'::ks,e::ds,vs,F,G,k,d,v,hl,h,h2,dj=>by
  obtain⟨w,r,F1,F2,rfl,h1,h3,s1,s2,Fn⟩:=aF.mp h
  unfold VS.dput
  by_cases ek:k'=k
  ·rw[if_pos ek,if_pos ek]
   exact⟨aF.mpr ⟨v,r,G,F2,rfl,h2,h3,fun _ z=>.inr z,fun a z=>.inl (s2 a z),fun a z y=>dj a (s2 a y) z⟩,rfl⟩
  ·rw[if_neg ek,if_neg ek]
   obtain⟨q1,q2⟩:=ar.dput (k:=k) (by simpa using hl) h3 h2 fun a z=>dj a (s2 a z)
   exact⟨aF.mpr ⟨w,_,F1,_,rfl,h1,q1,fun a z=>.inl (s1 a z),fun a z=>z.imp (s2 a) id,fun a z y=>y.elim (Fn a z) fun y=>dj a (s1 a z) y⟩,by simp only[q2]⟩
theorem rF{t:Bool}{ks:List DK}{a:Addr}{vs:List V}{u:HO}{kd:D}{k:DK}{y x:V}{F2:Set}(hr:H a=some u)(hd:DictAt t u ks vs)(hk:keyOf t kd=some k)(hy:Own Z H kd y F2)(hz:vs.length<=1000000) :
  ∃u',tm H a y x (upd H a u')/\DictAt t u' (VS.dput ks vs k x).1 (VS.dput ks vs k x).2/\lU (some u'):=by
 cases t with
 |false=>
  obtain⟨kl,rfl,hlen,Sx,rfl⟩:=hd
  cases e:DH kd with
  |none=>simp[keyOf,e] at hk
  |some k'=>
   simp only[keyOf,e,Option.map_some,Option.some.injEq] at hk
   subst hk
   obtain⟨ED,lR,h1,h2,hn,_,h3⟩:=qA DK.s (fun a b z=>DK.s.inj z) k' x kl vs hlen Sx
   refine⟨_,.inl ⟨_,k',hr,pU e hy,?_,rfl⟩,⟨ED,?_,?_,hn,?_⟩,trivial⟩
   ·rw[List.length_zip,hlen,Nat.min_self];exact fc hz
   ·rw[<-h3]
   ·rw[<-h3];exact h2
   ·rw[<-h3,h1]
 |true=>
  obtain⟨kl,rfl,hlen,Sx,rfl⟩:=hd
  cases kd<;>simp only[keyOf,reduceCtorEq] at hk
  rename_i Ay
  cases e:yK Ay with
  |none=>simp[e] at hk
  |some k'=>
   simp only[e,Option.map_some,Option.some.injEq] at hk
   subst hk
   obtain⟨b,ws,rfl,hb,hw⟩:=c7.mp hy
   rw[qN e hw] at hb
   obtain⟨ED,lR,h1,h2,hn,_,h3⟩:=qA DK.t (fun a b z=>DK.t.inj z) k' x kl vs hlen Sx
   refine⟨_,.inr ⟨_,k',b,hr,rfl,hb,?_,rfl⟩,⟨ED,?_,?_,hn,?_⟩,trivial⟩
   ·rw[List.length_zip,hlen,Nat.min_self];exact fc hz
   ·rw[<-h3]
   ·rw[<-h3];exact h2
   ·rw[<-h3,h1]
theorem iA{t:Bool}{u:HO}{ks:List DK}{vs:List V}(h:DictAt t u ks vs):ks.length=vs.length:=by
 cases t with
 |false=>obtain⟨kl,rfl,hl,_,_⟩:=h;simpa using hl
 |true=>obtain⟨kl,rfl,hl,_,_⟩:=h;simpa using hl
end
def iZ(i:Nat)(uy uv:UB):US:=fun E env=>uv env fun r1 e1=>(∃d0,e1[i]? = some (some d0))/\uy e1 fun r2 e2=>∃d kd t ks ds k,r1=.a8 d/\r2.at e2=some kd/\e2[i]? = some (some (.cy true t ks ds))/\keyOf t kd=some k/\ds.length<=1000000 /\
 E.nx (e2.set i (some (.cy true t (dput ks ds k d).1 (dput ks ds k d).2)))
theorem Dq{I:Nat->Bool}{i:Nat}{ty tv:TE}{uy uv:UB}(hy:aY ty uy)(hv:aY tv uv):fJ I (DM (jQ i) ty tv) (iZ i uy uv):=by
 intro σ env Z H φ DE E O q k
 refine hv σ env Z H φ _ _ O q fun r1 aL v1 Z1 H1 bI G1 ⟨⟨d0,e0⟩,q1⟩ O1 s1 jh=>?_
 obtain⟨w0,Ls,_⟩:=O1.own i d0 e0
 refine⟨w0,Ls,?_⟩
 refine hy σ aL Z1 H1 bI _ _ O1 q1 fun r2 fZ v2 Z2 H2 gU G2 ⟨d,kd,t,ks,ds,kk,er,ea,ei,ek,hz,q2⟩ O2 s2 nV=>?_
 subst er
 obtain⟨yL,O6⟩:=s1.seq s2
 have jh:Own Z1 H1 d v1 G1:=jh
 have h1:Own Z2 H2 d v1 G1:=s2.keep O1 s1.d jh
 obtain⟨F2,h2⟩:=eh O2 nV ea
 obtain⟨w,hw,ho⟩:=O2.own i _ ei
 rw[Ls] at hw;cases hw
 obtain⟨a,vs,u,rfl,hr,hd,ha,hl⟩:=dR.mp ho
 obtain⟨u',hp,pJ,hm⟩:=rF (x:=v1) hr hd ek h2 (by rw[hl.length];exact hz)
 refine⟨a,_,rfl,hp,?_⟩
 have E1:∀b,cQ gU b->¬G1 b:=fun b z y=>yL.d b z (.inl y)
 have na:¬G1 a:=E1 a ⟨i,ha⟩
 have st:∀{d:D}{v:V}{F:Set},(∀b,F b->b≠a)->Own Z2 H2 d v F->Own Z2 (upd H2 a u') d v F:=fun{d v F} hF h=>Own.step (fun b=>b=a) (fun _ z=>z) (fun b o e n=>by rw[aE n];exact e) (fun b z=>by rw[z];exact O2.fz i a ha) (fun b vs z=>by rw[z];exact(O2.fm i a ha).gg) d (fun _ z=>z) (fun b z y=>hF b y z) h
 have GB:∀{d:List D}{v:List V}{F:Set},(∀b,F b->b≠a)->ar Z2 H2 d v F->ar Z2 (upd H2 a u') d v F:=fun{d v F} hF h=>ar.step (fun b=>b=a) (fun _ z=>z) (fun b o e n=>by rw[aE n];exact e) (fun b z=>by rw[z];exact O2.fz i a ha) (fun b vs z=>by rw[z];exact(O2.fm i a ha).gg) d (fun _ z=>z) (fun b z y=>hF b y z) h
 have hW:∀b,(fun b=>b=a) b->gU i b:=fun b z=>by rw[z];exact ha
 have hk:∀b,¬(fun b=>b=a) b->(upd H2 a u') b=H2 b:=fun b n=>aE n
 obtain⟨q3,q4⟩:=ar.dput (ks:=ks) (k:=kk) (by rw[iA hd,hl.length]) (GB (fun b z=>z.2) hl) (st (fun b z y=>na (by rw[<-y];exact z)) h1) fun b z y=>E1 b ⟨i,z.1⟩ y
 refine k.nx _ σ Z2 _ _ q2 (O2.write (W:=fun b=>b=a) (G:=G1) ei Ls hW hk (fun b z=>by rw[z,aB];exact hm) (fun b z y=>E1 b y z) (fun b z=>yL.gz b (.inl z)) (fun b z=>yL.gm b (.inl z)) (dR.mpr ⟨a,_,u',rfl,aB,by rw[q4];exact pJ,.inl ha,?_⟩)) (yL.write (i:=i) hW hk fun b z=>.inl z) Kp.refl
 refine q3.mono fun b z=>?_
 rcases z with z|z
 ·exact⟨.inl z.1,z.2⟩
 ·exact⟨.inr z,fun y=>na (by rw[<-y];exact z)⟩
end VS
end
section
namespace VS
open PySem L2
structure PB(Z:Set)(H:Hp)(v0:V)(F:Set)(c:D)(v:V)(Fc:Set)(jR:D->D):Prop where
 own:Own Z H c v Fc
 sub:∀a,Fc a->F a
 put:∀(H':Hp) (c':D) (G:Set),(∀a,¬Fc a->H' a=H a)->Own Z H' c' v (fun a=>Fc a\/G a)->(∀a,G a->¬F a)->Own Z H' (jR c') v0 (fun a=>F a\/G a)
section
variable {Z:Set}{H:Hp}
theorem ar.focus:∀{ds:List D}{vs:List V}{F:Set}{j:Nat}{c:D},(∀a,F a->¬Z a)->(∀a,F a->lU (H a))->ar Z H ds vs F->ds[j]? = some c->∃v Fj,vs[j]? = some v/\Own Z H c v Fj/\(∀a,Fj a->F a) /\
  ∀(H':Hp) (c':D) (G:Set),(∀a,¬Fj a->H' a=H a)->Own Z H' c' v (fun a=>Fj a\/G a)->(∀a,G a->¬F a)->ar Z H' (ds.set j c') vs (fun a=>F a\/G a)
 | [],vs,F,j,c,_,_,h,e=>by simp at e
 |d::ds,vs,F,0,c,fz,fm,h,e=>by
  obtain⟨w,r,F1,F2,rfl,h1,h3,s1,s2,dj⟩:=aF.mp h
  cases (show some d=some c from e)
  refine⟨w,F1,rfl,h1,s1,fun H' c' G k ho hG=>?_⟩
  refine aF.mpr ⟨w,r,fun a=>F1 a\/G a,F2,rfl,ho,?_,fun a z=>z.imp (s1 a) id,fun a z=>.inl (s2 a z),fun a z y=>z.elim (fun z=>dj a z y) fun z=>hG a z (s2 a y)⟩
  exact ar.step F1 (fun _ z=>z) (fun a o q n=>by rw[k a n];exact q) (fun a z=>fz a (s1 a z)) (fun a vs z=>(fm a (s1 a z)).gg) ds (fun _ z=>z) (fun a z y=>dj a z y) h3
 |d::ds,vs,F,j+1,c,fz,fm,h,e=>by
  obtain⟨w,r,F1,F2,rfl,h1,h3,s1,s2,dj⟩:=aF.mp h
  obtain⟨v,Fj,e1,ho,sj,q⟩:=ar.focus (j:=j) (c:=c) (fun a z=>fz a (s2 a z)) (fun a z=>fm a (s2 a z)) h3 (by simpa using e)
  refine⟨v,Fj,by simpa using e1,ho,fun a z=>s2 a (sj a z),fun H' c' G k gh hG=>?_⟩
  refine aF.mpr ⟨w,r,F1,fun a=>F2 a\/G a,rfl,?_,q H' c' G k gh fun a z y=>hG a z (s2 a y),fun a z=>.inl (s1 a z),fun a z=>z.imp (s2 a) id,fun a z y=>y.elim (dj a z) fun y=>hG a y (s1 a z)⟩
  exact Own.step Fj (fun _ z=>z) (fun a o q n=>by rw[k a n];exact q) (fun a z=>fz a (s2 a (sj a z))) (fun a vs z=>(fm a (s2 a (sj a z))).gg) d (fun _ z=>z) (fun a z y=>dj a y (sj a z)) h1
end
def FP:List DK->DK->Option Nat
 | [],_=>none
 |k'::ks,k=>if k'=k then some 0 else(FP ks k).map (· + 1)
theorem xP{α:Type}:∀{ks:List DK}{ds:List α}{k:DK}{j:Nat}{c:α},FP ks k=some j->ds[j]? = some c->bQ ks ds k=some c
 | [],ds,k,j,c,h,e=>by simp[FP] at h
 |k'::ks,[],k,j,c,h,e=>by simp at e
 |k'::ks,d::ds,k,j,c,h,e=>by
  unfold FP at h
  unfold bQ
  by_cases ek:k'=k
  ·rw[if_pos ek] at h ⊢
   cases h
   exact e
  ·rw[if_neg ek] at h ⊢
   cases q:FP ks k with
   |none=>rw[q] at h;cases h
   |some j'=>
    rw[q] at h
    cases (show some (j'+1)=some j from h)
    exact xP q (by simpa using e)
def child:D->D->Option (D×(D->D))
 | .cy true t ks ds,kd=>(keyOf t kd).bind fun k=>(FP ks k).bind fun j=>(ds[j]?).map fun c=>(c,fun c'=>.cy true t ks (ds.set j c'))
 | .lst true ds,.int k=>(xy ds.length k).bind fun j=>(ds[j]?).map fun c=>(c,fun c'=>.lst true (ds.set j c'))
 | .tup ds,.int k=>(xy ds.length k).bind fun j=>(ds[j]?).map fun c=>(c,fun c'=>.tup (ds.set j c'))
 |_,_=>none
def ZA(tc:TE)(i:Nat)(ux:UX):Prop:=∀(σ:St) (env:ai) (Z:Set) (H:Hp) (φ:Nat->Set) (d0 kd c:D) (jR:D->D) (R:VK),Ok Z H env σ φ->env[i]? = some (some d0)->ux env kd->child d0 kd=some (c,jR) ->
 (∀v v0 Fc,σ[i]? = some (some v0)->PB Z H v0 (φ i) c v Fc jR->R v H)->tc σ H R
theorem J9{i:Nat}{tk:TE}{ux:UX}(hk:oy tk ux):∀(σ:St) (env:ai) (Z:Set) (H:Hp) (φ:Nat->Set) (d0 kd c:D) (jR:D->D) (R:VK),(∃t ks ds,d0=.cy true t ks ds)->Ok Z H env σ φ->env[i]? = some (some d0)->ux env kd->child d0 kd=some (c,jR) ->
  (∀v v0 Fc,σ[i]? = some (some v0)->PB Z H v0 (φ i) c v Fc jR->R v H)->zR (jQ i) tk σ H R:=by
 rintro σ env Z H φ _ kd c jR R ⟨t,ks,ds,rfl⟩ O e ex ec k
 obtain⟨v0,hv,ho⟩:=O.own i _ e
 refine⟨v0,hv,hk σ env Z H φ kd _ O ex fun y hy=>?_⟩
 simp only[child,Option.bind_eq_some_iff,Option.map_eq_some_iff,Prod.mk.injEq] at ec
 obtain⟨kk,h1,j,h2,c',h3,rfl,rfl⟩:=ec
 obtain⟨a,vs,u,rfl,hr,hd,ha,hl⟩:=dR.mp ho
 obtain⟨v,Fj,e1,EV,sj,q⟩:=ar.focus (fun b z=>O.fz i b z.1) (fun b z=>O.fm i b z.1) hl h3
 have g:=kh (.inl hr) hd hl h1 hy
 rw[xP h2 e1] at g
 refine⟨a,v,rfl,g,k v _ Fj hv ⟨EV,fun b z=>(sj b z).1,fun H' Pd G Ja gh hG=>?_⟩⟩
 have na:¬Fj a:=fun z=>(sj a z).2 rfl
 refine dR.mpr ⟨a,vs,u,rfl,by rw[Ja a na];exact hr,hd,.inl ha,(q H' Pd G Ja gh fun b z y=>hG b z y.1).mono fun b z=>?_⟩
 rcases z with z|z
 ·exact⟨.inl z.1,z.2⟩
 ·exact⟨.inr z,fun y=>hG b z (by rw[y];exact ha)⟩
theorem J7{K:PySem.W.Frag}{i:Nat}{tk:TE}{ux:UX}(hk:oy tk ux):∀(σ:St) (env:ai) (Z:Set) (H:Hp) (φ:Nat->Set) (d0 kd c:D) (jR:D->D) (R:VK),(∃ds,d0=.lst true ds)->Ok Z H env σ φ->env[i]? = some (some d0)->ux env kd->child d0 kd=some (c,jR) ->
  (∀v v0 Fc,σ[i]? = some (some v0)->PB Z H v0 (φ i) c v Fc jR->R v H)->Gw (DU K) (jQ i) tk σ H R:=by
 rintro σ env Z H φ _ kd c jR R ⟨ds,rfl⟩ O e ex ec k
 obtain⟨v0,hv,ho⟩:=O.own i _ e
 refine⟨v0,hv,hk σ env Z H φ kd _ O ex fun y hy=>?_⟩
 cases kd<;>simp only[child,reduceCtorEq] at ec
 rw[a_] at hy
 simp only[Option.bind_eq_some_iff,Option.map_eq_some_iff,Prod.mk.injEq] at ec
 obtain⟨j,h2,c',h3,rfl,rfl⟩:=ec
 obtain⟨a,vs,rfl,hr,ha,hl⟩:=bD.mp ho
 obtain⟨v,Fj,e1,EV,sj,q⟩:=ar.focus (fun b z=>O.fz i b z.1) (fun b z=>O.fm i b z.1) hl h3
 refine⟨a,vs,_,v,rfl,hy,je.of hr,by unfold g_;rw[hl.length,h2];exact e1,k v _ Fj hv ⟨EV,fun b z=>(sj b z).1,fun H' Pd G Ja gh hG=>?_⟩⟩
 have na:¬Fj a:=fun z=>(sj a z).2 rfl
 refine bD.mpr ⟨a,vs,rfl,by rw[Ja a na];exact hr,.inl ha,(q H' Pd G Ja gh fun b z y=>hG b z y.1).mono fun b z=>?_⟩
 rcases z with z|z
 ·exact⟨.inl z.1,z.2⟩
 ·exact⟨.inr z,fun y=>hG b z (by rw[y];exact ha)⟩
theorem J5{K:PySem.W.Frag}{i:Nat}{tk:TE}{ux:UX}(hk:oy tk ux):∀(σ:St) (env:ai) (Z:Set) (H:Hp) (φ:Nat->Set) (d0 kd c:D) (jR:D->D) (R:VK),(∃ds,d0=.tup ds)->Ok Z H env σ φ->env[i]? = some (some d0)->ux env kd->child d0 kd=some (c,jR) ->
  (∀v v0 Fc,σ[i]? = some (some v0)->PB Z H v0 (φ i) c v Fc jR->R v H)->Gw (DT K) (jQ i) tk σ H R:=by
 rintro σ env Z H φ _ kd c jR R ⟨ds,rfl⟩ O e ex ec k
 obtain⟨v0,hv,ho⟩:=O.own i _ e
 refine⟨v0,hv,hk σ env Z H φ kd _ O ex fun y hy=>?_⟩
 cases kd<;>simp only[child,reduceCtorEq] at ec
 rw[a_] at hy
 simp only[Option.bind_eq_some_iff,Option.map_eq_some_iff,Prod.mk.injEq] at ec
 obtain⟨j,h2,c',h3,rfl,rfl⟩:=ec
 obtain⟨a,vs,rfl,hr,hl⟩:=c7.mp ho
 obtain⟨v,Fj,e1,EV,sj,q⟩:=ar.focus (fun b z=>O.fz i b z) (fun b z=>O.fm i b z) hl h3
 refine⟨a,vs,_,v,rfl,hy,ox.of hr,by unfold g_;rw[hl.length,h2];exact e1,k v _ Fj hv ⟨EV,sj,fun H' Pd G Ja gh hG=>?_⟩⟩
 have na:¬Fj a:=fun z=>(O.fm i a (sj a z)).gg hr
 exact c7.mpr ⟨a,vs,rfl,by rw[Ja a na];exact hr,q H' Pd G Ja gh hG⟩
inductive Sel where
 |cy|lst|tup
def Sel.ok:Sel->D->Prop
 | .cy,d=>∃t ks ds,d=.cy true t ks ds
 | .lst,d=>∃ds,d=.lst true ds
 | .tup,d=>∃ds,d=.tup ds
def Sel.t(K:PySem.W.Frag):Sel->TE->TE->TE
 | .cy=>zR
 | .lst=>Gw (DU K)
 | .tup=>Gw (DT K)
theorem DF{K:PySem.W.Frag}(s:Sel){i:Nat}{tk:TE}{ux:UX}(hk:oy tk ux):∀(σ:St) (env:ai) (Z:Set) (H:Hp) (φ:Nat->Set) (d0 kd c:D) (jR:D->D) (R:VK),s.ok d0->Ok Z H env σ φ->env[i]? = some (some d0)->ux env kd->child d0 kd=some (c,jR) ->
  (∀v v0 Fc,σ[i]? = some (some v0)->PB Z H v0 (φ i) c v Fc jR->R v H)->s.t K (jQ i) tk σ H R:=by
 cases s with
 |cy=>exact J9 hk
 |lst=>exact J7 hk
 |tup=>exact J5 hk
def i4(s:Sel)(i:Nat)(uk uy:UX):US:=fun E env=>∃d0 kd y cs jR,env[i]? = some (some d0)/\s.ok d0/\uk env kd/\uy env y/\child d0 kd=some (.lst true cs,jR)/\cs.length<=1000000/\E.nx (env.set i (some (jR (.lst true (cs++[y])))))
theorem u7{I:Nat->Bool}{K:PySem.W.Frag}(s:Sel){i:Nat}{tk ty:TE}{uk uy:UX}(hk:oy tk uk)(hy:oy ty uy):fJ I (tM (Nx K "list" qz (s.t K (jQ i) tk) (k7 ty wF))) (i4 s i uk uy):=by
 intro σ env Z H φ DE E O ⟨d0,kd,y,cs,jR,e0,so,ek,ey,ec,hz,q⟩ k
 refine DF s hk σ env Z H φ d0 kd _ jR _ so O e0 ek ec fun v v0 Fc hv f=>?_
 obtain⟨a,vs,rfl,hr,ha,hl⟩:=bD.mp f.own
 refine⟨.inl ⟨rfl,vs,je.of hr⟩,hy σ env Z H φ y _ O ey fun w hw=>⟨a,vs,w,rfl,rfl,hr,by rw[hl.length];exact hz,fun H3 f7 h3=>?_⟩⟩
 have hW:∀b,(fun b=>b=a) b->φ i b:=fun b z=>by rw[z];exact f.sub a ha
 have LJ:∀b,¬(fun b=>b=a) b->H3 b=H b:=fun b n=>f7 b n
 have fz:=O.fz i a (f.sub a ha)
 have nt:∀vs,¬H a=some (.tup vs):=fun vs=>(O.fm i a (f.sub a ha)).gg
 have GB:ar Z H3 cs vs (fun b=>Fc b/\b≠a):=ar.step (fun b=>b=a) (fun _ z=>z) (fun b o e n=>by rw[f7 b n];exact e) (fun b z=>by rw[z];exact fz) (fun b vs z=>by rw[z];exact nt vs) cs (fun _ z=>z) (fun b z y=>y.2 z) hl
 have st:Own Z H3 y w cE:=Own.step (fun b=>b=a) (fun _ z=>z) (fun b o e n=>by rw[f7 b n];exact e) (fun b z=>by rw[z];exact fz) (fun b vs z=>by rw[z];exact nt vs) y (fun _ z=>z) (fun _ _ z=>z) hw
 have ho:Own Z H3 (jR (.lst true (cs++[y]))) v0 (fun b=>φ i b\/cE b):=by
  refine f.put H3 _ cE (fun b n=>f7 b fun z=>n (by rw[z];exact ha)) (bD.mpr ⟨a,_,rfl,h3,.inl ha,?_⟩) (fun _ z=>z.elim)
  exact(i6 GB st fun _ _ z=>z).mono fun b z=>z.elim (fun z=>⟨.inl z.1,z.2⟩) fun z=>z.elim
 exact k.nx _ σ Z H3 _ q (O.write (W:=fun b=>b=a) (G:=cE) e0 hv hW LJ (fun b z=>by rw[z,h3];exact trivial) (fun _ z=>z.elim) (fun _ z=>z.elim) (fun _ z=>z.elim) ho) (Res.refl.write (i:=i) hW LJ fun _ z=>z) Kp.refl
def l4(s:Sel)(i:Nat)(uj uk uv:UX):US:=fun E env=>∃d0 jd kd x t ks ds k jR,env[i]? = some (some d0)/\s.ok d0/\uj env jd/\uk env kd/\uv env x/\child d0 jd=some (.cy true t ks ds,jR)/\keyOf t kd=some k/\ds.length<=1000000/\E.nx (env.set i (some (jR (.cy true t (dput ks ds k x).1 (dput ks ds k x).2))))
theorem yF{I:Nat->Bool}{K:PySem.W.Frag}(s:Sel){i:Nat}{tj tk tv:TE}{uj uk uv:UX}(hj:oy tj uj)(hk:oy tk uk)(hv:oy tv uv):fJ I (DM (s.t K (jQ i) tj) tk tv) (l4 s i uj uk uv):=by
 intro σ env Z H φ DE E O ⟨d0,jd,kd,x,t,ks,ds,kk,jR,e0,so,ej,ek,ev,ec,Zt,hz,q⟩ k
 refine hv σ env Z H φ x _ O ev fun w hw=>DF s hj σ env Z H φ d0 jd _ jR _ so O e0 ej ec fun v v0 Fc X5 f=>hk σ env Z H φ kd _ O ek fun y hy=>?_
 obtain⟨a,vs,u,rfl,hr,hd,ha,hl⟩:=dR.mp f.own
 obtain⟨u',hp,pJ,hm⟩:=rF (x:=w) hr hd Zt hy (by rw[hl.length];exact hz)
 refine⟨a,_,rfl,hp,?_⟩
 have hW:∀b,(fun b=>b=a) b->φ i b:=fun b z=>by rw[z];exact f.sub a ha
 have LJ:∀b,¬(fun b=>b=a) b->(upd H a u') b=H b:=fun b n=>aE n
 have fz:=O.fz i a (f.sub a ha)
 have nt:∀vs,¬H a=some (.tup vs):=fun vs=>(O.fm i a (f.sub a ha)).gg
 have GB:ar Z (upd H a u') ds vs (fun b=>Fc b/\b≠a):=ar.step (fun b=>b=a) (fun _ z=>z) (fun b o e n=>by rw[aE n];exact e) (fun b z=>by rw[z];exact fz) (fun b vs z=>by rw[z];exact nt vs) ds (fun _ z=>z) (fun b z y=>y.2 z) hl
 have st:Own Z (upd H a u') x w cE:=Own.step (fun b=>b=a) (fun _ z=>z) (fun b o e n=>by rw[aE n];exact e) (fun b z=>by rw[z];exact fz) (fun b vs z=>by rw[z];exact nt vs) x (fun _ z=>z) (fun _ _ z=>z) hw
 obtain⟨q3,q4⟩:=ar.dput (ks:=ks) (k:=kk) (by rw[iA hd,hl.length]) GB st fun _ _ z=>z
 have ho:Own Z (upd H a u') (jR (.cy true t (dput ks ds kk x).1 (dput ks ds kk x).2)) v0 (fun b=>φ i b\/cE b):=by
  refine f.put _ _ cE (fun b n=>aE fun z=>n (by rw[z];exact ha)) (dR.mpr ⟨a,_,u',rfl,aB,by rw[q4];exact pJ,.inl ha,?_⟩) (fun _ z=>z.elim)
  exact q3.mono fun b z=>z.elim (fun z=>⟨.inl z.1,z.2⟩) fun z=>z.elim
 exact k.nx _ σ Z _ _ q (O.write (W:=fun b=>b=a) (G:=cE) e0 X5 hW LJ (fun b z=>by rw[z,aB];exact hm) (fun _ z=>z.elim) (fun _ z=>z.elim) (fun _ z=>z.elim) ho) (Res.refl.write (i:=i) hW LJ fun _ z=>z) Kp.refl
end VS
end
section
namespace VS
open PySem L2
section
variable {Z:Set}{H H':Hp}
theorem ar.set:∀{ds:List D}{vs:List V}{F G:Set}{j:Nat}{d:D}{v:V},ar Z H ds vs F->Own Z H d v G->(∀a,F a->¬G a)->ar Z H (ds.set j d) (vs.set j v) (fun a=>F a\/G a)
 | [],vs,F,G,j,d,v,h,h2,dj=>by rw[ba.mp h];exact ba.mpr rfl
 |e::ds,vs,F,G,0,d,v,h,h2,dj=>by
  obtain⟨w,r,F1,F2,rfl,h1,h3,s1,s2,Fn⟩:=aF.mp h
  exact aF.mpr ⟨v,r,G,F2,rfl,h2,h3,fun _ z=>.inr z,fun a z=>.inl (s2 a z),fun a z y=>dj a (s2 a y) z⟩
 |e::ds,vs,F,G,j+1,d,v,h,h2,dj=>by
  obtain⟨w,r,F1,F2,rfl,h1,h3,s1,s2,Fn⟩:=aF.mp h
  exact aF.mpr ⟨w,r.set j v,F1,fun a=>F2 a\/G a,rfl,h1,ar.set h3 h2 fun a z=>dj a (s2 a z),fun a z=>.inl (s1 a z),fun a z=>z.imp (s2 a) id,fun a z y=>y.elim (Fn a z) fun y=>dj a (s1 a z) y⟩
theorem ar.take:∀{ds:List D}{vs:List V}{F:Set} (n:Nat),ar Z H ds vs F->ar Z H (ds.take n) (vs.take n) F
 | [],vs,F,n,h=>by rw[ba.mp h];simp[ar]
 |e::ds,vs,F,0,h=>by simp[ar]
 |e::ds,vs,F,n+1,h=>by
  obtain⟨w,r,F1,F2,rfl,h1,h3,s1,s2,Fn⟩:=aF.mp h
  exact aF.mpr ⟨w,r.take n,F1,F2,rfl,h1,ar.take n h3,s1,s2,Fn⟩
theorem ar.drop:∀{ds:List D}{vs:List V}{F:Set} (n:Nat),ar Z H ds vs F->ar Z H (ds.drop n) (vs.drop n) F
 | [],vs,F,n,h=>by rw[ba.mp h];simp[ar]
 |e::ds,vs,F,0,h=>by simpa using h
 |e::ds,vs,F,n+1,h=>by
  obtain⟨w,r,F1,F2,rfl,h1,h3,s1,s2,Fn⟩:=aF.mp h
  exact(ar.drop n h3).mono s2
theorem ar.append:∀{ds es:List D}{vs ws:List V}{F G:Set},ar Z H ds vs F->ar Z H es ws G->(∀a,F a->¬G a)->ar Z H (ds++es) (vs++ws) (fun a=>F a\/G a)
 | [],es,vs,ws,F,G,h,h2,dj=>by rw[ba.mp h];exact h2.mono fun _ z=>.inr z
 |e::ds,es,vs,ws,F,G,h,h2,dj=>by
  obtain⟨w,r,F1,F2,rfl,h1,h3,s1,s2,Fn⟩:=aF.mp h
  exact aF.mpr ⟨w,r++ws,F1,fun a=>F2 a\/G a,rfl,h1,ar.append h3 h2 fun a z=>dj a (s2 a z),fun a z=>.inl (s1 a z),fun a z=>z.imp (s2 a) id,fun a z y=>y.elim (Fn a z) fun y=>dj a (s1 a z) y⟩
theorem ar.reverse:∀{ds:List D}{vs:List V}{F:Set},ar Z H ds vs F->ar Z H ds.reverse vs.reverse F
 | [],vs,F,h=>by rw[ba.mp h];simp[ar]
 |e::ds,vs,F,h=>by
  obtain⟨w,r,F1,F2,rfl,h1,h3,s1,s2,dj⟩:=aF.mp h
  rw[List.reverse_cons,List.reverse_cons]
  exact(i6 (ar.reverse h3) h1 fun a z y=>dj a y z).mono fun a z=>z.elim (s2 a) (s1 a)
end
theorem CA{I:Nat->Bool}{σ:St}{env:ai}{Z:Set}{H H3:Hp}{φ:Nat->Set}{i:Nat}{d d':D}{v:V}{a:Addr}{P:ai->Prop}{K:St->Hp->Prop}(O:Ok Z H env σ φ)(e:env[i]? = some (some d))(hv:σ[i]? = some (some v))(ha:φ i a)(f7:∀b,b≠a->H3 b=H b)(hm:lU (H3 a))(ho:Own Z H3 d' v (φ i))(k:KN I Z H (cQ φ) σ P K)(q:P (env.set i (some d'))):K σ H3:=by
 have hW:∀b,(fun b=>b=a) b->φ i b:=fun b z=>by rw[z];exact ha
 have hk:∀b,¬(fun b=>b=a) b->H3 b=H b:=fun b n=>f7 b n
 exact k _ σ Z H3 _ q (O.write (W:=fun b=>b=a) (G:=cE) e hv hW hk (fun b z=>by rw[z];exact hm) (fun _ z=>z.elim) (fun _ z=>z.elim) (fun _ z=>z.elim) (ho.mono fun _ z=>.inl z)) (Res.refl.write (i:=i) hW hk fun _ z=>z) Kp.refl
theorem beside{Z:Set}{H H3:Hp}{a:Addr}(hz:¬Z a)(hm:lU (H a))(f7:∀b,b≠a->H3 b=H b){ds:List D}{vs:List V}{F:Set}(hF:∀b,F b->b≠a)(h:ar Z H ds vs F):ar Z H3 ds vs F:=
 ar.step (fun b=>b=a) (fun _ z=>z) (fun b o e n=>by rw[f7 b n];exact e) (fun b z=>by rw[z];exact hz) (fun b vs z=>by rw[z];exact hm.gg) ds (fun _ z=>z) (fun b z y=>hF b y z) h
theorem p1{Z:Set}{H H3:Hp}{a:Addr}(hz:¬Z a)(hm:lU (H a))(f7:∀b,b≠a->H3 b=H b){d:D}{v:V}{F:Set}(hF:∀b,F b->b≠a)(h:Own Z H d v F):Own Z H3 d v F:=
 Own.step (fun b=>b=a) (fun _ z=>z) (fun b o e n=>by rw[f7 b n];exact e) (fun b z=>by rw[z];exact hz) (fun b vs z=>by rw[z];exact hm.gg) d (fun _ z=>z) (fun b z y=>hF b y z) h
def tK(i:Nat)(uk uv:UB):US:=fun E env=>uv env fun r1 e1=>(∃d0,e1[i]? = some (some d0))/\uk e1 fun r2 e2=>∃d k j ds,r1=.a8 d/\r2=.a8 (.int k)/\e2[i]? = some (some (.lst true ds))/\xy ds.length k=some j/\E.nx (e2.set i (some (.lst true (ds.set j d))))
theorem C_{I:Nat->Bool}{i:Nat}{tk tv:TE}{uk uv:UB}(hk:aY tk uk)(hv:aY tv uv):fJ I (yx tv (OR (jQ i) tk IS)) (tK i uk uv):=by
 intro σ env Z H φ DE E O q k
 refine hv σ env Z H φ _ _ O q fun r1 aL v1 Z1 H1 bI G1 ⟨⟨d0,e0⟩,q1⟩ O1 s1 jh=>?_
 obtain⟨w0,Ls,_⟩:=O1.own i d0 e0
 refine⟨w0,Ls,hk σ aL Z1 H1 bI _ _ O1 q1 fun r2 fZ v2 Z2 H2 gU G2 ⟨d,kk,j,ds,er,T8,ei,ej,q2⟩ O2 s2 nV=>?_⟩
 subst er T8
 obtain⟨yL,O6⟩:=s1.seq s2
 have jh:Own Z1 H1 d v1 G1:=jh
 have h1:Own Z2 H2 d v1 G1:=s2.keep O1 s1.d jh
 obtain⟨w,hw,ho⟩:=O2.own i _ ei
 rw[Ls] at hw;cases hw
 obtain⟨a,vs,rfl,hr,ha,hl⟩:=bD.mp ho
 refine⟨a,vs,kk,j,rfl,a_.mp (show Own Z2 H2 (.int kk) v2 G2 from nV),hr,by rw[hl.length];exact ej,?_⟩
 have E1:∀b,cQ gU b->¬G1 b:=fun b z y=>yL.d b z (.inl y)
 have na:¬G1 a:=E1 a ⟨i,ha⟩
 have f7:∀b,b≠a->upd H2 a (.lst (vs.set j v1)) b=H2 b:=fun b n=>aE n
 have hW:∀b,(fun b=>b=a) b->gU i b:=fun b z=>by rw[z];exact ha
 have fz:=O2.fz i a ha
 have fm:=O2.fm i a ha
 refine k.nx _ σ Z2 _ _ q2 (O2.write (W:=fun b=>b=a) (G:=G1) ei Ls hW (fun b n=>f7 b n) (fun b z=>by rw[z,aB];exact trivial) (fun b z y=>E1 b y z) (fun b z=>yL.gz b (.inl z)) (fun b z=>yL.gm b (.inl z)) (bD.mpr ⟨a,_,rfl,aB,.inl ha,?_⟩)) (yL.write (i:=i) hW (fun b n=>f7 b n) fun b z=>.inl z) Kp.refl
 refine(ar.set (beside fz fm f7 (fun b z=>z.2) hl) (p1 fz fm f7 (fun b z y=>na (by rw[<-y];exact z)) h1) fun b z y=>E1 b ⟨i,z.1⟩ y).mono fun b z=>?_
 rcases z with z|z
 ·exact⟨.inl z.1,z.2⟩
 ·exact⟨.inr z,fun y=>na (by rw[<-y];exact z)⟩
def CV(i:Nat):UB:=fun env Q=>∃ds d,env[i]? = some (some (.lst true ds))/\ds[ds.length-1]? = some d/\bare d=true/\Q (.a8 d) (env.set i (some (.lst true ds.dropLast)))
theorem GJ{K:PySem.W.Frag}{i:Nat}:aY (JY K "list" NF (jQ i)) (CV i):=by
 intro σ env Z H φ Q R O ⟨ds,d,e,ed,hb,q⟩ k
 obtain⟨v,hv,ho⟩:=O.own i _ e
 obtain⟨a,vs,rfl,hr,ha,hl⟩:=bD.mp ho
 obtain⟨y,ey,hy⟩:=hl.get ed
 refine⟨_,hv,.inl ⟨rfl,vs,je.of hr⟩,a,vs,y,rfl,rfl,hr,by rw[hl.length];exact ey,?_⟩
 have f7:∀b,b≠a->upd H a (.lst vs.dropLast) b=H b:=fun b n=>aE n
 have hW:∀b,(fun b=>b=a) b->φ i b:=fun b z=>by rw[z];exact ha
 have fz:=O.fz i a ha
 have fm:=O.fm i a ha
 have FJ:ar Z (upd H a (.lst vs.dropLast)) ds.dropLast vs.dropLast (fun b=>φ i b/\b≠a):=by
  have q:=(beside fz fm f7 (fun b z=>z.2) hl).take (ds.length-1)
  have e1:vs.take (ds.length-1)=vs.dropLast:=by rw[List.dropLast_eq_take,hl.length]
  rw[e1,<-List.dropLast_eq_take] at q
  exact q
 refine k (.a8 d) _ y Z _ _ cE q (O.write (W:=fun b=>b=a) (G:=cE) (d':=.lst true ds.dropLast) e hv hW (fun b n=>f7 b n) (fun b z=>by rw[z,aB];exact trivial) (fun _ z=>z.elim) (fun _ z=>z.elim) (fun _ z=>z.elim) (bD.mpr ⟨a,_,rfl,aB,.inl ha,FJ.mono fun b z=>⟨.inl z.1,z.2⟩⟩)) (Res.refl.write (i:=i) hW (fun b n=>f7 b n) fun _ z=>z) ?_
 exact p1 fz fm f7 (fun _ z=>z.elim) (hy.bare d hb)
def jX(i:Nat):US:=fun E env=>∃ds,env[i]? = some (some (.lst true ds))/\E.nx (env.set i (some (.lst true ds.reverse)))
theorem wI{I:Nat->Bool}{K:PySem.W.Frag}{i:Nat}:fJ I (tM (JY K "list" w4 (jQ i))) (jX i):=by
 intro σ env Z H φ DE E O ⟨ds,e,q⟩ k
 obtain⟨v,hv,ho⟩:=O.own i _ e
 obtain⟨a,vs,rfl,hr,ha,hl⟩:=bD.mp ho
 refine⟨_,hv,.inl ⟨rfl,vs,je.of hr⟩,a,vs,rfl,rfl,hr,?_⟩
 have f7:∀b,b≠a->upd H a (.lst vs.reverse) b=H b:=fun b n=>aE n
 exact CA (d':=.lst true ds.reverse) O e hv ha f7 (by rw[aB];exact trivial) (bD.mpr ⟨a,_,rfl,aB,ha,(beside (O.fz i a ha) (O.fm i a ha) f7 (fun b z=>z.2) hl).reverse⟩) k.nx q
def iH(i:Nat)(ua:UA):US:=fun E env=>(∃ds,env[i]? = some (some (.lst true ds)))/\ua env fun rs e=>∃xs ds,rs=[.a8 (.lst true xs)]/\a9 xs=true/\e[i]? = some (some (.lst true ds))/\ds.length+xs.length<=1000000/\E.nx (e.set i (some (.lst true (ds++xs))))
theorem yE{I:Nat->Bool}{K:PySem.W.Frag}{i:Nat}{t:TA}{u:UA}(h:oz t u):fJ I (tM (Nx K "list" z7 (jQ i) t)) (iH i u):=by
 intro σ env Z H φ DE E O ⟨⟨Zv,e0⟩,q⟩ k
 obtain⟨v,hv,ho⟩:=O.own i _ e0
 obtain⟨a,Qp,rfl,S6,_,_⟩:=bD.mp ho
 refine⟨_,hv,.inl ⟨rfl,Qp,je.of S6⟩,h σ env Z H φ _ _ O q fun rs aL vs Z1 H1 bI G1 ⟨xs,ds,e1,hb,e2,hz,q1⟩ O1 r1 ok=>?_⟩
 subst e1
 obtain⟨w,ws,Ga,Gb,rfl,h1,h2,sa,_,_⟩:=ok
 cases (show ws=[] from h2)
 obtain⟨v',zg,gh⟩:=O1.own i _ e2
 rw[hv] at zg;cases zg
 obtain⟨a',lR,ea,hr,ha,hl⟩:=bD.mp gh
 cases ea
 have h1:Own Z1 H1 (.lst true xs) w Ga:=h1
 obtain⟨b,zs,rfl,S5,wb,Ii⟩:=bD.mp h1
 have Yu:=Ii.bare xs hb
 refine⟨a,b,lR,zs,rfl,rfl,hr,S5,by rw[hl.length,Ii.length];exact Nat.le_of_lt (fc hz),?_⟩
 have f7:∀b,b≠a->upd H1 a (.lst (lR++zs)) b=H1 b:=fun b n=>aE n
 have fz:=O1.fz i a ha
 have fm:=O1.fm i a ha
 refine CA (d':=.lst true (ds++xs)) O1 e2 hv ha f7 (by rw[aB];exact trivial) (bD.mpr ⟨a,_,rfl,aB,ha,?_⟩) (k.nx.after r1.drop Kp.refl) q1
 exact(ar.append (beside fz fm f7 (fun b z=>z.2) hl) (beside fz fm f7 (fun _ z=>z.elim) Yu) fun _ _ z=>z).mono fun b z=>z.elim id fun z=>z.elim
end VS
end
section
namespace L2
open PySem PySem.Spec PyProof.Rows
def IT:R2:=fun x y H Q=>∃(z:Str) (n:Int),x=.str z/\y=.int n/\0<=n/\n<=1000/\z.length<=1000/\Q (.str (Txt.mul z n)) H
theorem Hz{X:Cx}:jf X (binaryOp .Mult) IT:=by
 intro pins s σ H x y v u Q I rx ry ⟨z,n,e1,e2,h0,h1,hz,q⟩
 subst e1 e2
 obtain⟨t,rfl⟩:=rx
 obtain⟨t',rfl⟩:=ry
 refine SB.mul (A:=X.A) ⟨?_,?_,?_⟩ fun t2 k=>⟨.str (Txt.mul z n),H,I.tok _,⟨_,rfl⟩,q⟩
 ·have a:¬n < -(2 ^ 63:Int):=by omega
  have b:¬n >= 2 ^ 63:=by omega
  rw[decide_eq_false a,decide_eq_false b];rfl
 ·intro h2 _ h3
  have h4:(2 ^ 63-1:Int) / 1000<=(2 ^ 63-1) / n:=by
   have:(0:Int)<n:=by omega
   rw[Int.le_ediv_iff_mul_le this]
   have:=Int.ediv_mul_le (2 ^ 63-1:Int) (show(1000:Int)≠0 by decide)
   calc (2 ^ 63-1:Int) / 1000 * n<=(2 ^ 63-1) / 1000 * 1000:=Int.mul_le_mul_of_nonneg_left h1 (by decide)
    _<=_:=this
  have h5:(2 ^ 63-1:Int) / 1000=9223372036854775:=by decide
  omega
 ·intro _ _
  have:z.length * n.toNat<=1000 * 1000:=Nat.mul_le_mul hz (by omega)
  exact decide_eq_false (Nat.not_lt.mpr (Nat.le_trans this (by decide)))
end L2
namespace VS
open PySem L2
def Fb:D->D->(D->Prop)->Prop
 | .str x,.int n,P=>0<=n/\n<=1000/\x.length<=1000/\P (.str (Txt.mul x n))
 |_,_,_=>False
theorem Ij:iG IT Fb:=by
 intro Z H d1 d2 v1 v2 F1 F2 P R h1 h2 hf k
 cases d1<;>try exact hf.elim
 cases d2<;>try exact hf.elim
 rw[a_] at h2;rw[dN] at h1
 exact⟨_,_,h1,h2,hf.1,hf.2.1,hf.2.2.1,k _ _ _ _ hf.2.2.2 (iV.refl (dN.mpr rfl))⟩
def uu:D->D->(D->Prop)->Prop
 | .str x,.str y,P=>x.length+y.length<=1000000/\P (.str (x++y))
 |_,_,_=>False
theorem vK:iG (fun x y H Q=>∃i j:Str,x=.str i/\y=.str j/\i.length+j.length<=sizeLine/\Q (.str (i++j)) H) uu:=by
 intro Z H d1 d2 v1 v2 F1 F2 P R h1 h2 hf k
 cases d1<;>try exact hf.elim
 cases d2<;>try exact hf.elim
 rw[dN] at h1 h2
 exact⟨_,_,h1,h2,Nat.le_of_lt (fc hf.1),k _ _ _ _ hf.2 (iV.refl (dN.mpr rfl))⟩
theorem iV.lst{Z:Set}{H H':Hp}{ds:List D}{vs:List V}{p:Addr}(hn:H p=none)(hs:cf H H')(hp:H' p=some (.lst vs))(ho:ar Z H ds vs cE):iV Z H H' (.lst true ds) (.ref p) (fun a=>a=p):=
 ⟨hs,bD.mpr ⟨p,vs,rfl,hp,rfl,(ho.grow hs).mono fun _ z=>z.elim⟩,fun a z=>by subst z;exact⟨hn,by rw[hp];exact trivial⟩⟩
def Ca:D->D->(D->Prop)->Prop
 | .lst true xs,.lst true ys,P=>a9 xs=true/\a9 ys=true/\xs.length+ys.length<=1000000/\P (.lst true (xs++ys))
 |_,_,_=>False
theorem vJ:iG IU Ca:=by
 intro Z H d1 d2 v1 v2 F1 F2 P R h1 h2 hf k
 cases d1<;>try exact hf.elim
 rename_i o1 xs
 cases d2<;>try (cases o1<;>exact hf.elim)
 rename_i o2 ys
 cases o1<;>cases o2<;>try exact hf.elim
 obtain⟨b1,b2,hz,p⟩:=hf
 obtain⟨a,vs,rfl,hr,ha,hl⟩:=bD.mp h1
 obtain⟨b,ws,rfl,S5,hb,Ii⟩:=bD.mp h2
 refine⟨a,b,vs,ws,rfl,rfl,hr,S5,by rw[hl.length,Ii.length];exact hz,fun q H2 hn hs hq=>?_⟩
 exact k _ _ _ _ p (iV.lst hn hs hq ((ar.append (hl.bare xs b1) (Ii.bare ys b2) fun _ z=>z.elim).mono fun _ z=>z.elim id id))
def eA{α:Type}(xs:List α)(lo hi:Option Int):List α:=(xs.drop (HT.eQ xs.length 0 lo)).take (HT.eQ xs.length xs.length hi-HT.eQ xs.length 0 lo)
abbrev UO:=ai->(Option Int->ai->Prop)->Prop
def vX(t:TO)(u:UO):Prop:=∀(σ:St) (env:ai) (Z:Set) (H:Hp) (φ:Nat->Set) (Q:Option Int->ai->Prop) (R:Option Int->Hp->Prop),Ok Z H env σ φ->u env Q ->
 (∀o bT Z' H' cJ,Q o bT->Ok Z' H' bT σ cJ->Res Z H (cQ φ) Z' H' (cQ cJ) cE->R o H')->t σ H R
def hE:UO:=fun env Q=>Q none env
def l0(u:UB):UO:=fun env Q=>u env fun r e=>∃i,r=.a8 (.int i)/\Q (some i) e
theorem yD:vX zP hE:=fun σ env Z H φ Q R O q k=>k none env Z H φ q O Res.refl
theorem Dc{t:TE}{u:UB}(h:aY t u):vX (ID t) (l0 u):=fun σ env Z H φ Q R O q k=>
 h σ env Z H φ _ _ O q fun r aL v Z1 H1 bI G ⟨i,e,q1⟩ O1 r1 ok=>⟨i,by subst e;exact a_.mp (show Own Z1 H1 (.int i) v G from ok),k (some i) aL Z1 H1 bI q1 O1 r1.drop⟩
def Nk(ua:UB)(ul uh:UO):UB:=fun env Q=>ua env fun r e1=>ul e1 fun lo e2=>uh e2 fun hi e3=>∃o ds,r.at e3=some (.lst o ds)/\a9 ds=true/\Q (.a8 (.lst true (eA ds lo hi))) e3
theorem J0{K:PySem.W.Frag}{t:TE}{u:UB}{tl th:TO}{ul uh:UO}(h:aY t u)(hl:vX tl ul)(hh:vX th uh):aY (Qt (Ke K) t tl th) (Nk u ul uh):=by
 intro σ env Z H φ Q R O q k
 refine h σ env Z H φ _ _ O q fun x1 aL v1 Z1 H1 bI G1 q1 O1 r1 jh=>?_
 refine hl σ aL Z1 H1 bI _ _ O1 q1 fun lo fZ Z2 H2 gU q2 O2 r2=>?_
 refine hh σ fZ Z2 H2 gU _ _ O2 q2 fun hi sZ Z3 H3 yf ⟨o,ds,ea,hb,q3⟩ O3 r3=>?_
 obtain⟨z8,_⟩:=r1.seq r2
 have nV:=(jh.keep O1 r2 r1.d)
 have Af:=nV.keep O2 r3 fun a z y=>z8.d a z (.inl y)
 obtain⟨F,ho⟩:=eh O3 Af ea
 obtain⟨a,vs,rfl,hr,B4⟩:=fF ho
 refine⟨a,vs,rfl,.inl hr,fun p H4 hn hs hp=>?_⟩
 have hc:ar Z3 H3 (eA ds lo hi) (ki vs lo hi) cE:=by
  unfold eA ki
  rw[B4.length]
  exact((B4.bare ds hb).drop _).take _
 have n:=iV.lst hn hs hp hc
 exact k (.a8 _) sZ _ Z3 H4 yf _ q3 (O3.grow hs) (n.res O3 (z8.drop.trans r3)) n.own
def kM:List D->(D->Prop)->Prop
 | [.lst _ ds],P=>a9 ds=true/\P (.lst true ds)
 | [.tup ds],P=>a9 ds=true/\P (.lst true ds)
 |_,_=>False
theorem B_{K:PySem.W.Frag}:MW (fun xs H Q=>∃p ys,xs=[V.ref p]/\(je K H p ys\/ox K H p ys)/\∀l,H l=none->Q (.ref l) (upd H l (.lst ys))) kM:=by
 intro Z H ds vs P R s f k
 cases s with
 |nil=>exact f.elim
 |cons h t=>
  obtain⟨F,h⟩:=h
  cases t with
  |cons h2 t2=>rename_i d _ _ _ _ _;cases d<;>exact f.elim
  |nil=>
   rename_i d v
   cases d<;>try exact f.elim
   ·obtain⟨a,vs,rfl,hr,hl⟩:=c7.mp h
    exact⟨a,vs,rfl,.inr (.inl (.inl hr)),fun l hn=>k _ _ _ _ f.2 (iV.lst hn (cf.upd hn) aB (hl.bare _ f.1))⟩
   ·obtain⟨a,vs,rfl,hr,hl⟩:=fF h
    exact⟨a,vs,rfl,.inl (.inl hr),fun l hn=>k _ _ _ _ f.2 (iV.lst hn (cf.upd hn) aB (hl.bare _ f.1))⟩
def flat:D->Bool
 | .bJ=>true | .bl _=>true | .int _=>true | .str _=>true|_=>false
def oj:D->D->Bool
 | .bJ,.bJ=>true
 | .bl a,.bl b=>a==b
 | .bl a,.int b=>(if a then 1 else 0)==b
 | .int a,.bl b=>a==(if b then 1 else 0)
 | .int a,.int b=>a==b
 | .str a,.str b=>a==b
 |_,_=>false
def Zq:D->V
 | .bJ=>.bJ | .bl b=>.bl b | .int i=>.int i | .str x=>.str x|_=>.bJ
theorem mF{Z:Set}{H:Hp}{d:D}{v:V}{F:Set}(h:Own Z H d v F)(e:flat d=true):lg v=true/\v=Zq d:=by
 cases d<;>simp only[flat,Bool.false_eq_true] at e
 ·rw[kG.mp h];exact⟨rfl,rfl⟩
 ·rw[c_.mp h];exact⟨rfl,rfl⟩
 ·rw[a_.mp h];exact⟨rfl,rfl⟩
 ·rw[dN.mp h];exact⟨rfl,rfl⟩
theorem Ip{Z:Set}{H:Hp}{d e:D}{v w:V}{F G:Set}(h:Own Z H d v F)(h':Own Z H e w G)(fd:flat d=true)(fe:flat e=true):FO v w=oj d e:=by
 rw[(mF h fd).2,(mF h' fe).2]
 cases d<;>(try (simp[flat] at fd;done))<;>cases e<;>first|rfl|(simp[flat] at fe;done)
theorem za{Z:Set}{H:Hp}{d:D}{v:V}{F:Set}(h:Own Z H d v F)(fd:flat d=true):∀{ds:List D}{vs:List V}{G:Set},ar Z H ds vs G->ds.all flat=true->vs.all lg=true/\QM v vs=ds.any fun x=>oj x d
 | [],vs,G,hl,_=>by rw[ba.mp hl];exact⟨rfl,rfl⟩
 |e::ds,vs,G,hl,fl=>by
  obtain⟨w,r,F1,F2,rfl,h1,h3,s1,s2,dj⟩:=aF.mp hl
  rw[List.all_cons,Bool.and_eq_true] at fl
  obtain⟨i1,i2⟩:=za h fd h3 fl.2
  refine⟨by rw[List.all_cons,(mF h1 fl.1).1,i1];rfl,?_⟩
  show(FO w v||QM v r)=_
  rw[List.any_cons,i2,Ip h1 h fl.1 fd]
def Im(neg:Bool):D->D->(D->Prop)->Prop
 |d,.lst _ ds,P=>flat d=true/\ds.all flat=true/\P (.bl (if neg then !(ds.any fun x=>oj x d) else ds.any fun x=>oj x d))
 |d,.tup ds,P=>flat d=true/\ds.all flat=true/\P (.bl (if neg then !(ds.any fun x=>oj x d) else ds.any fun x=>oj x d))
 |_,_,_=>False
theorem ur{K:PySem.W.Frag}{neg:Bool}:iG (R9 K neg) (Im neg):=by
 intro Z H d1 d2 v1 v2 F1 F2 P R h1 h2 hf k
 cases d2<;>try exact hf.elim
 ·obtain⟨f1,f2,p⟩:=hf
  obtain⟨a,vs,rfl,hr,hl⟩:=c7.mp h2
  obtain⟨i1,i2⟩:=za h1 f1 hl f2
  refine⟨a,vs,rfl,.inr (.inl (.inl hr)),(mF h1 f1).1,i1,?_⟩
  rw[i2]
  exact k _ _ _ _ p (iV.refl (c_.mpr rfl))
 ·obtain⟨f1,f2,p⟩:=hf
  obtain⟨a,vs,rfl,hr,hl⟩:=fF h2
  obtain⟨i1,i2⟩:=za h1 f1 hl f2
  refine⟨a,vs,rfl,.inl (.inl hr),(mF h1 f1).1,i1,?_⟩
  rw[i2]
  exact k _ _ _ _ p (iV.refl (c_.mpr rfl))
def OY:List D->(D->Prop)->Prop
 | [.int i],P=>P (.int i)
 | [.bl b],P=>P (.int (if b then 1 else 0))
 |_,_=>False
def wD(t:Bool):UB:=fun env Q=>Q (.a8 (.cy true t [] [])) env
theorem Bo:aY C5 (wD false):=fun σ env Z H φ Q R O q k=>fun p hn=>by
 have n:iV Z H (upd H p (.dK [])) (.cy true false [] []) (.ref p) (fun a=>a=p):=⟨cf.upd hn,dR.mpr ⟨p,[],_,rfl,aB,⟨[],rfl,rfl,by simp,rfl⟩,rfl,ba.mpr rfl⟩,fun a z=>by subst z;exact⟨hn,by rw[aB];exact trivial⟩⟩
 exact k (.a8 _) env _ Z _ φ _ q (O.grow n.same) (n.res O Res.refl) n.own
end VS
end
section
namespace VS
open PySem L2
section
variable {Z:Set}{H H':Hp}{env:ai}{σ:St}{φ:Nat->Set}{p:Addr}
theorem Ok.f7(O:Ok Z H env σ φ)(np:¬cQ φ p)(nz:¬Z p)(hp:lU (H p))(f7:∀b,b≠p->H' b=H b):Ok Z H' env σ φ:=by
 refine⟨fun i d e=>let ⟨w,hw,h⟩:=O.own i d e;⟨w,hw,p1 nz hp f7 (fun b z y=>np ⟨i,by rw[<-y];exact z⟩) h⟩,O.dj,O.fz,fun i a h=>?_,fun a z=>?_,O.len⟩
 ·rw[f7 a fun y=>np ⟨i,by rw[<-y];exact h⟩];exact O.fm i a h
 ·rw[f7 a fun y=>nz (by rw[<-y];exact z)];exact O.zh a z
theorem Res.Zy{Z0:Set}{H0:Hp}{F0 F2 G G':Set}(r:Res Z0 H0 F0 Z H F2 G)(gp:G p)(f7:∀b,b≠p->H' b=H b)(hm:lU (H' p))(hG:∀a,G' a->G a):Res Z0 H0 F0 Z H' F2 G':=by
 refine⟨r.z,r.zn,fun a o e n=>?_,r.f,fun a z=>r.g a (hG a z),fun a z y=>r.d a z (hG a y),fun a z=>r.gz a (hG a z),fun a z=>?_⟩
 ·have:a≠p:=fun y=>by
   rcases r.g a (by rw[y];exact gp) with z|z
   ·exact n z
   ·rw[z] at e;cases e
  rw[f7 a this];exact r.k a o e n
 ·by_cases y:a=p
  ·rw[y];exact hm
  ·rw[f7 a y];exact r.gm a (hG a z)
end
def nh(uk uv:UB):UB:=fun env Q=>uk env fun r1 e1=>uv e1 fun r2 e2=>∃kd k d,r1=.a8 kd/\DH kd=some k/\r2=.a8 d/\Q (.a8 (.cy true false [.s k] [d])) e2
theorem Bp{tk tv:TE}{uk uv:UB}(hk:aY tk uk)(hv:aY tv uv):aY (IJ [(tk,tv)]) (nh uk uv):=by
 intro σ env Z H φ Q R O q k p hn
 have r0:Res Z H (cQ φ) Z (upd H p (.dK [])) (cQ φ) (fun a=>a=p):=⟨fun _ z=>z,fun _ z=>.inl z,fun a o e _=>cf.upd hn a o e,fun _ z=>.inl z,fun a z=>.inr (by rw[z];exact hn),fun a ⟨i,z⟩ y=>(O.fm i a z).ne (by rw[y];exact hn),fun a z y=>O.zh a y (by rw[z];exact hn),fun a z=>by rw[z,aB];exact trivial⟩
 refine hk σ env Z _ φ _ _ (O.grow (cf.upd hn)) q fun r1 aL v1 Z1 H1 bI G1 q1 O1 s1 jh=>?_
 refine hv σ aL Z1 H1 bI _ _ O1 q1 fun r2 fZ v2 Z2 H2 gU G2 ⟨kd,kk,d,e1,ek,e2,q2⟩ O2 s2 nV=>?_
 subst e1 e2
 obtain⟨U5,Zw⟩:=r0.seq s1
 obtain⟨J',O7⟩:=U5.seq s2
 have jh:Own Z1 H1 kd v1 G1:=jh
 have nV:Own Z2 H2 d v2 G2:=nV
 have gp:((fun a=>a=p\/G1 a) p\/G2 p):=.inl (.inl rfl)
 have np:¬cQ gU p:=fun z=>J'.d p z gp
 have nz:¬Z2 p:=J'.gz p gp
 have h1:H1 p=some (.dK []):=s1.k p _ aB fun⟨i,z⟩=>(O.fm i p z).ne hn
 have h2:H2 p=some (.dK []):=s2.k p _ h1 fun z=>U5.d p z (.inl rfl)
 have hm:lU (H2 p):=by rw[h2];exact trivial
 refine⟨h2,[(kk,v2)],by rw[pU ek jh];rfl,by simp,?_⟩
 have f7:∀b,b≠p->upd H2 p (.dK (n4 [] [(kk,v2)])) b=H2 b:=fun b n=>aE n
 have ng:¬G2 p:=O7 p (.inl rfl)
 refine k (.a8 _) fZ (.ref p) Z2 _ gU (fun a=>G2 a\/a=p) q2 (O2.f7 np nz hm f7) (J'.Zy (p:=p) gp f7 (by rw[aB];exact trivial) fun a z=>z.elim .inr fun z=>.inl (.inl z)) ?_
 show Own Z2 _ (.cy true false [.s kk] [d]) (.ref p) _
 refine dR.mpr ⟨p,[v2],_,rfl,aB,⟨[kk],rfl,rfl,by simp,rfl⟩,.inr rfl,?_⟩
 exact aF.mpr ⟨v2,[],G2,cE,rfl,p1 nz hm f7 (fun b z y=>ng (by rw[<-y];exact z)) nV,ba.mpr rfl,fun a z=>⟨.inl z,fun y=>ng (by rw[<-y];exact z)⟩,fun _ z=>z.elim,fun _ _ z=>z⟩
def pZ:List D->(D->Prop)->Prop
 | [.cy _ false ks ds],P=>a9 ds=true/\P (.cy true false ks ds)
 |_,_=>False
theorem B':MW (fun xs H Q=>∃a aw,xs=[V.ref a]/\Rd H a (.dK aw)/\∀q,H q=none->Q (.ref q) (upd H q (.dK aw))) pZ:=by
 intro Z H ds vs P R s f k
 cases s with
 |nil=>exact f.elim
 |cons h t=>
  obtain⟨F,h⟩:=h
  cases t with
  |cons h2 t2=>
   rename_i d _ _ _ _ _
   cases d<;>try exact f.elim
   rename_i t _ _
   cases t<;>exact f.elim
  |nil=>
   rename_i d v
   cases d<;>try exact f.elim
   rename_i o t ks ds
   cases t<;>try exact f.elim
   obtain⟨a,vs,u,rfl,hr,⟨kl,rfl,rn,zj,rfl⟩,hl⟩:=gJ h
   refine⟨a,_,rfl,hr,fun q hn=>k _ _ _ (fun a=>a=q) f.2 ⟨cf.upd hn,dR.mpr ⟨q,vs,_,rfl,aB,⟨kl,rfl,rn,zj,rfl⟩,rfl,((hl.bare _ f.1).grow (cf.upd hn)).mono fun _ z=>z.elim⟩,fun b z=>by subst z;exact⟨hn,by rw[aB];exact trivial⟩⟩⟩
structure pO(t:Bool) where
 ks:List DK
 ds:List D
instance {t:Bool}:Acc (pO t):=⟨(·.ds),fun a u vs=>DictAt t u a.ks vs,fun{a u vs} h=>by
 cases t with
 |false=>obtain⟨_,_,_,_,rfl⟩:=h;exact trivial
 |true=>obtain⟨_,_,_,_,rfl⟩:=h;exact trivial⟩
theorem uz{α β:Type}{k:DK}{x:α}{y:β}:∀{ks:List DK}{ds:List α}{vs:List β},ks.length=ds.length->ks.length=vs.length->(dput ks ds k x).1=(dput ks vs k y).1
 | [],ds,vs,h,h'=>by cases ds<;>cases vs<;>simp[dput] at h h' ⊢
 |_::_,[],vs,h,h'=>by simp at h
 |_::_,_::_,[],h,h'=>by simp at h'
 |k'::ks,d::ds,v::vs,h,h'=>by
  unfold dput
  by_cases e:k'=k
  ·rw[if_pos e,if_pos e]
  ·rw[if_neg e,if_neg e]
   simp only[uz (ks:=ks) (ds:=ds) (vs:=vs) (x:=x) (y:=y) (by simpa using h) (by simpa using h')]
def kf{t:Bool}(uk uv:UB):UL (pO t):=fun acc e k=>uk e fun r1 e1=>uv e1 fun r2 e2=>∃kd kk d,r1=.a8 kd/\keyOf t kd=some kk/\r2=.a8 d/\acc.ds.length<=1000000/\k ⟨(dput acc.ks acc.ds kk d).1,(dput acc.ks acc.ds kk d).2⟩ e2
theorem Bn{t:Bool}{I:Nat->Bool}{p:Addr}{tk tv:TE}{uk uv:UB}(hk:aY tk uk)(hv:aY tv uv):mX I p (C4 tk tv p) (kf (t:=t) uk uv):=by
 intro Z1 H1 F1 rZ acc e τ H Z φ A vs k K c q kk
 refine hk τ e Z H φ _ _ c.ok q fun r1 e1 y Z3 H3 yf G3 q3 O3 s3 Af=>?_
 refine hv τ e1 Z3 H3 yf _ _ O3 q3 fun r2 e4 v Z4 H4 FV G4 ⟨kd,key,d,Zs,ek,T8,hz,q4⟩ O4 s4 NV=>?_
 subst Zs T8
 have Af:Own Z3 H3 kd y G3:=Af
 have NV:Own Z4 H4 d v G4:=NV
 have hy:=s4.keep O3 s3.d Af
 obtain⟨ZS,_⟩:=s3.seq s4
 obtain⟨u,hu,kY⟩:=c.at_
 have c4:CS I Z1 H1 F1 rZ p acc e1 τ H3 Z3 yf A vs:=c.next O3 s3.drop Kp.refl
 obtain⟨u3,SR,xJ⟩:=c4.at_
 have Ow:H4 p=some u3:=s4.k p _ SR fun z=>c4.res.d p z (.inr rfl)
 have hlen:vs.length<=1000000:=by rw[c4.own.length];exact hz
 obtain⟨u',hp,pJ,hm⟩:=rF (x:=v) Ow xJ ek hy hlen
 refine⟨_,hp,?_⟩
 have f7:∀b,b≠p->upd H4 p u' b=H4 b:=fun b n=>aE n
 have q:=(c4.res.seq s4).1
 refine kk _ e4 τ _ Z4 FV _ _ q4 (c4.emit (acc2:=⟨(dput acc.ks acc.ds key d).1,(dput acc.ks acc.ds key d).2⟩) O4 s4 NV f7 aB (vs2:=(dput acc.ks vs key v).2) ?_ ?_) ((s3.Cp c.ok).trans (c4.Cp (s4.Cp O3) (fun z=>q.gz p (.inl (.inr rfl)) z) (fun lR z=>by rw[Ow] at z;cases z;exact Acc.QL (a:=acc) xJ) f7))
 ·show DictAt t u' (dput acc.ks acc.ds key d).1 _
  rw[uz (by rw[iA xJ,c4.own.length]<;>rfl) (iA xJ) (y:=v)]
  exact pJ
 ·intro A' G' hA hG dj
  exact(ar.dput (by rw[iA xJ,c4.own.length]<;>rfl) hA hG dj).1
def ni(t:Bool)(n:Nat)(ui:UI)(ug:UG)(ut:UT)(ul:UL (pO t)):UB:=fun env Q=>ui env fun items e=>ef ug ut ul (fun acc e'=>Q (.a8 (.cy true t acc.ks acc.ds)) (e'.drop n)) items ⟨[],[]⟩ (List.replicate n none++e)
theorem Br{t:Bool}{X:Cx}{sc:Scope}{N:List Str}{tg:Expr}{ifs:List Expr}{inner:Value->PySem.Env->Sem Unit}{n:Nat}{wi:TI}{ui:UI}{ug:UG}{ut:UT}{ul:UL (pO t)}(hi:s_ wi ui)(hb:∀C s H0 fp pins p,∃g tt tl,PG (dA X sc N C s H0 fp pins) tg g/\Cy (dA X sc N C s H0 fp pins) ifs tt/\PN (dA X sc N C s H0 fp pins) (inner (.ref p) (dA X sc N C s H0 fp pins).env) tl/\jD (outs n) g ug/\gS tt ut/\mX (outs n) p tl ul):aY (jk X sc N tg ifs inner (d0 t) n wi) (ni t n ui ug ut ul):=
 tS (acc0:=(⟨[],[]⟩:pO t)) rfl (by cases t<;>exact⟨[],rfl,rfl,by simp,rfl⟩) (fun acc=>.cy true t acc.ks acc.ds) (fun{acc u vs Z H A p} hu ha ho np=>
  dR.mpr ⟨p,vs,u,rfl,hu,ha,.inr rfl,ho.mono fun a z=>⟨.inl z,fun y=>np (by rw[<-y];exact z)⟩⟩) hi hb
end VS
end
section
namespace L2
open PySem PySem.Spec PyProof.Rows
theorem qM{α β:Type}{F:α->β->Prop}:∀{Ez:List α}{Ey:List β}{i:Nat}{a:α}{b:β},Paired F Ez Ey->Ez[i]? = some a->Ey[i]? = some b->F a b
 |_,_,_,_,_,.nil,e,_=>by simp at e
 |_,_,0,_,_,.cons h _,e,e'=>by simp at e e';subst e e';exact h
 |_,_,i+1,_,_,.cons _ t,e,e'=>qM (i:=i) t (by simpa using e) (by simpa using e')
def Uq(K:PySem.W.Frag)(a:Addr):It:=
 ⟨fun i H=>∃xs x,je K H a xs/\xs[i]? = some x,fun i H x H'=>∃T y,x=.ref T/\H T=none/\H'=upd H T (.tup [.int i,y])/\∀xs,je K H a xs->xs[i]? = some y,fun i H=>∃xs,je K H a xs/\xs.length<=i⟩
theorem A1{P:Program}{w:World}{K:PySem.W.Frag}{elts:List Expr}{kk:Nat}{pos:Pos}(a e it:Addr)(my:e≠it):Turn P w K (.Tuple elts kk pos) (Uq K a) [e,it] e (fun i h=>(∃old,IsEnum h e it i old)/\h.IsListIter it a i) where
 mem:=by simp
 obj:=fun i h st b hb=>by
  obtain⟨⟨old,he⟩,o,ho,c,d⟩:=st
  have hb:b=e\/b=it:=by simpa using hb
  rcases hb with rfl|rfl
  ·exact⟨_,he,fun v z=>by cases z⟩
  ·exact⟨o,ho,fun v z=>by rw[d] at z;cases z⟩
 keep:=fun i h h' st k=>⟨let ⟨old,he⟩:=st.1;⟨old,k e (by simp) _ he⟩,st.2.at fun o q=>k it (by simp) o q⟩
 item:=by
  intro X hP hw hK hc i pins s σ H E I hf st hg
  subst hP hw hK
  obtain⟨xs,x,hq,hx⟩:=hg
  obtain⟨its,rv,p,hz⟩:=I.list hq
  obtain⟨u,hu,ru⟩:=rv.get hx
  obtain⟨⟨old,he⟩,hit⟩:=st
  obtain⟨e0,e1,e2,e3,e4,e5⟩:=hf e (by simp)
  obtain⟨f0,f1,f2,f3,f4,f5⟩:=hf it (by simp)
  have VY:e<s.heap.objs.size:=Heap.lt_size he
  have MM:it<s.heap.objs.size:=by obtain⟨_,q,_⟩:=hit;exact Heap.lt_size q
  refine wpAny_pyNext_enum_item he hit p.isList (x:=u) (by simpa using hu) my fun h1 ho Tp hT hsz hk=>?_
  refine⟨_,rfl,wpAny_letOwnedTupleGo_enum ho fun h2 YN Oq=>?_⟩
  have LI:∀b o,b≠e->b≠it->s.heap.get? b=some o->h2.get? b=some o:=fun b o n1 n2 q=>(Oq.2 b n1).trans (hk b o n1 n2 q)
  have hn:H s.heap.objs.size=none:=I.cb.fresh (Nat.le_refl _)
  have Y':h2.get? s.heap.objs.size=some {cls:=.type "tuple",data:=.seq #[.int i s.toks,u]}:=(Oq.2 _ (Nat.ne_of_gt VY)).trans hT
  have Va:∀b ob,H b=some ob->b≠e/\b≠it:=fun b ob q=>⟨fun z=>(by rw[z,e0] at q;cases q),fun z=>(by rw[z,f0] at q;cases q)⟩
  have cb:lq X.prog X.w (upd H s.heap.objs.size (.tup [.int i,x])) h2:=fun b ob q=>by
   by_cases hb:b=s.heap.objs.size
   ·subst hb
    rw[aB] at q;cases q
    exact⟨by show 2<=sizeLine;decide,[.int i s.toks,u],.cons ⟨_,rfl⟩ (.cons ru .nil),_,Y',rfl,_,rfl⟩
   ·rw[aE hb] at q
    refine(I.cb b ob q).wG (fun c v hc r=>?_) (fun c r=>by rw[aE (cK r hn)];exact r) fun c ys r=>by rw[aE (cK r hn)];exact r
    have:∃oc,H c=some oc:=hc.elim (fun z=>⟨ob,by rw[z];exact q⟩) fun z=>⟨_,z⟩
    obtain⟨oc,EV⟩:=this
    exact LI c v (Va c oc EV).1 (Va c oc EV).2 r
  have I2:Inv X pins σ (upd H s.heap.objs.size (.tup [.int i,x])) {s with heap:=h2,toks:=s.toks+1}:=by
   have mem:∀b,b∉[e,it]->b≠e/\b≠it:=fun b hb=>⟨fun z=>hb (by simp[z]),fun z=>hb (by simp[z])⟩
   refine I.step (g':=s.gens) (d':=s.drawn) (ch:=[e,it]) (fun b hb=>?_) (fun b o _ _ hc q _=>LI b o (mem b hc).1 (mem b hc).2 q) (fun b o _ _ hc q _=>⟨o.slots,LI b o (mem b hc).1 (mem b hc).2 q⟩) (fun b o _ q n=>by rw[aE (Nat.ne_of_lt (Heap.lt_size q))];exact n)
    (fun b o hc q=>⟨o,LI b o (mem b hc).1 (mem b hc).2 q⟩) (fun b ys q=>by rw[aE (cK q hn)];exact q) (fun b o u q=>by rw[aE (cK q hn)];exact q) (fun b ps q=>⟨#[],by rw[aE (cK q hn),q];simp⟩) (fun m hm=>?_) cb I.bare
   ·have hb:b=e\/b=it:=by simpa using hb
    rcases hb with rfl|rfl
    ·exact⟨e3,e1,e4,e5⟩
    ·exact⟨f3,f1,f4,f5⟩
   ·obtain⟨o,es,ep,gh,r⟩:=hm
    exact⟨o,es,ep,LI _ o (Ne.symm e1) (Ne.symm f1) gh,r⟩
  refine⟨.ref s.heap.objs.size,_,I2,rfl,⟨_,x,rfl,hn,rfl,fun ys hy=>by rw[I.xv hy hq];exact hx⟩,⟨⟨u,by simpa using YN⟩,Tp.at fun o q=>(Oq.2 it (Ne.symm my)).trans q⟩,fun b hb=>?_⟩
  have hb:b=e\/b=it:=by simpa using hb
  rcases hb with rfl|rfl
  ·rw[aE (Nat.ne_of_lt VY)];exact e0
  ·rw[aE (Nat.ne_of_lt MM)];exact f0
 done:=by
  intro X hP hw hK hc i pins s σ H E I hf st hg
  subst hP hw hK
  obtain⟨xs,hq,hx⟩:=hg
  obtain⟨its,rv,p,hz⟩:=I.list hq
  obtain⟨⟨old,he⟩,hit⟩:=st
  obtain⟨f0,f1,f2,f3,f4,f5⟩:=hf it (by simp)
  have hl:=rv.length
  exact wpAny_pyNext_enum_end (I.ok.hd hc) he hit p.isList (by simp;omega) fun h' eb=>⟨rfl,I.turned (t':=s.toks) (fun b o hb q=>eb b o hb q) f0 f1 f3 f4 f5⟩
 self:=fun A i s Q E st h=>let ⟨⟨old,he⟩,_⟩:=st;wpAny_pyIter_enum he h
def Jg(K:PySem.W.Frag)(ta:TA):TI:=fun σ H R=>ta σ H fun vs H1=>∃a,vs=[.ref a]/\(∃xs,je K H1 a xs)/\R (Uq K a) H1
theorem Hl{X:Cx}{l:Expr}{ta:TA}{elts:List Expr}{kk:Nat}{yq p pos:Pos}(hg:Gl X "enumerate")(hm:X.mg "enumerate" = none)(ha:PA X [l] ta)(hs:starEach [l] X.env=[(false,eval l X.env)]:=by rfl):PI X (.Tuple elts kk yq) (.Call (.Name "enumerate" p) [l] [] pos) (Jg X.K ta):=by
 intro pins s σ H R I h
 refine Call_ (qX I hg hm boot_enumerate (PyProof.Rows.callWith_type1 (cq (ha pos pins s σ H _ I h) fun us s1 ⟨vs,H1,I1,r1,q1⟩=>?_) hs rfl))
 obtain⟨a,e,⟨xs,hq⟩,q⟩:=q1
 subst e
 cases r1 with
 |cons r rr=>
  cases rr
  cases r
  obtain⟨its,rv,p,hz⟩:=I1.list hq
  refine call_enumerate_list p.isList fun h' he hit hsz hk=>?_
  refine wpAny_pyIter_enum he ⟨s1.heap.objs.size+1,[s1.heap.objs.size+1,s1.heap.objs.size],_,_,H1,rfl,I1.kept (t':=s1.toks) hk,A1 a _ _ (Nat.ne_of_gt (Nat.lt_succ_self _)),⟨⟨_,he⟩,hit⟩,fun b hb=>?_,q⟩
  have hb:b=s1.heap.objs.size+1\/b=s1.heap.objs.size:=by simpa using hb
  rcases hb with rfl|rfl
  ·exact I1.B9 (Nat.le_succ _) (I1.cb.fresh (Nat.le_succ _))
  ·exact I1.B9 (Nat.le_refl _) (I1.cb.fresh (Nat.le_refl _))
def tf(X:Cx)(a:Addr):Prop:=∀o v,X.Cn a≠some (.aT o v)
theorem Inv.Ss{X:Cx}{pins:List (Addr×Obj)}{σ:St}{H:Hp}{s:Shared}{a:Addr}{aw:List (Key×V)}(I:Inv X pins σ H s)(e:H a=some (.dK aw)):tf X a:=fun o v z=>by
 rw[I.base.lM a o v z] at e;cases e
theorem Inv.freeze{X:Cx}{pins:List (Addr×Obj)}{σ:St}{H:Hp}{s:Shared}{a:Addr}{aw:List (Key×V)}(I:Inv X pins σ H s)(e:H a=some (.dK aw)):∃ob,s.heap.get? a=some ob/\Inv X pins σ (upd H a (.aT ob (.dK aw))) s:=by
 have x:=I.cb a _ e
 obtain⟨z,hd,vs,rel,o,es,ep,ho,r⟩:=id x
 refine⟨o,ho,?_⟩
 have my:∀b u,H b=some u->u≠.dK aw->b≠a:=fun b u q n z=>n (by rw[z,e] at q;exact(Option.some.inj q).symm)
 have cb:lq X.prog X.w (upd H a (.aT o (.dK aw))) s.heap:=fun b u q=>by
  have st:∀{c:Addr}{w:HO},d8 X.prog X.w H s.heap c w->d8 X.prog X.w (upd H a (.aT o (.dK aw))) s.heap c w:=fun y=>y.wG (fun _ _ _ q=>q) (fun c q=>by rw[aE (my c _ q (by intro z;cases z))];exact q) fun c ys q=>by rw[aE (my c _ q (by intro z;cases z))];exact q
  by_cases hb:b=a
  ·subst hb;rw[aB] at q;cases q;exact⟨ho,st x⟩
  ·rw[aE hb] at q;exact st (I.cb b u q)
 have q:=I.un (h':=s.heap) (t':=s.toks) (H':=upd H a (.aT o (.dK aw))) ⟨fun _ _ q _ _ _=>q,fun b ob q _ _ _=>⟨ob.slots,q⟩,fun b ob q n _=>by rw[aE fun z=>by rw[z,e] at n;cases n];exact n,fun b ob q _=>⟨ob,q⟩,fun b ys q=>by rw[aE (my b _ q (by intro z;cases z))];exact q,fun b ob u q=>by rw[aE (my b _ q (by intro z;cases z))];exact q,fun b ps q=>⟨#[],by rw[aE (my b _ q (by intro z;cases z)),q];simp⟩⟩ cb
 exact q
theorem Inv.RS{X:Cx}{pins:List (Addr×Obj)}{σ:St}{H:Hp}{s:Shared}{a:Addr}{ob:Obj}{aw:List (Key×V)}(I:Inv X pins σ H s)(n:tf X a)(e:H a=some (.aT ob (.dK aw))):Inv X pins σ (upd H a (.dK aw)) s:=by
 have my:∀b u,H b=some u->u≠.aT ob (.dK aw)->b≠a:=fun b u q n z=>n (by rw[z,e] at q;exact(Option.some.inj q).symm)
 have nn:∀b,H b=none->b≠a:=fun b q z=>by rw[z,e] at q;cases q
 have st:∀{c:Addr}{w:HO},d8 X.prog X.w H s.heap c w->d8 X.prog X.w (upd H a (.dK aw)) s.heap c w:=fun y=>y.wG (fun _ _ _ q=>q) (fun c q=>by rw[aE (my c _ q (by intro z;cases z))];exact q) fun c ys q=>by rw[aE (my c _ q (by intro z;cases z))];exact q
 have cb:lq X.prog X.w (upd H a (.dK aw)) s.heap:=fun b u q=>by
  by_cases hb:b=a
  ·subst hb;rw[aB] at q;cases q;exact st (I.cb b _ e).2
  ·rw[aE hb] at q;exact st (I.cb b u q)
 refine⟨I.ok,I.os,I.bare,⟨I.base.keep,I.base.slot,fun b o q n' hx=>?_,I.base.there,fun b ys q=>?_,fun b o u q=>?_,fun b ps q=>?_⟩,I.loc,I.cell,?_,fun x c q=>?_,fun p hp=>?_,cb,I.len⟩
 ·have:=I.base.free b o q n' hx
  rw[aE (nn b this)];exact this
 ·have:=I.base.nk b ys q
  rw[aE (my b _ this (by intro z;cases z))];exact this
 ·have h1:=I.base.lM b o u q
  have hb:b≠a:=fun z=>by rw[z] at q;exact n o u q
  rw[aE hb];exact h1
 ·obtain⟨more,h1⟩:=I.base.nu b ps q
  exact⟨more,by rw[aE (my b _ h1 (by intro z;cases z))];exact h1⟩
 ·rw[aE (nn _ I.free)];exact I.free
 ·rw[aE (nn _ (I.jM x c q))];exact I.jM x c q
 ·obtain⟨h1,h2,h3,h4,h5⟩:=I.pin p hp
  exact⟨h1,by rw[aE (nn _ h2)];exact h2,h3,h4,h5⟩
def FT(X:Cx)(H H':Hp):Prop:=∃a ob aw,H a=some (.aT ob (.dK aw))/\((H'=H)\/(tf X a/\H'=upd H a (.dK aw)))
theorem Inv.JT{X:Cx}{pins:List (Addr×Obj)}{σ:St}{H H':Hp}{s:Shared}(I:Inv X pins σ H s)(t:FT X H H'):Inv X pins σ H' s:=by
 obtain⟨a,ob,aw,e,h|⟨n,h⟩⟩:=t
 ·rw[h];exact I
 ·rw[h];exact I.RS n e
def yt(X:Cx)(D:Ends):Ends:=⟨fun σ H=>∃H',FT X H H'/\D.nx σ H',fun v H=>∃H',FT X H H'/\D.rt v H',fun σ H=>∃H',FT X H H'/\D.bk σ H',fun σ H=>∃H',FT X H H'/\D.ct σ H'⟩
def C2(X:Cx)(t:TS):TS:=fun D σ H=>t (yt X D) σ H
def UK(X:Cx)(t:TE):TE:=fun σ H Q=>t σ H fun v H1=>∃H2,FT X H1 H2/\Q v H2
theorem D2{X:Cx}{st:Stmt}{t:TS}(h:PS X st t):PS X st (C2 X t):=by
 intro pins s σ H D I q
 refine cq (h pins s σ H _ I q) fun f s' hs=>?_
 cases f with
 |next=>obtain⟨bU,H',I',H2,t,q⟩:=hs;exact⟨bU,H2,I'.JT t,q⟩
 |brk=>obtain⟨bU,H',I',H2,t,q⟩:=hs;exact⟨bU,H2,I'.JT t,q⟩
 |cont=>obtain⟨bU,H',I',H2,t,q⟩:=hs;exact⟨bU,H2,I'.JT t,q⟩
 |ret u=>obtain⟨v,bU,H',I',r,H2,t,q⟩:=hs;exact⟨v,bU,H2,I'.JT t,r,q⟩
def Iz(a:Addr)(ob:Obj)(aw:List (Key×V)):It:=⟨fun i H=>H a=some (.aT ob (.dK aw))/\i<aw.length,fun i H x H'=>H'=H/\∃kv,aw[i]? = some kv/\x=kV kv.1,fun i H=>H a=some (.aT ob (.dK aw))/\aw.length<=i⟩
theorem N_{k:Key}{v:Value}(h:oN k v=true):RelV (kV k) v:=by
 rcases cF h with⟨i,t,rfl,rfl⟩|⟨x,t,rfl,rfl⟩<;>exact⟨_,rfl⟩
theorem kN{P:Program}{w:World}{h:Heap}{a:Addr}{ob:Obj}{es:Array DictEntry}{ep:Nat}{vs:List (Key×Value)}(ho:h.get? a=some ob)(hd:ob.data=.dict es ep)(d:h.DictOf (bA P w) a vs):h.DictAt (bA P w) a vs ep:=by
 obtain⟨o,pN,Jp,h1,h2,h3,r⟩:=d
 rw[ho] at h1;cases h1
 rw[hd] at h3;cases h3
 exact⟨ob,es,ho,h2,hd,r⟩
theorem A2{P:Program}{w:World}{K:PySem.W.Frag}{tg:Expr}(a it:Addr){ob:Obj}{es:Array DictEntry}{ep:Nat}(hd:ob.data=.dict es ep)(aw:List (Key×V)):Turn P w K tg (Iz a ob aw) [it] it (fun i h=>h.IsKeyIter it a i aw.length ep) where
 mem:=by simp
 obj:=fun i h st b hb=>by
  have e:b=it:=by simpa using hb
  subst e
  obtain⟨o,e,c,d⟩:=st
  exact⟨o,e,fun v z=>by rw[d] at z;cases z⟩
 keep:=fun i h h' st k=>st.at fun o e=>k it (by simp) o e
 item:=by
  intro X hP hw hK hc i pins s σ H E I hf st ⟨hH,hi⟩
  subst hP hw hK
  obtain⟨f0,f1,f2,f3,f4,f5⟩:=hf it (by simp)
  obtain⟨ho,hz,hs,vs,rel,dd⟩:=I.cb a _ hH
  have lT:=kN ho hd dd
  have hl:aw.length=vs.length:=Paired.length rel
  obtain⟨⟨k,v⟩,Q8⟩:∃p,vs[i]? = some p:=⟨vs[i]'(by omega),List.getElem?_eq_getElem (by omega)⟩
  obtain⟨⟨k',x⟩,VH⟩:∃p,aw[i]? = some p:=⟨aw[i],List.getElem?_eq_getElem hi⟩
  have ek:k'=k:=(qM rel VH Q8).1
  subst ek
  refine wpAny_pyNext_dict_item (by rw[<-hl];exact st) lT Q8 fun key h' B5 OI Ie=>?_
  have I1:Inv X pins σ H {s with heap:=h'}:=I.turned (t':=s.toks) (fun b o hb e=>(Ie.2 b hb).trans e) f0 f1 f3 f4 f5
  obtain⟨o,e,c,d⟩:=id OI
  exact⟨key,rfl,Ar (s:={s with heap:=h'}) e c d (by decide) ⟨kV k',H,I1,N_ B5,⟨rfl,_,VH,rfl⟩,by rw[hl];exact OI,fun b hb=>(hf b hb).1⟩⟩
 done:=by
  intro X hP hw hK hc i pins s σ H E I hf st ⟨hH,hi⟩
  subst hP hw hK
  obtain⟨f0,f1,f2,f3,f4,f5⟩:=hf it (by simp)
  obtain⟨ho,hz,hs,vs,rel,dd⟩:=I.cb a _ hH
  have lT:=kN ho hd dd
  have hl:aw.length=vs.length:=Paired.length rel
  exact wpAny_pyNext_dict_end (I.ok.hd hc) (by rw[<-hl];exact st) lT (by simp;omega) fun h' eb=>⟨rfl,I.turned (t':=s.toks) (fun b o hb e=>eb b o hb e) f0 f1 f3 f4 f5⟩
 self:=fun _ _ _ _ _ st h=>wpAny_pyIter_keyiter st h
def rh(X:Cx)(td:TE):TI:=fun σ H R=>td σ H fun x H1=>∃a aw,x=.ref a/\Rd H1 a (.dK aw)/\∀ob H2,(∀b,b≠a->H2 b=H1 b)->H2 a=some (.aT ob (.dK aw))->((H1 a=some (.dK aw)/\tf X a)\/H2=H1)->R (Iz a ob aw) H2
theorem vk{X:Cx}{tg l:Expr}{td:TE}(hl:PE X l td):PI X tg l (rh X td):=by
 intro pins s σ H R I h
 refine cq (hl pins s σ H _ I h) fun v s1 ⟨x,H1,I1,r1,a,aw,e,hr,q⟩=>?_
 subst e
 cases r1
 have fz:∃ob H2,Inv X pins σ H2 s1/\(∀b,b≠a->H2 b=H1 b)/\H2 a=some (.aT ob (.dK aw))/\((H1 a=some (.dK aw)/\tf X a)\/H2=H1):=by
  rcases hr with hr|⟨o,hr⟩
  ·obtain⟨ob,_,I2⟩:=I1.freeze hr
   exact⟨ob,_,I2,fun b n=>aE n,aB,.inl ⟨hr,I1.Ss hr⟩⟩
  ·exact⟨o,H1,I1,fun _ _=>rfl,hr,.inr rfl⟩
 obtain⟨ob,H2,I2,hb,ha,hc⟩:=fz
 obtain⟨ho,hz,hs,vs,rel,dd⟩:=I2.cb a _ ha
 obtain⟨o',es,ep,h1,h2,h3,r⟩:=id dd
 rw[ho] at h1;cases h1
 have lT:=kN ho h3 dd
 have hl:aw.length=vs.length:=Paired.length rel
 refine wpAny_pyIter_dict hs lT ⟨s1.heap.objs.size,[s1.heap.objs.size],_,_,H2,rfl,I2.kept (t':=s1.toks) fun b o e=>Heap.get?_push_of_some _ e,A2 a _ h3 aw,⟨_,Heap.get?_push_size _ rfl,rfl,by rw[hl];rfl⟩,fun b hb=>?_,q ob H2 hb ha hc⟩
 have e:b=s1.heap.objs.size:=by simpa using hb
 subst e
 exact I2.B9 (Nat.le_refl _) (I2.cb.fresh (Nat.le_refl _))
end L2
end
section
namespace VS
open PySem L2
def ck:Nat->List D->List D
 |_,[]=>[]
 |i,d::ds=>.tup [.int i,d]::ck (i+1) ds
theorem qL:∀{ds:List D}{n i:Nat}{x:D},(ck n ds)[i]? = some x->∃d,ds[i]? = some d/\x=.tup [.int ((n+i:Nat):Int),d]
 | [],n,i,x,h=>by simp[ck] at h
 |d::ds,n,0,x,h=>by simp[ck] at h;exact⟨d,rfl,by rw[<-h];rfl⟩
 |d::ds,n,i+1,x,h=>by
  obtain⟨d',h1,h2⟩:=qL (ds:=ds) (n:=n+1) (i:=i) (by simpa[ck] using h)
  exact⟨d',by simpa using h1,by rw[h2];congr 3;omega⟩
theorem qK:∀{ds:List D}{n:Nat},(ck n ds).length=ds.length
 | [],n=>rfl
 |d::ds,n=>by simp[ck,qK]
theorem tw{K:PySem.W.Frag}{Z:Set}{H:Hp}{a:Addr}{vs:List V}{items:List D}(hr:Rd H a (.lst vs))(hz:Z a)(hl:ar Z H items vs cE):Walk (Uq K a) Z H (ck 0 items) where
 stop:=fun Z2 H2 r=>⟨vs,.inl (Rd.up (fun o e=>r.k a o e hz) hr),by rw[qK];exact Nat.le_of_eq hl.length⟩
 go:=fun i d Z2 H2 e r=>by
  have Ou:Rd H2 a (.lst vs):=Rd.up (fun o e=>r.k a o e hz) hr
  obtain⟨d',e',rfl⟩:=qL e
  obtain⟨v,ev,ho⟩:=(r.KJ hl).get e'
  refine⟨⟨vs,v,.inl Ou,ev⟩,fun x H3 ⟨T,y,ex,hn,e3,hx⟩=>?_⟩
  subst ex e3
  have:=hx vs (.inl Ou)
  rw[ev] at this;cases this
  have hs:cf H2 (upd H2 T (.tup [.int i,v])):=cf.upd hn
  refine⟨hs,c7.mpr ⟨T,_,rfl,aB,aF.mpr ⟨_,_,cE,cE,rfl,a_.mpr (by rw[Nat.zero_add]),aF.mpr ⟨_,_,cE,cE,rfl,ho.grow hs,ba.mpr rfl,fun _ z=>z,fun _ z=>z,fun _ z _=>z⟩,fun _ z=>z,fun _ z=>z,fun _ z _=>z⟩⟩⟩
def oD(f:ai->Ref->Option (List D))(ua:UB):UI:=fun env Q=>ua env fun r e=>∃ds,f e r=some ds/\Q (ck 0 ds) e
theorem Dm{K:PySem.W.Frag}{t:TE}{u:UB}(h:aY t u):s_ (Jg K (k7 t wF)) (oD bx u):=by
 intro σ env Z H φ Q R O q k
 refine h σ env Z H φ _ _ O q fun r aL v Z1 H1 bI G ⟨ds,e,q1⟩ O1 r1 ok=>?_
 cases r with
 |a8 d=>
  cases d<;>simp only[bx,reduceCtorEq,Option.some.injEq] at e
  subst e
  rename_i o ds _
  have ho:Own Z1 H1 (.lst o ds) v G:=ok
  have hf:=ho.aT
  simp only[aT] at hf
  obtain⟨a,vs,rfl,hr,hz,hl⟩:=j3.mp hf
  have O2:=O1.Mo (G:=G) (fun a z y=>r1.d a y z) fun a z=>(r1.gm a z).ne
  exact⟨a,rfl,⟨vs,.inl hr⟩,k _ aL _ H1 bI _ q1 O2 ⟨fun a z=>.inl (r1.z a z),fun a z=>z.elim (r1.zn a) fun z=>.inr (r1.g a z),r1.k,r1.f,fun _ z=>z.elim,fun _ _ z=>z,fun _ z=>z.elim,fun _ z=>z.elim⟩ (tw hr hz hl)⟩
 |var i=>
  simp only[bx] at e
  split at e<;>simp only[reduceCtorEq,Option.some.injEq] at e
  subst e
  rename_i ds he
  obtain⟨v',hv,ho⟩:=O1.own i _ he
  have ok:σ[i]? = some (some v):=ok
  rw[hv] at ok;cases ok
  obtain⟨a,vs,rfl,hr,hz,hl⟩:=j3.mp ho
  exact⟨a,rfl,⟨vs,.inl hr⟩,k _ aL _ H1 bI _ q1 O1 r1.drop (tw hr hz hl)⟩
section
variable {Z:Set}{H H':Hp}{a:Addr}{aw:List (Key×V)}
structure Sw(Z:Set)(H H':Hp)(a:Addr)(aw:List (Key×V)):Prop where
 z:Z a
 r:Rd H a (.dK aw)
 r':Rd H' a (.dK aw)
 k:∀b,b≠a->H' b=H b
theorem Sw.symm(s:Sw Z H H' a aw):Sw Z H' H a aw:=⟨s.z,s.r',s.r,fun b n=>(s.k b n).symm⟩
theorem Kb{H:Hp}{a:Addr}{x:List (Key×V)}{u:HO}(h:Rd H a (.dK x))(h':Rd H a u)(hu:∀o w,u≠.aT o w):u=.dK x:=by
 rcases h with h|⟨o,h⟩<;>rcases h' with h'|⟨o',h'⟩
 ·rw[h] at h';cases h';rfl
 ·rw[h] at h';cases h'
 ·rw[h] at h';cases h';exact absurd rfl (hu _ _)
 ·rw[h] at h';cases h';rfl
theorem Sw.rd(s:Sw Z H H' a aw){b:Addr}{u:HO}(hu:∀o w,u≠.aT o w)(h:Rd H b u):Rd H' b u:=by
 by_cases e:b=a
 ·subst e
  rw[Kb s.r h hu];exact s.r'
 ·rcases h with h|⟨o,h⟩
  ·exact .inl (by rw[s.k b e];exact h)
  ·exact .inr ⟨o,by rw[s.k b e];exact h⟩
theorem Sw.tup(s:Sw Z H H' a aw){b:Addr}{vs:List V}(h:H b=some (.tup vs)):H' b=some (.tup vs):=by
 rw[s.k b fun e=>?_]
 ·exact h
 ·subst e
  rcases s.r with q|⟨o,q⟩<;>(rw[h] at q;cases q)
theorem xS{t:Bool}{u:HO}{ks:List DK}{vs:List V}(h:DictAt t u ks vs):∀o w,u≠.aT o w:=by
 cases t with
 |false=>obtain⟨_,_,_,_,rfl⟩:=h;intro o w z;cases z
 |true=>obtain⟨_,_,_,_,rfl⟩:=h;intro o w z;cases z
mutual
theorem Own.sw(s:Sw Z H H' a aw):∀(d:D) {v:V}{F:Set},¬F a->Own Z H d v F->Own Z H' d v F
 | .bJ,v,F,_,h=>by simpa only [Own] using h
 | .bl b,v,F,_,h=>by simpa only [Own] using h
 | .int i,v,F,_,h=>by simpa only [Own] using h
 | .str x,v,F,_,h=>by simpa only [Own] using h
 | .fn b,v,F,_,h=>by simpa only [Own] using h
 | .tup ds,v,F,nf,h=>by
  simp only[Own] at h ⊢
  obtain⟨b,vs,e,hr,hl⟩:=h
  exact⟨b,vs,e,s.tup hr,ar.sw s ds nf hl⟩
 | .lst true ds,v,F,nf,h=>by
  simp only[Own] at h ⊢
  obtain⟨b,vs,e,hr,ha,hl⟩:=h
  exact⟨b,vs,e,by rw[s.k b fun z=>nf (by rw[<-z];exact ha)];exact hr,ha,ar.sw s ds (fun z=>nf z.1) hl⟩
 | .lst false ds,v,F,nf,h=>by
  simp only[Own] at h ⊢
  obtain⟨b,vs,e,hr,ha,hl⟩:=h
  exact⟨b,vs,e,s.rd (by intro o w z;cases z) hr,ha,ar.sw s ds (fun z=>z) hl⟩
 | .cy true t ks ds,v,F,nf,h=>by
  simp only[Own] at h ⊢
  obtain⟨b,vs,u,e,hr,hd,ha,hl⟩:=h
  exact⟨b,vs,u,e,by rw[s.k b fun z=>nf (by rw[<-z];exact ha)];exact hr,hd,ha,ar.sw s ds (fun z=>nf z.1) hl⟩
 | .cy false t ks ds,v,F,nf,h=>by
  simp only[Own] at h ⊢
  obtain⟨b,vs,u,e,hr,hd,ha,hl⟩:=h
  exact⟨b,vs,u,e,s.rd (xS hd) hr,hd,ha,ar.sw s ds (fun z=>z) hl⟩
theorem ar.sw(s:Sw Z H H' a aw):∀(ds:List D) {vs:List V}{F:Set},¬F a->ar Z H ds vs F->ar Z H' ds vs F
 | [],vs,F,_,h=>by simpa only [ar] using h
 |d::ds,vs,F,nf,h=>by
  simp only[ar] at h ⊢
  obtain⟨v,r,F1,F2,e,h1,h2,s1,s2,dj⟩:=h
  exact⟨v,r,F1,F2,e,Own.sw s d (fun z=>nf (s1 a z)) h1,ar.sw s ds (fun z=>nf (s2 a z)) h2,s1,s2,dj⟩
end
theorem Ok.sw{env:ai}{σ:St}{φ:Nat->Set}(O:Ok Z H env σ φ)(s:Sw Z H H' a aw):Ok Z H' env σ φ:=by
 have na:∀i,¬φ i a:=fun i z=>O.fz i a z s.z
 refine⟨fun i d e=>let ⟨w,hw,h⟩:=O.own i d e;⟨w,hw,Own.sw s d (na i) h⟩,O.dj,O.fz,fun i b h=>?_,fun b z y=>?_,O.len⟩
 ·rw[s.k b fun z=>na i (by rw[<-z];exact h)];exact O.fm i b h
 ·by_cases e:b=a
  ·subst e
   rcases s.r' with q|⟨o,q⟩<;>(rw[q] at y;cases y)
  ·rw[s.k b e] at y;exact O.zh b z y
end
def qY:DK->D
 | .s (.inl n)=>.int n
 | .s (.inr x)=>.str x
 | .t _=>.bJ
def du(e:ai):Ref->Option (List D)
 | .var i=>match e[i]? with
  |some (some (.cy false false ks _))=>some (ks.map qY)
  |_=>none
 | .a8 (.cy _ false ks _)=>some (ks.map qY)
 |_=>none
theorem EE{Z:Set}{H:Hp}(k:Key):Own Z H (qY (.s k)) (kV k) cE:=by
 cases k with
 |inl n=>exact a_.mpr rfl
 |inr x=>exact dN.mpr rfl
theorem tH{Z:Set}{H:Hp}{a:Addr}{ob:Obj}{kl:List Key}{vs:List V}(hl:kl.length=vs.length)(hz:Z a)(h:H a=some (.aT ob (.dK (kl.zip vs)))):Walk (Iz a ob (kl.zip vs)) Z H ((kl.map DK.s).map qY) where
 stop:=fun Z2 H2 r=>⟨r.k a _ h hz,by simp[hl]⟩
 go:=fun i d Z2 H2 e r=>by
  have hi:i<kl.length:=by have:=(List.getElem?_eq_some_iff.mp e).1;simpa using this
  refine⟨⟨r.k a _ h hz,by simp;omega⟩,fun x H3 ⟨e3,kv,Q8,hx⟩=>?_⟩
  subst e3 hx
  refine⟨fun _ _ e=>e,?_⟩
  have e1:kv.1=kl[i]:=by
   obtain⟨h1,h2⟩:=List.getElem?_eq_some_iff.mp Q8
   rw[<-h2,List.getElem_zip]
  have e2:d=qY (.s kl[i]):=by
   rw[List.getElem?_map,List.getElem?_map,List.getElem?_eq_getElem hi] at e
   exact(Option.some.inj e).symm
  rw[e1,e2]
  exact EE _
theorem Res.sw{Z1 Z':Set}{H1 H2 H' kQ:Hp}{F1 F' G:Set}{a:Addr}{aw:List (Key×V)}(s1:Sw Z1 H1 H2 a aw)(nf:¬F1 a)(r:Res Z1 H2 F1 Z' H' F' G)(s2:Sw Z' H' kQ a aw)(ea:kQ a=H1 a):Res Z1 H1 F1 Z' kQ F' G:=by
 have nn:∀b,H2 b=none->H1 b=none:=fun b q=>by
  by_cases e:b=a
  ·subst e
   rcases s1.r' with z|⟨o,z⟩<;>(rw[z] at q;cases q)
  ·rw[<-s1.k b e];exact q
 refine⟨r.z,fun b z=>(r.zn b z).imp id fun z=>z.imp id (nn b),fun b o e n=>?_,fun b z=>(r.f b z).imp id (nn b),fun b z=>(r.g b z).imp id (nn b),r.d,r.gz,fun b z=>?_⟩
 ·by_cases y:b=a
  ·subst y;rw[ea];exact e
  ·rw[s2.k b y];exact r.k b o (by rw[s1.k b y];exact e) n
 ·rw[s2.k b fun y=>r.gz b z (by rw[y];exact s2.z)];exact r.gm b z
theorem uW{X:Cx}{Z1 Z':Set}{H1 H2 H':Hp}{F1 F' G:Set}{a:Addr}{ob:Obj}{aw:List (Key×V)}(s1:Sw Z1 H1 H2 a aw)(nf:¬F1 a)(h2:H2 a=some (.aT ob (.dK aw)))(c:(H1 a=some (.dK aw)/\tf X a)\/H2=H1)(r:Res Z1 H2 F1 Z' H' F' G) :
  ∃kQ,FT X H' kQ/\Sw Z' H' kQ a aw/\kQ a=H1 a:=by
 have h':H' a=some (.aT ob (.dK aw)):=r.k a _ h2 nf
 rcases c with⟨h1,n⟩|e
 ·exact⟨upd H' a (.dK aw),⟨a,ob,aw,h',.inr ⟨n,rfl⟩⟩,⟨r.z a s1.z,.inr ⟨ob,h'⟩,.inl aB,fun b n=>aE n⟩,by rw[aB,h1]⟩
 ·exact⟨H',⟨a,ob,aw,h',.inl rfl⟩,⟨r.z a s1.z,.inr ⟨ob,h'⟩,.inr ⟨ob,h'⟩,fun _ _=>rfl⟩,by rw[h',<-e,h2]⟩
theorem Jw.JT{I:Nat->Bool}{X:Cx}{Z1:Set}{H1 H2:Hp}{F1:Set}{σ:St}{D:cV}{E:Ends}{a:Addr}{ob:Obj}{aw:List (Key×V)}(k:Jw I Z1 H1 F1 σ D E)(s1:Sw Z1 H1 H2 a aw)(nf:¬F1 a)(h2:H2 a=some (.aT ob (.dK aw)))(c:(H1 a=some (.dK aw)/\tf X a)\/H2=H1):Jw I Z1 H2 F1 σ D (yt X E):=by
 have kn:∀{P:ai->Prop}{K:St->Hp->Prop},KN I Z1 H1 F1 σ P K->KN I Z1 H2 F1 σ P (fun σ H=>∃H',FT X H H'/\K σ H'):=fun k bT bU Z' H' cJ p O r kp=>by
  obtain⟨kQ,t,s2,ea⟩:=uW s1 nf h2 c r
  exact⟨kQ,t,k bT bU Z' kQ cJ p (O.sw s2) (r.sw s1 nf s2 ea) kp⟩
 refine⟨kn k.nx,fun d bT v bU Z' H' cJ G p O r ho kp=>?_,kn k.bk,kn k.ct⟩
 obtain⟨kQ,t,s2,ea⟩:=uW s1 nf h2 c r
 exact⟨kQ,t,k.rt d bT v bU Z' kQ cJ G p (O.sw s2) (r.sw s1 nf s2 ea) (Own.sw s2 d (fun z=>r.gz a z s2.z) ho) kp⟩
theorem Dl{I:Nat->Bool}{X:Cx}{t:TE}{u:UB}{g:TG}{ug:UG}{tb:TS}{ub:US}(h:aY t u)(hg:jD I g ug)(hb:fJ I tb ub):fJ I (C2 X (JX (rh X t) g tb)) (eC (dI du u) ug ub):=by
 intro σ env Z H φ DE E O q k
 refine h σ env Z H φ _ _ O q fun r aL v Z1 H1 bI G ⟨ds,e,q1⟩ O1 r1 ok=>?_
 have core:∀(Z1:Set) (O1:Ok Z1 H1 aL σ bI) (r1:Res Z H (cQ φ) Z1 H1 (cQ bI) cE) (ks:List DK) (dv:List D),Own Z1 H1 (.cy false false ks dv) v cE->ds=ks.map qY->∃a aw,v=.ref a/\Rd H1 a (.dK aw)/\∀ob H2,(∀b,b≠a->H2 b=H1 b)->H2 a=some (.aT ob (.dK aw))->((H1 a=some (.dK aw)/\tf X a)\/H2=H1) ->
   ∃W:Nat->Nat->St->Hp->Prop,(∃m,W 0 m σ H2)/\∀i m σ H,W i m σ H ->
   ((Iz a ob aw).stop i H/\(yt X E).nx σ H)\/((Iz a ob aw).go i H/\∃N:St->Hp->Prop,(∀bU H',N bU H'->∃m',m'<m/\W (i+1) m' bU H')/\∀x H',(Iz a ob aw).Mp i H x H'->g x σ H' fun uO H2=>tb {yt X E with nx:=N,ct:=N,bk:=(yt X E).nx} uO H2):=by
  intro Z1 O1 r1 ks dv ho Ua
  obtain⟨a,vs,u,rfl,hr,⟨kl,rfl,rn,zj,rfl⟩,hz,hl⟩:=iq.mp ho
  refine⟨a,_,rfl,hr,fun ob H2 hk h2 c=>?_⟩
  have sw:Sw Z1 H1 H2 a (kl.zip vs):=⟨hz,hr,.inr ⟨ob,h2⟩,hk⟩
  have nf:¬cQ bI a:=fun⟨i,z⟩=>O1.fz i a z hz
  have k1:=(k.after r1 Kp.refl).JT (X:=X) sw nf h2 c
  rw[Ua] at q1
  exact xM hg hb (O1.sw sw) (tH rn hz h2) q1 k1
 cases r with
 |a8 d=>
  cases d<;>simp only[du,reduceCtorEq] at e
  rename_i o t ks dv _
  cases t<;>simp only[reduceCtorEq,Option.some.injEq] at e
  have ho:Own Z1 H1 (.cy o false ks dv) v G:=ok
  have hf:=ho.aT
  simp only[aT] at hf
  have O2:=O1.Mo (G:=G) (fun a z y=>r1.d a y z) fun a z=>(r1.gm a z).ne
  exact core _ O2 ⟨fun a z=>.inl (r1.z a z),fun a z=>z.elim (r1.zn a) fun z=>.inr (r1.g a z),r1.k,r1.f,fun _ z=>z.elim,fun _ _ z=>z,fun _ z=>z.elim,fun _ z=>z.elim⟩ ks _ hf e.symm
 |var i=>
  simp only[du] at e
  split at e<;>simp only[reduceCtorEq,Option.some.injEq] at e
  rename_i ks dv he
  obtain⟨v',hv,ho⟩:=O1.own i _ he
  have ok:σ[i]? = some (some v):=ok
  rw[hv] at ok;cases ok
  exact core Z1 O1 r1.drop ks dv (iq.mpr (iq.mp ho)) e.symm
theorem xR{X:Cx}{t:TE}{u:UB}(h:aY t u){σ:St}{env:ai}{Z:Set}{H:Hp}{φ:Nat->Set}{Q:List D->ai->Prop}{R:It->Hp->Prop}(O:Ok Z H env σ φ)(q:dI du u env Q)
  (k:∀items aL Z1 H1 bI a ob aw H2,Q items aL->Ok Z1 H1 aL σ bI->Res Z H (cQ φ) Z1 H1 (cQ bI) cE->Sw Z1 H1 H2 a aw->¬cQ bI a->H2 a=some (.aT ob (.dK aw))->((H1 a=some (.dK aw)/\tf X a)\/H2=H1)->Walk (Iz a ob aw) Z1 H2 items->R (Iz a ob aw) H2):rh X t σ H R:=by
 refine h σ env Z H φ _ _ O q fun r aL v Z1 H1 bI G ⟨ds,e,q1⟩ O1 r1 ok=>?_
 have core:∀(Z1:Set) (O1:Ok Z1 H1 aL σ bI) (r1:Res Z H (cQ φ) Z1 H1 (cQ bI) cE) (ks:List DK) (dv:List D),Own Z1 H1 (.cy false false ks dv) v cE->ds=ks.map qY->∃a aw,v=.ref a/\Rd H1 a (.dK aw)/\∀ob H2,(∀b,b≠a->H2 b=H1 b)->H2 a=some (.aT ob (.dK aw))->((H1 a=some (.dK aw)/\tf X a)\/H2=H1)->R (Iz a ob aw) H2:=by
  intro Z1 O1 r1 ks dv ho Ua
  obtain⟨a,vs,u,rfl,hr,⟨kl,rfl,rn,zj,rfl⟩,hz,hl⟩:=iq.mp ho
  refine⟨a,_,rfl,hr,fun ob H2 hk h2 c=>?_⟩
  have sw:Sw Z1 H1 H2 a (kl.zip vs):=⟨hz,hr,.inr ⟨ob,h2⟩,hk⟩
  rw[Ua] at q1
  exact k _ aL Z1 H1 bI a ob _ H2 q1 O1 r1 sw (fun⟨i,z⟩=>O1.fz i a z hz) h2 c (tH rn hz h2)
 cases r with
 |a8 d=>
  cases d<;>simp only[du,reduceCtorEq] at e
  rename_i o t ks dv _
  cases t<;>simp only[reduceCtorEq,Option.some.injEq] at e
  have ho:Own Z1 H1 (.cy o false ks dv) v G:=ok
  have hf:=ho.aT
  simp only[aT] at hf
  have O2:=O1.Mo (G:=G) (fun a z y=>r1.d a y z) fun a z=>(r1.gm a z).ne
  exact core _ O2 ⟨fun a z=>.inl (r1.z a z),fun a z=>z.elim (r1.zn a) fun z=>.inr (r1.g a z),r1.k,r1.f,fun _ z=>z.elim,fun _ _ z=>z,fun _ z=>z.elim,fun _ z=>z.elim⟩ ks _ hf e.symm
 |var i=>
  simp only[du] at e
  split at e<;>simp only[reduceCtorEq,Option.some.injEq] at e
  rename_i ks dv he
  obtain⟨v',hv,ho⟩:=O1.own i _ he
  have ok:σ[i]? = some (some v):=ok
  rw[hv] at ok;cases ok
  exact core Z1 O1 r1.drop ks dv (iq.mpr (iq.mp ho)) e.symm
theorem qj{I:Nat->Bool}{α:Type} [Acc α] {X:Cx}{sc:Scope}{N:List Str}{tg:Expr}{ifs:List Expr}{inner:Value->PySem.Env->Sem Unit}{n:Nat}{t:TE}{u:UB}{gy:TG}{ug uT:UG}{ut:UT}{ul:UL α}{acc0:α}{u0:HO} (e0:Acc.vals acc0=[]) (a0:Acc.is acc0 u0 []) (fin:α->D) (EZ:∀{acc u vs Z H A p},H p=some u->Acc.is acc u vs->ar Z H (Acc.vals acc) vs A->¬A p->Own Z H (fin acc) (.ref p) (fun a=>A a\/a=p)) (h:aY t u) (hb:∀C s H0 fp pins p,∃g tt tl,PG (dA X sc N C s H0 fp pins) tg g/\Cy (dA X sc N C s H0 fp pins) ifs tt/\PN (dA X sc N C s H0 fp pins) (inner (.ref p) (dA X sc N C s H0 fp pins).env) tl/\jD (outs n) g ug/\gS tt ut/\mX (outs n) p tl ul) (YF:jD I gy uT) :
  fJ I (C2 X (yx (jk X sc N tg ifs inner u0 n (rh X t)) gy)) (fun E env=>dI du u env fun items e=>ef ug ut ul (fun acc e'=>uT (fin acc) (e'.drop n) E.nx) items acc0 (List.replicate n none++e)):=by
 intro σ env Z H φ DE E O q k
 show jk X sc N tg ifs inner u0 n (rh X t) σ H (fun v H1=>gy v σ H1 (yt X E).nx)
 refine xR h O q fun items e1 Z1 H1 bI a ob aw H2 q1 O1 r1 sw nf h2 c w=>?_
 intro p H3 hn hs hp lT C s H0 fp pins
 obtain⟨g,tt,tl,a1,a2,a3,hg,ht,hl⟩:=hb C s H0 fp pins p
 refine⟨g,tt,tl,a1,a2,a3,uF (R:=fun v H1=>gy v σ H1 (yt X E).nx) e0 a0 fin EZ hg ht hl (O1.sw sw) w q1 (fun acc e' Z' H' cJ G q' O' r' ho=>YF σ _ Z' H' cJ _ _ G _ _ O' ho r'.d r'.gz r'.gm q' fun fZ uO Z2 gU q2 O2 z2 MX f2 k2=>?_) H3 hn hs hp lT⟩
 have r2:Res Z1 H2 (cQ bI) Z2 H' (cQ gU) cE:=⟨fun a z=>z2 a (r'.z a z),fun a z=>(MX a z).elim (r'.zn a) fun z=>.inr (r'.g a z),r'.k,fun a z=>(f2 a z).elim (r'.f a) (r'.g a),fun _ z=>z.elim,fun _ _ z=>z,fun _ z=>z.elim,fun _ z=>z.elim⟩
 obtain⟨kQ,th,s2,ea⟩:=uW sw nf h2 c r2
 exact⟨kQ,th,k.nx fZ uO Z2 kQ gU q2 (O2.sw s2) (r1.trans (r2.sw sw nf s2 ea)) k2⟩
theorem Il{t:Bool}{acc:pO t}{u:HO}{vs:List V}{Z:Set}{H:Hp}{A:Set}{p:Addr}(hu:H p=some u)(ha:Acc.is acc u vs)(ho:ar Z H (Acc.vals acc) vs A)(np:¬A p):Own Z H (.cy true t acc.ks acc.ds) (.ref p) (fun a=>A a\/a=p):=
 dR.mpr ⟨p,vs,u,rfl,hu,ha,.inr rfl,ho.mono fun a z=>⟨.inl z,fun y=>np (by rw[<-y];exact z)⟩⟩
theorem N'{t:Bool}:Acc.is (⟨[],[]⟩:pO t) (d0 t) []:=by cases t<;>exact⟨[],rfl,rfl,by simp,rfl⟩
end VS
end
section
namespace VS
open PySem L2
structure VE(X:Cx)(e:Expr)(u:UB):Prop where
 ex:∃t,PE X e t/\aY t u
structure VX(X:Cx)(e:Expr)(u:UX):Prop where
 ex:∃t,PE X e t/\oy t u
structure VT(X:Cx)(e:Expr)(u:UT):Prop where
 ex:∃t,PT X e t/\gS t u
structure VW(X:Cx)(e:Expr)(u:UT):Prop where
 ex:∃t,PW X e t/\gS t u
structure VA(X:Cx)(es:List Expr)(u:UA):Prop where
 ex:∃t,PA X es t/\oz t u
structure VO(X:Cx)(e:Option Expr)(u:UO):Prop where
 ex:∃t,PO X e t/\vX t u
structure VG(I:Nat->Bool)(X:Cx)(e:Expr)(u:UG):Prop where
 ex:∃t,PG X e t/\jD I t u
structure Rf(I:Nat->Bool)(X:Cx)(es:List Expr)(u:Cu):Prop where
 ex:∃t,MV X es t/\x_ I t u
structure VI(X:Cx)(tg e:Expr)(u:UI):Prop where
 ex:∃t,PI X tg e t/\s_ t u
structure AI(X:Cx)(es:List Expr)(u:UT):Prop where
 ex:∃t,Cy X es t/\gS t u
structure VL{α:Type} [Acc α] (I:Nat->Bool) (X:Cx) (inner:Value->PySem.Env->Sem Unit) (u:UL α):Prop where
 ex:∀p,∃tl,PN X (inner (.ref p) X.env) tl/\mX I p tl u
structure kr(I:Nat->Bool)(X:Cx)(s:Stmt)(u:US):Prop where
 ex:∃t,PS X s t/\fJ I t u
structure FR(I:Nat->Bool)(X:Cx)(ss:List Stmt)(u:US):Prop where
 ex:∃t,zD X ss t/\fJ I t u
section
variable {I:Nat->Bool}{X:Cx}{a b c e o l v:Expr}{es:List Expr}{ua ub uc ue uk uv uy:UB}{wa:UA}{ut UC:UT}{x name:Str}{p pos pos' apos bR:Pos}{r r':R2}{f f':D->D->(D->Prop)->Prop}{i n k:Nat}{T id:String}{ss sa sb:List Stmt}{s:Stmt}{w w':US}
theorem CI(hN:X.N[i]? = some x)(hv:ko X.env.scope x)(hd:(x==("__debug__":Str))=false:=by decide)(fB:(x==("__classdict__":Str))=false:=by decide):VE X (.Name x pos) (aa i):=⟨_,gk hN hv hd fB,Bi⟩
theorem Gi(hN:X.N[i]? = some x)(hv:ko X.env.scope x)(hd:(x==("__debug__":Str))=false:=by decide)(fB:(x==("__classdict__":Str))=false:=by decide):VE X (.Name x pos) (a7 i):=⟨_,gk hN hv hd fB,Ds⟩
theorem Gd(hN:X.N[i]? = some x)(hv:ko X.env.scope x)(hd:(x==("__debug__":Str))=false:=by decide)(fB:(x==("__classdict__":Str))=false:=by decide):VE X (.Name x pos) (eZ i):=⟨_,gk hN hv hd fB,Df⟩
theorem FZ(hN:X.N[i]? = some x)(hv:ko X.env.scope x)(hd:(x==("__debug__":Str))=false:=by decide)(fB:(x==("__classdict__":Str))=false:=by decide):VX X (.Name x pos) (lV i):=⟨_,gk hN hv hd fB,Gz⟩
theorem af{j m}:VE X (.Constant (.int j) m pos) (uC (.int j)):=⟨_,Ky,wL⟩
theorem k5{j m}:VE X (.Constant (.bool j) m pos) (uC (.bl j)):=⟨_,IX,wL⟩
theorem yl{m}:VE X (.Constant .none m pos) (uC .bJ):=⟨_,Kx,wL⟩
theorem bK{j m}:VE X (.Constant (.str j) m pos) (uC (.str j)):=⟨_,Ku,wL⟩
theorem Nj{j m}:VX X (.Constant (.bool j) m pos) (xC (.bl j)):=⟨_,IX,R0⟩
theorem Gf{j:Int}{t:Tok}(hm:X.mg x=some (.int j t))(hg:Gl X x)(hd:(x==("__debug__":Str))=false:=by decide):VE X (.Name x p) (uC (.int j)):=⟨_,Aa (v:=.int j) hg hm ⟨t,rfl⟩ hd,wL⟩
theorem aM{op:Operator}(ho:jf X (binaryOp op) r)(hf:iG r f)(ha:VE X a ua)(hb:VE X b ub):VE X (.BinOp a op b pos) (aj f ua ub):=let ⟨_,h1,s1⟩:=ha.ex;let ⟨_,h2,s2⟩:=hb.ex;⟨_,NL ho h1 h2,jn s1 s2 hf⟩
theorem CJ(ha:VE X a ua):VE X (.UnaryOp .USub a pos) (pb (fU fun i=>.int (-i)) ua):=let ⟨_,h1,s1⟩:=ha.ex;⟨_,NK JO h1,u5 s1 LV⟩
theorem uR{op:CmpOp}(ho:jf X (compareOp op) r)(hf:iG r f)(ha:VE X a ua)(hb:VE X b ub)(hm:behindInMarks op b=false):VE X (.Compare a [op] [b] pos) (aj f ua ub):=let ⟨_,h1,s1⟩:=ha.ex;let ⟨_,h2,s2⟩:=hb.ex;⟨_,Hu ho h1 h2 hm,jn s1 s2 hf⟩
theorem aS{op:CmpOp}(ho:jf X (compareOp op) r)(hf:iG r f)(ha:VE X a ua)(hb:VE X b ub)(hm:behindInMarks op b=false):VT X (.Compare a [op] [b] pos) (aN (aj f ua ub)):=let ⟨_,h1,s1⟩:=ha.ex;let ⟨_,h2,s2⟩:=hb.ex;⟨_,Hd ho h1 h2 hm,qi (jn s1 s2 hf)⟩
structure VC(X:Cx)(op:CmpOp)(a b:Expr)(u:UB):Prop where
 ex:∃t,PC X op a b t/\aY t u
theorem JK{op:CmpOp}(h:VC X op a b ue)(h1:behindInMarks op b=false:=by first|exact mw _ (by decide) (by decide)|rfl):VE X (.Compare a [op] [b] pos) ue:=let ⟨_,q,s⟩:=h.ex;⟨_,KA q h1,s⟩
theorem ji{op:CmpOp}(h:VC X op a b ue)(h1:behindInMarks op b=false:=by first|exact mw _ (by decide) (by decide)|rfl):VT X (.Compare a [op] [b] pos) (aN ue):=let ⟨_,q,s⟩:=h.ex;⟨_,Kl q h1,Bg s⟩
theorem zI{j pos'}(ha:VE X a ua):VC X .IsNot a (.Constant .none j pos') (pb (Fd true) ua):=let ⟨_,h1,s1⟩:=ha.ex;⟨_,Hx h1,Dd s1⟩
theorem JN(hu:X.A.units+1<cLine)(ha:VE X a ua)(hb:VE X b ub):VC X .In a b (aj (jy false) ua ub):=let ⟨_,h1,s1⟩:=ha.ex;let ⟨_,h2,s2⟩:=hb.ex;⟨_,KG hu h1 h2,GQ s1 s2⟩
theorem AY(hu:X.A.units+1<cLine)(ha:VE X a ua)(hb:VE X b ub):VC X .NotIn a b (aj (jy true) ua ub):=let ⟨_,h1,s1⟩:=ha.ex;let ⟨_,h2,s2⟩:=hb.ex;⟨_,BM hu h1 h2,yG s1 s2⟩
theorem CG{op KY:CmpOp}{pp qq:Int->Int->Bool}(ho:jf X (compareOp op) (yN fun i j=>.bl (pp i j)))(gh:jf X (compareOp KY) (yN fun i j=>.bl (qq i j)))(ha:VE X a ua)(hb:VE X b ub)(hc:VE X c uc)(hm:lastMarks [op,KY] [b,c]=false:=by with_unfolding_all rfl):VT X (.Compare a [op,KY] [b,c] pos) (aN (nj pp qq ua ub uc)):=
 let ⟨_,h1,s1⟩:=ha.ex;let ⟨_,h2,s2⟩:=hb.ex;let ⟨_,h3,s3⟩:=hc.ex;⟨_,DZ ho gh h1 h2 h3 hm,qi (Bt s1 s2 s3)⟩
theorem CF(h:VT X a ut):VT X (.UnaryOp .Not a pos) (ym ut):=let ⟨_,q,s⟩:=h.ex;⟨_,Kk q,GK s⟩
theorem VW.vt(h:VW X e ut):VT X e ut:=let ⟨_,q,s⟩:=h.ex;⟨_,q.pt,s⟩
theorem kA(h:VT X a ut):VW X (.BoolOp .And [a] pos) ut:=let ⟨_,q,s⟩:=h.ex;⟨_,Ha q,s⟩
theorem lr(h:VT X a ut)(h':VW X (.BoolOp .And (b::es) pos) UC):VW X (.BoolOp .And (a::b::es) pos) (qb ut UC):=let ⟨_,q,s⟩:=h.ex;let ⟨_,q',s'⟩:=h'.ex;⟨_,Ki q q',snd_and s s'⟩
theorem lX(h:VE X a ua)(he:∀whole,isTrue a X.env whole=(do let v <-whole;standAt a.pos;holding [v] (truthy v))):VT X a (lx ua):=let ⟨_,q,s⟩:=h.ex;⟨_,DY q he,Bf s⟩
theorem JJ{op}(h:VE X a ua):VE X (.BoolOp op [a] pos) ua:=let ⟨_,q,s⟩:=h.ex;⟨_,Kw q,s⟩
theorem JL(h:VE X a ua)(h':VE X (.BoolOp .And (b::es) pos) ub):VE X (.BoolOp .And (a::b::es) pos) (zN ua ub):=let ⟨_,q,s⟩:=h.ex;let ⟨_,q',s'⟩:=h'.ex;⟨_,KC q q',Du s s'⟩
theorem lY(hc:VT X c ut)(h:VE X a ua)(h':VE X b ub):VE X (.IfExp c a b pos) (zK ut ua ub):=let ⟨_,q0,s0⟩:=hc.ex;let ⟨_,q,s⟩:=h.ex;let ⟨_,q',s'⟩:=h'.ex;⟨_,Ea q0 q q',GO s0 s s'⟩
theorem ah:VA X [] ao:=⟨_,lD,uZ⟩
theorem ab(ha:VE X e ue)(hr:VA X es wa)(h:aH e=true:=by rfl):VA X (e::es) (ae ue wa):=let ⟨_,q,s⟩:=ha.ex;let ⟨_,q',s'⟩:=hr.ex;⟨_,IZ q q' h,l6 s s'⟩
theorem eY{m}(h:VA X es wa):VE X (.Tuple es m pos) (gf wa):=let ⟨_,q,s⟩:=h.ex;⟨_,Hn q,GD s⟩
theorem bG(h:VA X es wa):VE X (.List es pos) (cW wa):=let ⟨_,q,s⟩:=h.ex;⟨_,Hr q,GL s⟩
theorem CK(hr:Iy X r)(hf:iG r f)(ha:VE X a ua)(hb:VE X b ub)(hs:jE b):VE X (.Subscript a b pos) (aj f ua ub):=let ⟨_,h1,s1⟩:=ha.ex;let ⟨_,h2,s2⟩:=hb.ex;⟨_,IW hr h1 h2 hs,jn s1 s2 hf⟩
theorem Gh(hu:X.A.units+1<cLine)(ha:VE X a ua)(hb:VE X b ub)(hs:vY b):VE X (.Subscript a b pos) (aj oR ua ub):=let ⟨_,h1,s1⟩:=ha.ex;let ⟨_,h2,s2⟩:=hb.ex;⟨_,Ab hu h1 h2 hs,Dr s1 s2⟩
theorem Gg(hu:X.A.units+1<cLine)(ho:VE X o ua)(ha:VE X a ub)(hb:VE X b uc)(m:M2 X o "get" apos a b bR):VE X (.Call (.Attribute o "get" apos) [a,b] [] bR) (wC ua ub uc):=let ⟨_,h1,s1⟩:=ho.ex;let ⟨_,h2,s2⟩:=ha.ex;let ⟨_,h3,s3⟩:=hb.ex;⟨_,Ec hu h1 h2 h3 m,Dk s1 s2 s3⟩
theorem kC:VO X none hE:=⟨_,Hi,yD⟩
theorem kB(h:VE X e ue):VO X (some e) (l0 ue):=let ⟨_,q,s⟩:=h.ex;⟨_,Hh q,Dc s⟩
theorem wu{lo hi:Option Expr}{ul uh:UO}{p2:Pos}(h:VE X e ue)(hl:VO X lo ul)(hh:VO X hi uh):VE X (.Subscript e (.Slice lo hi none p2) pos) (Nk ue ul uh):=let ⟨_,q,s⟩:=h.ex;let ⟨_,q1,s1⟩:=hl.ex;let ⟨_,q2,s2⟩:=hh.ex;⟨_,qI wM q q1 q2,J0 s s1 s2⟩
theorem Gj{ms:List Bool}{m:fH}(O:L2.Own X.prog X.w X.K X.mg X.base x k (gb ms m))(hr:eB k X.A)(ha:VA X (e::es) wa)(hg:Gl X x)(i_:(x==("__debug__":Str))=false:=by decide)(h1:aH e=true:=by rfl)(h2:es.all aH=true:=by rfl):VE X (.Call (.Name x p) (e::es) [] pos) (aA ms m wa):=
 let ⟨_,q,s⟩:=ha.ex;⟨_,NO O hr q hg i_ h1 h2,wK s⟩
theorem CQ{r:List V->Hp->VK->Prop}{f:List D->(D->Prop)->Prop}(hc:gT X (.builtin id) r)(hf:MW r f)(hg:Gl X x)(hm:X.mg x=none)(hv:bootBuiltins x=some (.builtin id))(ha:VA X (e::es) wa)(hn:x≠"__name__":=by decide)(i_:(x==("__debug__":Str))=false:=by decide)(h1:aH e=true:=by rfl)(h2:es.all aH=true:=by rfl):VE X (.Call (.Name x p) (e::es) [] pos) (pR f wa):=
 let ⟨_,q,s⟩:=ha.ex;⟨_,vT hc hg hm hv q hn i_ h1 h2,u6 s hf⟩
theorem tI{r:List V->Hp->VK->Prop}{f:List D->(D->Prop)->Prop}(hc:gT X (.type T) r)(hf:MW r f)(hg:Gl X x)(hm:X.mg x=none)(hv:bootBuiltins x=some (.type T))(ha:VA X (e::es) wa)(hn:x≠"__name__":=by decide)(i_:(x==("__debug__":Str))=false:=by decide)(h1:aH e=true:=by rfl)(h2:es.all aH=true:=by rfl):VE X (.Call (.Name x p) (e::es) [] pos) (pR f wa):=
 let ⟨_,q,s⟩:=ha.ex;⟨_,AF hc hg hm hv q hn i_ h1 h2,u6 s hf⟩
theorem zH:VE X (.Dict [] [] pos) (wD false):=⟨_,Eb,Bo⟩
theorem p9(ha:VE X a ua)(hb:VE X b ub):VE X (.Dict [some a] [b] pos) (nh ua ub):=let ⟨_,h1,s1⟩:=ha.ex;let ⟨_,h2,s2⟩:=hb.ex;⟨_,Hs (D8 h1 h2 Hg) rfl rfl (by simp) (by simp),Bp s1 s2⟩
theorem JI(hN:X.N[i]? = some x)(hv:ko X.env.scope x)(hd:(x==("__debug__":Str))=false:=by decide)(fB:(x==("__classdict__":Str))=false:=by decide)(dX:attributeBase (.Name x p) "pop" X.env (eval (.Name x p) X.env)=eval (.Name x p) X.env:=by rfl)(dW:(apos.endLine==bR.line)=true:=by rfl):VE X (.Call (.Attribute (.Name x p) "pop" apos) [] [] bR) (CV i):=
 ⟨_,Eg PySem.F.plainAttrs_list PySem.F.slot_list_pop PySem.F.type_list_pop K5 (gk hN hv hd fB) dX dW,GJ⟩
theorem F_(hI:I i=false)(hN:X.N.Nodup)(hi:X.N[i]? = some x)(hx:Loc X.env.scope x)(hf:X.fn x=true\/X.env.scope.names.lookup x=some .local):VG I X (.Name x pos) (au i):=⟨_,z_ hN hi hx hf,tR hI⟩
theorem CH(hI:I i=false)(hN:X.N.Nodup)(hi:X.N[i]? = some x)(hx:Loc X.env.scope x)(hf:X.fn x=true\/X.env.scope.names.lookup x=some .local):VG I X (.Name x pos) (bB i):=⟨_,z_ hN hi hx hf,qk hI⟩
theorem dM:Rf I X [] fO:=⟨_,Hm,Dj⟩
theorem aW{g:UG}{gs:Cu}(h:VG I X e g)(h':Rf I X es gs)(hs:(assignEach (e::es) X.env).map (·.2)=assign e X.env::(assignEach es X.env).map (·.2):=by rfl):Rf I X (e::es) (bC g gs):=let ⟨_,q,s⟩:=h.ex;let ⟨_,q',s'⟩:=h'.ex;⟨_,D' q q' hs,Bm s s'⟩
theorem fq{m:Nat}{gs:Cu}(hc:X.calm=true)(h:Rf I X es gs)(hn:(assignEach es X.env).length=n:=by rfl)(zi:(assignEach es X.env).findIdx? (·.1)=none:=by rfl):VG I X (.Tuple es m pos) (fN n gs):=let ⟨_,q,s⟩:=h.ex;⟨_,Ks hc q hn zi,Di s⟩
theorem b3{tg:Expr}(h:VE X l ue):VI X tg l (dI bx ue):=let ⟨_,q,s⟩:=h.ex;⟨_,Hk q,Bk s⟩
theorem JH{tg:Expr}(h:VE X l ue):VI X tg l (dI qZ ue):=let ⟨_,q,s⟩:=h.ex;⟨_,Kr q,Dh s⟩
theorem F8{tg:Expr}(hg:Gl X "range")(hm:X.mg "range" = none)(h:VA X [a] wa)(hp:aH a=true:=by rfl):VI X tg (.Call (.Name "range" p) [a] [] pos) (fw wa):=let ⟨_,q,s⟩:=h.ex;⟨_,BJ hg hm q (by rw[bP hp];rfl),C' s⟩
theorem F9{elts:List Expr}{kk:Nat}{yq:Pos}(hg:Gl X "enumerate")(hm:X.mg "enumerate" = none)(h:VE X l ue)(hp:aH l=true:=by rfl):VI X (.Tuple elts kk yq) (.Call (.Name "enumerate" p) [l] [] pos) (oD bx ue):=let ⟨_,q,s⟩:=h.ex;⟨_,Hl hg hm (IZ q lD hp) (by rw[bP hp];rfl),Dm s⟩
theorem br:FR I X [] cg:=⟨_,Hf,De⟩
theorem ak(h:kr I X s w):FR I X [s] w:=let ⟨_,q,s⟩:=h.ex;⟨_,He q,s⟩
theorem ag(h:kr I X s w)(h':FR I X ss w'):FR I X (s::ss) (aC w w'):=let ⟨_,q,s⟩:=h.ex;let ⟨_,q',s'⟩:=h'.ex;⟨_,D0 q q',GH s s'⟩
theorem wk:kr I X s ly:=⟨_,D4,Bj⟩
theorem wm:kr I X (.Continue pos) zM:=⟨_,w_,Dt⟩
theorem aJ(h:VE X e ue):kr I X (.Return (some e) pos) (bO ue):=let ⟨_,q,s⟩:=h.ex;⟨_,Km q,GI s⟩
theorem F6(h:VE X e ue)(hs:swapsWith e none pos.line X.env=pure false:=by rfl):kr I X (.Expr e pos) (zL ue):=let ⟨_,q,s⟩:=h.ex;⟨_,mn q hs,Dp s⟩
theorem cR(hc:VT X c ut)(ha:FR I X sa w)(hb:FR I X sb w'):kr I X (.If c sa sb pos) (di ut w w'):=let ⟨_,q0,s0⟩:=hc.ex;let ⟨_,q,s⟩:=ha.ex;let ⟨_,q',s'⟩:=hb.ex;⟨_,NJ q0 q q',J1 s0 s s'⟩
theorem JF(hI:I i=false)(hN:X.N.Nodup)(hi:X.N[i]? = some x)(hx:Loc X.env.scope x)(he:VE X e ue)(hf:X.fn x=true\/X.env.scope.names.lookup x=some .local)(hs:swapsWith e (some (.Name x pos')) pos.line X.env=pure false:=by rfl):kr I X (.Assign [.Name x pos'] e pos) (aX ue (au i)):=let ⟨_,q,s⟩:=he.ex;⟨_,D3 hN hi hx q hs hf,l7 s (tR hI)⟩
theorem F5(hI:I i=false)(hN:X.N.Nodup)(hi:X.N[i]? = some x)(hx:Loc X.env.scope x)(he:VE X e ue)(hf:X.fn x=true\/X.env.scope.names.lookup x=some .local)(hs:swapsWith e (some (.Name x pos')) pos.line X.env=pure false:=by rfl):kr I X (.Assign [.Name x pos'] e pos) (aX ue (bB i)):=let ⟨_,q,s⟩:=he.ex;⟨_,D3 hN hi hx q hs hf,l7 s (qk hI)⟩
theorem p8{tg:Expr}{ug:UG}(he:VE X e ue)(hg:VG I X tg ug)(hs:swapsWithSole [tg] e pos.line X.env=pure false:=by rfl)(hw:swappedStores [tg] e X.env=pure none:=by rfl)(h1:(assignEach [tg] X.env).map (·.2)=[assign tg X.env]:=by rfl):kr I X (.Assign [tg] e pos) (aX ue ug):=let ⟨_,q,s⟩:=he.ex;let ⟨_,q',s'⟩:=hg.ex;⟨_,D6 q q' hs hw h1,l7 s s'⟩
theorem JG{op:Operator}{g:Int->Int->Int}(hI:I i=false)(hN:X.N.Nodup)(hi:X.N[i]? = some x)(hx:Loc X.env.scope x)(he:VE X e ue)(ho:Uk X op (SE g))(hf:X.fn x=true\/X.env.scope.names.lookup x=some .local):kr I X (.AugAssign (.Name x pos') op e pos) (CW i g ue):=let ⟨_,q,s⟩:=he.ex;⟨_,Kn hN hi hx q ho hf,GR hI s⟩
theorem AS(hN:X.N[i]? = some x)(hv:ko X.env.scope x)(ha:VA X (e::es) wa)(hd:(x==("__debug__":Str))=false:=by decide)(fB:(x==("__classdict__":Str))=false:=by decide)
  (dX:attributeBase (.Name x p) "append" X.env (eval (.Name x p) X.env)=eval (.Name x p) X.env:=by rfl) (hlen:(e::es).length<30:=by simp) (dW:(apos.endLine==bR.line)=true:=by rfl) (h1:aH e=true:=by rfl) (h2:es.all aH=true:=by rfl) (hs:swapsWith (.Call (.Attribute (.Name x p) "append" apos) (e::es) [] bR) none pos.line X.env=pure false:=by rfl) :
  kr I X (.Expr (.Call (.Attribute (.Name x p) "append" apos) (e::es) [] bR) pos) (cB i wa):=let ⟨_,q,s⟩:=ha.ex;⟨_,mn (Ud PySem.F.plainAttrs_list PySem.F.slot_list_append PySem.F.type_list_append lG (gk hN hv hd fB) q dX hlen dW h1 h2) hs,yI s⟩
theorem AQ(hN:X.N[i]? = some x)(hv:ko X.env.scope x)(ha:VA X (e::es) wa)(hd:(x==("__debug__":Str))=false:=by decide)(fB:(x==("__classdict__":Str))=false:=by decide)
  (dX:attributeBase (.Name x p) "extend" X.env (eval (.Name x p) X.env)=eval (.Name x p) X.env:=by rfl) (hlen:(e::es).length<30:=by simp) (dW:(apos.endLine==bR.line)=true:=by rfl) (h1:aH e=true:=by rfl) (h2:es.all aH=true:=by rfl) (hs:swapsWith (.Call (.Attribute (.Name x p) "extend" apos) (e::es) [] bR) none pos.line X.env=pure false:=by rfl) :
  kr I X (.Expr (.Call (.Attribute (.Name x p) "extend" apos) (e::es) [] bR) pos) (iH i wa):=let ⟨_,q,s⟩:=ha.ex;⟨_,mn (Ud PySem.F.plainAttrs_list PySem.F.slot_list_extend PySem.F.type_list_extend BR (gk hN hv hd fB) q dX hlen dW h1 h2) hs,yE s⟩
theorem yh(hN:X.N[i]? = some x)(hv:ko X.env.scope x)(hd:(x==("__debug__":Str))=false:=by decide)(fB:(x==("__classdict__":Str))=false:=by decide)(dX:attributeBase (.Name x p) "reverse" X.env (eval (.Name x p) X.env)=eval (.Name x p) X.env:=by rfl)(dW:(apos.endLine==bR.line)=true:=by rfl)(hs:swapsWith (.Call (.Attribute (.Name x p) "reverse" apos) [] [] bR) none pos.line X.env=pure false:=by rfl) :
  kr I X (.Expr (.Call (.Attribute (.Name x p) "reverse" apos) [] [] bR) pos) (jX i):=⟨_,mn (Eg PySem.F.plainAttrs_list PySem.F.slot_list_reverse PySem.F.type_list_reverse yZ (gk hN hv hd fB) dX dW) hs,wI⟩
structure Me(X:Cx)(s:Sel)(i:Nat)(e:Expr)(u:UX):Prop where
 ex:∃tk,PE X e (s.t X.K (jQ i) tk)/\oy tk u
theorem Gn(hu:X.A.units+1<cLine)(hN:X.N[i]? = some x)(hv:ko X.env.scope x){uk:UX}(hk:VX X b uk)(hs:vY b)(hd:(x==("__debug__":Str))=false:=by decide)(fB:(x==("__classdict__":Str))=false:=by decide):Me X .cy i (.Subscript (.Name x p) b pos) uk:=let ⟨_,q,s⟩:=hk.ex;⟨_,Ab hu (gk hN hv hd fB) q hs,s⟩
theorem Gm(hN:X.N[i]? = some x)(hv:ko X.env.scope x){uk:UX}(hk:VX X b uk)(hs:jE b)(hd:(x==("__debug__":Str))=false:=by decide)(fB:(x==("__classdict__":Str))=false:=by decide):Me X .lst i (.Subscript (.Name x p) b pos) uk:=let ⟨_,q,s⟩:=hk.ex;⟨_,IW Ak (gk hN hv hd fB) q hs,s⟩
theorem wo{sl:Sel}{uk uy:UX}(hc:Me X sl i o uk)(hy:VX X e uy)(dX:attributeBase o "append" X.env (eval o X.env)=eval o X.env:=by rfl)(dW:(apos.endLine==bR.line)=true:=by rfl)(h1:aH e=true:=by rfl)(hs:swapsWith (.Call (.Attribute o "append" apos) [e] [] bR) none pos.line X.env=pure false:=by rfl) :
  kr I X (.Expr (.Call (.Attribute o "append" apos) [e] [] bR) pos) (i4 sl i uk uy):=let ⟨_,q,s⟩:=hc.ex;let ⟨_,q',s'⟩:=hy.ex;⟨_,mn (Ud PySem.F.plainAttrs_list PySem.F.slot_list_append PySem.F.type_list_append lG q (IZ q' lD h1) dX (by simp) dW h1 rfl) hs,u7 sl s s'⟩
theorem F7(hu:X.A.units+1<cLine)(hN:X.N[i]? = some x)(Lu:ko X.env.scope x)(hk:VE X b uk)(hv:VE X v uv)(hd:(x==("__debug__":Str))=false:=by decide)(fB:(x==("__classdict__":Str))=false:=by decide)(hs:swapsWith v (some (.Subscript (.Name x p) b pos')) pos.line X.env=pure false:=by rfl):kr I X (.Assign [.Subscript (.Name x p) b pos'] v pos) (iZ i uk uv):=
 let ⟨_,q,s⟩:=hk.ex;let ⟨_,q',s'⟩:=hv.ex;⟨_,z9 hu (gk hN Lu hd fB) q q' hs,Dq s s'⟩
theorem AR{sl:Sel}{uj uk uv:UX}(hu:X.A.units+1<cLine)(hc:Me X sl i o uj)(hk:VX X b uk)(hv:VX X v uv)(hs:swapsWith v (some (.Subscript o b pos')) pos.line X.env=pure false:=by rfl):kr I X (.Assign [.Subscript o b pos'] v pos) (l4 sl i uj uk uv):=
 let ⟨_,q0,s0⟩:=hc.ex;let ⟨_,q,s⟩:=hk.ex;let ⟨_,q',s'⟩:=hv.ex;⟨_,z9 hu q0 q q' hs,yF sl s0 s s'⟩
theorem F4(hN:X.N[i]? = some x)(Lu:ko X.env.scope x)(hk:VE X b uk)(hv:VE X v uv)(hd:(x==("__debug__":Str))=false:=by decide)(fB:(x==("__classdict__":Str))=false:=by decide)(ha:∀v,assign (.Subscript (.Name x p) b pos') X.env v=(do let ov <-holding [v] (eval (.Name x p) X.env);let iv <-holding [v,ov] (eval b X.env);standAt pos';holding [v,ov,iv] (setItem ov iv v);release [v,ov,iv] []):=by intro _;rfl)
  (hs:swapsWithSole [.Subscript (.Name x p) b pos'] v pos.line X.env=pure false:=by rfl) (hw:swappedStores [.Subscript (.Name x p) b pos'] v X.env=pure none:=by rfl) (h1:(assignEach [.Subscript (.Name x p) b pos'] X.env).map (·.2)=[assign (.Subscript (.Name x p) b pos') X.env]:=by rfl):kr I X (.Assign [.Subscript (.Name x p) b pos'] v pos) (tK i uk uv):=
 let ⟨_,q,s⟩:=hk.ex;let ⟨_,q',s'⟩:=hv.ex;⟨_,D6 q' (Kt (gk hN Lu hd fB) q set_list ha) hs hw h1,C_ s s'⟩
theorem cY{tg iter:Expr}{ui:UI}{ug:UG}(hp:PassesOwn (model X.prog X.w) X.A X.env X.xe)(hc:X.calm=true)(hi:VI X tg iter ui)(hg:VG I X tg ug)(hb:FR I X ss w)(hs:∀x,foldedSetIterable iter X.env x=pure x:=by intro _;rfl):kr I X (.For tg iter ss [] pos) (eC ui ug w):=let ⟨_,q0,s0⟩:=hi.ex;let ⟨_,q,s⟩:=hg.ex;let ⟨_,q',s'⟩:=hb.ex;⟨_,D5 hp hc q0 q q' hs,GP s0 s s'⟩
theorem zG{tg iter:Expr}{ug:UG}(hp:PassesOwn (model X.prog X.w) X.A X.env X.xe)(hc:X.calm=true)(hi:VE X iter ue)(hg:VG I X tg ug)(hb:FR I X ss w)(hs:∀x,foldedSetIterable iter X.env x=pure x:=by intro _;rfl):kr I X (.For tg iter ss [] pos) (eC (dI du ue) ug w):=let ⟨_,q0,s0⟩:=hi.ex;let ⟨_,q,s⟩:=hg.ex;let ⟨_,q',s'⟩:=hb.ex;⟨_,D2 (D5 hp hc (vk q0) q q' hs),Dl s0 s s'⟩
theorem p6(hp:PassesOwn (model X.prog X.w) X.A X.env X.xe)(hc:VT X c ut)(hb:FR I X ss w):kr I X (.While c ss [] pos) (m_ ut w):=let ⟨_,q,s⟩:=hc.ex;let ⟨_,q',s'⟩:=hb.ex;⟨_,D1 hp q q',Be s s'⟩
end
def nX:List Str->Bool
 | []=>true
 |x::r=>!r.contains x&&nX r
theorem kH:∀{l:List Str},nX l=true->l.Nodup
 | [],_=>.nil
 |x::r,h=>by
  simp only[nX,Bool.and_eq_true,Bool.not_eq_true',List.contains_eq_mem,decide_eq_false_iff_not] at h
  exact List.nodup_cons.mpr ⟨h.1,kH h.2⟩
def L'(sc ME:Scope)(ks N2 N0:List Str):Bool:=
 (match sc.kind with | .function=>true|_=>false)&&sc.names.all (fun y=>decide (y.2≠.cell))&&sc.names.all (fun y=>decide (y.2=.local->sc.names.lookup y.1=some .local))&&sc.names.all (fun y=>decide (y.2=.free->ME.names.lookup y.1=some .cell\/ME.names.lookup y.1=some .free)) &&
 decide (N2.length=N0.length)&&nX (ks++N2)&&(List.range N2.length).all fun j=>match N2[j]? with
  |some x=>decide (sc.names.lookup x=none)||(decide (sc.names.lookup x=some .free)&&decide (N0[j]? = some x))
  |none=>true
theorem L_{X:Cx}{sc ME:Scope}{ks N2 N0:List Str}(h0:X.env.scope=ME)(hN:X.N=N0)(h:L' sc ME ks N2 N0=true):vZ X sc ks N2:=by
 simp only[L',Bool.and_eq_true,List.all_eq_true,decide_eq_true_eq] at h
 obtain⟨⟨⟨⟨⟨⟨h1,h2⟩,h3⟩,h4⟩,h5⟩,h6⟩,h7⟩:=h
 refine⟨?_,fun y hy=>h2 y hy,fun y hy=>h3 y hy,fun y hy e=>?_,by rw[hN];exact h5,kH h6,fun j x e=>?_⟩
 ·revert h1
  cases sc.kind<;>intro h1<;>first|rfl|(cases h1)
 ·show X.env.scope.names.lookup y.1=some .cell\/X.env.scope.names.lookup y.1=some .free
  rw[h0];exact h4 y hy e
 ·have hj:j<N2.length:=(List.getElem?_eq_some_iff.mp e).1
  have q:=h7 j (List.mem_range.mpr hj)
  rw[e] at q
  simp only[Bool.or_eq_true,Bool.and_eq_true,decide_eq_true_eq] at q
  rw[hN];exact q
section
variable {I:Nat->Bool}{X:Cx}{sc:Scope}{N:List Str}{C:Addr}{sh:Shared}{H0:Hp}{fp:List Addr}{pins:List (Addr×Obj)}{x:Str}
theorem lQ(x:Str):(dA X sc N C sh H0 fp pins).env.scope.names.lookup x=(sc.names.lookup x).map fun k=>if (k==NameKind.free&&X.env.scope.kind==.function&&X.env.kindOf x==some .cell) then NameKind.cell else k:=ix (env:=X.env) sc.names x
theorem jC(h:sc.names.lookup x=some .local):(dA X sc N C sh H0 fp pins).env.scope.names.lookup x=some .local:=by rw[lQ,h];rfl
theorem km(h:sc.names.lookup x=some .local):Loc (dA X sc N C sh H0 fp pins).env.scope x:=.inl (jC h)
theorem d4(h:sc.names.lookup x=some .local):ko (dA X sc N C sh H0 fp pins).env.scope x:=.inl (jC h)
theorem d5(h:sc.names.lookup x=some .free):ko (dA X sc N C sh H0 fp pins).env.scope x:=by
 have e:=lQ (X:=X) (sc:=sc) (N:=N) (C:=C) (sh:=sh) (H0:=H0) (fp:=fp) (pins:=pins) x
 rw[h] at e
 by_cases q:(NameKind.free==NameKind.free&&X.env.scope.kind==.function&&X.env.kindOf x==some .cell)=true
 ·exact .inr (.inl (e.trans (by show some (if _ then _ else _)=_;rw[if_pos q])))
 ·exact .inr (.inr (e.trans (by show some (if _ then _ else _)=_;rw[if_neg q])))
theorem eX(h:sc.names.lookup x=some .globalImplicit):Gl (dA X sc N C sh H0 fp pins) x:=by
 show(dA X sc N C sh H0 fp pins).env.scope.names.lookup x=some .globalImplicit
 rw[lQ,h];rfl
end
theorem gI{X:Cx}:AI X [] lu:=⟨_,Hc,GC⟩
theorem lW{X:Cx}{c:Expr}{u:UT}(h:VT X c u):AI X [c] u:=let ⟨_,q,s⟩:=h.ex;⟨_,Hb q,s⟩
theorem pQ{I:Nat->Bool}{X:Cx}{elt:Expr}{u:UB}(h:VE X elt u):VL I X (fun acc env=>do let _ <-call (.builtin "list.append") [acc,<-eval elt env]) (fE u):=⟨fun p=>let ⟨_,q,s⟩:=h.ex;⟨_,Hj q,Dn s⟩⟩
theorem wq{t:Bool}{I:Nat->Bool}{X:Cx}{kx vx:Expr}{uk uv:UB}{q:Pos}(hu:X.A.units+1<cLine)(hk:VE X kx uk)(hv:VE X vx uv):VL I X (fun acc env=>do
    let kv <-eval kx env
    let vv <-holding [kv] (eval vx env)
    match acc with
    | .ref d=>do
     standAt q
     holding [kv,vv] (dictSet d kv vv)
    |_=>unsupported "internal:dictcomp") (kf (t:=t) uk uv):=⟨fun p=>let ⟨_,q1,s1⟩:=hk.ex;let ⟨_,q2,s2⟩:=hv.ex;⟨_,D9 hu q1 q2,Bn s1 s2⟩⟩
section
variable {I:Nat->Bool}{X:Cx}{elt kx vx iter tg:Expr}{ifs:List Expr}{sc ME:Scope}{pos jm py:Pos}{y:Str}{ks N2 N0:List Str}{ui:UI}{ug uT:UG}{ut:UT}{ue uk uv:UB}
theorem rA{α:Type} [Acc α] {N:List Str}{n:Nat}{inner:Value->PySem.Env->Sem Unit}{ul:UL α} (hg:∀C s H fp pins,VG (outs n) (dA X sc N C s H fp pins) tg ug) (ht:∀C s H fp pins,AI (dA X sc N C s H fp pins) ifs ut) (hl:∀C s H fp pins,VL (outs n) (dA X sc N C s H fp pins) inner ul) :
  ∀C s H0 fp pins p,∃g tt tl,PG (dA X sc N C s H0 fp pins) tg g/\Cy (dA X sc N C s H0 fp pins) ifs tt/\PN (dA X sc N C s H0 fp pins) (inner (.ref p) (dA X sc N C s H0 fp pins).env) tl/\jD (outs n) g ug/\gS tt ut/\mX (outs n) p tl ul:=fun C s H0 fp pins p=>
 let ⟨_,q1,s1⟩:=(hg C s H0 fp pins).ex;let ⟨_,q2,s2⟩:=(ht C s H0 fp pins).ex;let ⟨_,q3,s3⟩:=(hl C s H0 fp pins).ex p;⟨_,_,_,q1,q2,q3,s1,s2,s3⟩
theorem jj(S:vZ X sc ks N2)(hc:X.calm=true)(hi:VI X tg iter ui)(hg:∀C s H fp pins,VG (outs ks.length) (dA X sc (ks++N2) C s H fp pins) tg ug)(ht:∀C s H fp pins,AI (dA X sc (ks++N2) C s H fp pins) ifs ut)(he:∀C s H fp pins,VE (dA X sc (ks++N2) C s H fp pins) elt ue)(hs:∀x,foldedSetIterable iter X.env x=pure x:=by intro _;rfl) :
  VE X (.ListComp elt [⟨tg,iter,ifs,0⟩] sc pos) (fP ks.length ui ug ut (fE ue)):=let ⟨_,q,s⟩:=hi.ex;⟨_,Ht (inner:=fun acc env=>do let _ <-call (.builtin "list.append") [acc,<-eval elt env]) S hc q (fun _ _ _=>rfl) hs,ql s (rA hg ht fun C s H fp pins=>pQ (he C s H fp pins))⟩
theorem p7(hI:VG I X (.Name y py) uT)(S:vZ X sc ks N2)(hc:X.calm=true)(hi:VI X tg iter ui)(hg:∀C s H fp pins,VG (outs ks.length) (dA X sc (ks++N2) C s H fp pins) tg ug)(ht:∀C s H fp pins,AI (dA X sc (ks++N2) C s H fp pins) ifs ut)(he:∀C s H fp pins,VE (dA X sc (ks++N2) C s H fp pins) elt ue)
  (B1:swapsWith (.ListComp elt [⟨tg,iter,ifs,0⟩] sc pos) (some (.Name y py)) jm.line X.env=pure true) (hs:∀x,foldedSetIterable iter X.env x=pure x:=by intro _;rfl) :
  kr I X (.Assign [.Name y py] (.ListComp elt [⟨tg,iter,ifs,0⟩] sc pos) jm) (aX (fP ks.length ui ug ut (fE ue)) uT):=let ⟨_,q,s⟩:=hi.ex;let ⟨_,q',s'⟩:=hI.ex;⟨_,qG (inner:=fun acc env=>do let _ <-call (.builtin "list.append") [acc,<-eval elt env]) S hc q (fun _ _ _=>rfl) q' B1 hs,l7 (ql s (rA hg ht fun C s H fp pins=>pQ (he C s H fp pins))) s'⟩
theorem uP(t:Bool)(hu:X.A.units+1<cLine)(hI:VG I X (.Name y py) uT)(S:vZ X sc ks N2)(hc:X.calm=true)(hi:VE X iter ue)(hg:∀C s H fp pins,VG (outs ks.length) (dA X sc (ks++N2) C s H fp pins) tg ug)(ht:∀C s H fp pins,AI (dA X sc (ks++N2) C s H fp pins) ifs ut)(hk:∀C s H fp pins,VE (dA X sc (ks++N2) C s H fp pins) kx uk)(hv:∀C s H fp pins,VE (dA X sc (ks++N2) C s H fp pins) vx uv)
  (B1:swapsWith (.DictComp kx vx [⟨tg,iter,ifs,0⟩] sc pos) (some (.Name y py)) jm.line X.env=pure true) (hs:∀x,foldedSetIterable iter X.env x=pure x:=by intro _;rfl) :
  kr I X (.Assign [.Name y py] (.DictComp kx vx [⟨tg,iter,ifs,0⟩] sc pos) jm) (aX (ni t ks.length (dI du ue) ug ut (kf uk uv)) uT):=by
 obtain⟨_,q,s⟩:=hi.ex
 obtain⟨_,q',s'⟩:=hI.ex
 refine⟨_,D2 (w9 t (inner:=fun acc env=>do
    let kv <-eval kx env
    let vv <-holding [kv] (eval vx env)
    match acc with
    | .ref d=>do
     standAt {kx.pos with endLine:=vx.pos.endLine,endCol:=vx.pos.endCol}
     holding [kv,vv] (dictSet d kv vv)
    |_=>unsupported "internal:dictcomp") S hc (vk q) (fun _ _ _=>rfl) q' B1 hs),?_⟩
 intro σ env Z H φ DE E O hq k
 refine qj (acc0:=(⟨[],[]⟩:pO t)) rfl N' (fun acc=>.cy true t acc.ks acc.ds) Il s (rA hg ht fun C s H fp pins=>wq hu (hk C s H fp pins) (hv C s H fp pins)) s' σ env Z H φ DE E O ?_ k
 have e:(fun(acc:pO t) (e':ai)=>∃d,Ref.a8 (.cy true t acc.ks acc.ds)=.a8 d/\uT d (e'.drop ks.length) DE.nx)=fun acc e'=>uT (.cy true t acc.ks acc.ds) (e'.drop ks.length) DE.nx:=by
  funext acc e'
  exact propext ⟨fun⟨d,h,q⟩=>by cases h;exact q,fun q=>⟨_,rfl,q⟩⟩
 show dI du ue env fun items e=>ef ug ut (kf uk uv) (fun acc e'=>uT (.cy true t acc.ks acc.ds) (e'.drop ks.length) DE.nx) items ⟨[],[]⟩ (List.replicate ks.length none++e)
 rw[<-e]
 exact hq
end
end VS
end
section
namespace VS
open PySem L2
section
variable {g:Int->Int->D}{C:Int->Int->Prop}{h:Int->D}
end
theorem b4{o:Bool}{ds:List D}:aT (.lst o ds)=.lst false (d9 ds):=by simp only[aT]
theorem jq{ds:List D}:aT (.tup ds)=.tup (d9 ds):=by simp only[aT]
theorem yO{o t:Bool}{ks:List DK}{ds:List D}:aT (.cy o t ks ds)=.cy false t ks (d9 ds):=by simp only[aT]
theorem gX{i:Int}:aT (.int i)=.int i:=by simp only[aT]
theorem iQ{x:Str}:aT (.str x)=.str x:=by simp only[aT]
theorem DV{x:Bool}:aT (.bl x)=.bl x:=by simp only[aT]
theorem Kg:aT .bJ=.bJ:=by simp only[aT]
theorem jr{o:Bool}{ds:List D}:bare (.lst o ds)=(!o&&a9 ds):=by simp only[bare]
theorem yP{ds:List D}:bare (.tup ds)=a9 ds:=by simp only[bare]
theorem NI{o t:Bool}{ks:List DK}{ds:List D}:bare (.cy o t ks ds)=(!o&&a9 ds):=by simp only[bare]
theorem Kh{i:Int}:bare (.int i)=true:=by simp only[bare]
theorem DW{x:Str}:bare (.str x)=true:=by simp only[bare]
theorem Sg{x:Bool}:bare (.bl x)=true:=by simp only[bare]
theorem Sf:bare .bJ=true:=by simp only[bare]
theorem pf{o:Bool}{ds:List D}:eJ (.lst o ds)=(o&&jv ds):=by simp only[eJ]
theorem w5{ds:List D}:eJ (.tup ds)=jv ds:=by simp only[eJ]
theorem G_{o t:Bool}{ks:List DK}{ds:List D}:eJ (.cy o t ks ds)=(o&&jv ds):=by simp only[eJ]
theorem G9{i:Int}:eJ (.int i)=true:=by simp only[eJ]
theorem G8{x:Str}:eJ (.str x)=true:=by simp only[eJ]
theorem Se{x:Bool}:eJ (.bl x)=true:=by simp only[eJ]
theorem Sd:eJ .bJ=true:=by simp only[eJ]
theorem bM{d:D}{ds:List D}:a9 (d::ds)=(bare d&&a9 ds):=by simp only[a9]
theorem d7:a9 []=true:=by simp only[a9]
theorem eU{d:D}{ds:List D}:jv (d::ds)=(eJ d&&jv ds):=by simp only[jv]
theorem gM:jv []=true:=by simp only[jv]
theorem eV{d:D}{ds:List D}:d9 (d::ds)=aT d::d9 ds:=by simp only[d9]
theorem fC:d9 []=[]:=by simp only[d9]
theorem kO:∀{ds:List D},a9 ds=true↔∀d∈ds,bare d=true
 | []=>by simp[a9]
 |d::ds=>by simp[a9,kO (ds:=ds)]
theorem qS:∀{ds:List D},jv ds=true↔∀d∈ds,eJ d=true
 | []=>by simp[jv]
 |d::ds=>by simp[jv,qS (ds:=ds)]
theorem mC:∀{ds:List D},d9 ds=ds.map aT
 | []=>by simp[d9]
 |d::ds=>by simp[d9,mC (ds:=ds)]
theorem AH{α:Type}{xs:List α}{n:Nat}:g_ xs ((n:Nat):Int)=xs[n]?:=by
 unfold g_ xy
 by_cases h:n<xs.length
 ·rw[if_pos (by omega),if_pos (by omega)];simp
 ·rw[if_pos (by omega),if_neg (by omega)];simp;omega
theorem Pe{α:Type}{xs:List α}:g_ xs 0=xs[0]?:=AH (n:=0)
theorem HR{n m:Nat}(h:m<n):xy n ((m:Nat):Int)=some m:=by
 unfold xy
 rw[if_pos (by omega),if_pos (by omega)];simp
end VS
end
section
namespace VS
open PySem L2
theorem Lp{i:Nat}{d:D}{env:ai}{k:ai->Prop}(h:i<env.length/\k (env.set i (some d))):au i d env k:=h
theorem Ia{i:Nat}{d:D}{env:ai}{k:ai->Prop}(h:i<env.length/\k (env.set i (some (aT d)))):bB i d env k:=h
theorem zf{s:Sel}{i:Nat}{uk uy:UX}{E:cV}{env:ai}(h:∃d0 kd y cs jR,env[i]? = some (some d0)/\s.ok d0/\uk env kd/\uy env y/\child d0 kd=some (.lst true cs,jR)/\cs.length<=1000000/\E.nx (env.set i (some (jR (.lst true (cs++[y])))))):i4 s i uk uy E env:=h
theorem EN{s:Sel}{i:Nat}{uj uk uv:UX}{E:cV}{env:ai}(h:∃d0 jd kd x t ks ds k jR,env[i]? = some (some d0)/\s.ok d0/\uj env jd/\uk env kd/\uv env x/\child d0 jd=some (.cy true t ks ds,jR)/\keyOf t kd=some k/\ds.length<=1000000/\E.nx (env.set i (some (jR (.cy true t (dput ks ds k x).1 (dput ks ds k x).2))))):l4 s i uj uk uv E env:=h
section
variable {o o' t:Bool}{ds xs ys:List D}{ks:List DK}{i j k:Int}{x y:Str}{b c:Bool}{P:D->Prop}{d d1 d2:D}{a:Addr}{g:Int->Int->D}{C:Int->Int->Prop}{h1:Int->D}
end
theorem Od{ms:List Bool}{P:D->ai->Prop}{e:ai}(h:P .bJ (fin ms e)):cV.nx (bF ms P) e:=h
theorem Ob{ms:List Bool}{P:D->ai->Prop}{d:D}{e:ai}(h:P d (fin ms e)):cV.rt (bF ms P) d e:=h
theorem Oe{c:Bool}{A B:Prop}(h:c=true)(k:A):(if c=true then A else B):=by rw[if_pos h];exact k
theorem Of{c:Bool}{A B:Prop}(h:c=false)(k:B):(if c=true then A else B):=by rw[if_neg (by rw[h];exact Bool.false_ne_true)];exact k
theorem fo{c:Bool}{A B:Prop}(h:c=true->A)(k:c=false->B):(if c=true then A else B):=by
 cases e:c with
 |true=>exact h e
 |false=>exact k e
theorem bN{ug:UG}{ub:US}{E:cV}(W:List D->ai->Prop)(hn:∀e,W [] e->E.nx e)(hs:∀x xs e,(∀e',W xs e'->pL ug ub E xs e')->W (x::xs) e->ug x e fun e2=>ub ⟨pL ug ub E xs,E.rt,E.nx,pL ug ub E xs⟩ e2):∀xs e,W xs e->pL ug ub E xs e
 | [],e,h=>hn e h
 |x::xs,e,h=>hs x xs e (fun e'=>bN W hn hs xs e') h
theorem m8{uc:UT}{ub:US}{E:cV}{env:ai}(W:Nat->ai->Prop)(h0:∃m,W m env)(hs:∀m e (N:ai->Prop),(∀m' e',m'<m->W m' e'->N e')->W m e->uc e fun b e1=>if b=true then ub ⟨N,E.rt,E.nx,N⟩ e1 else E.nx e1):m_ uc ub E env:=
 ⟨W,h0,fun m e w=>hs m e (fun e2=>∃m',m'<m/\W m' e2) (fun m' e' l w'=>⟨m',l,w'⟩) w⟩
theorem eM{α:Type}{ug:UG}{ut:UT}{inner:UL α}{k:α->ai->Prop}(W:List D->α->ai->Prop)(hn:∀a e,W [] a e->k a e)(hs:∀x xs a e,(∀a' e',W xs a' e'->ef ug ut inner k xs a' e')->W (x::xs) a e->ug x e fun e2=>ut e2 fun b e3=>if b=true then inner a e3 (ef ug ut inner k xs) else ef ug ut inner k xs a e3):∀xs a e,W xs a e->ef ug ut inner k xs a e
 | [],a,e,h=>hn a e h
 |x::xs,a,e,h=>hs x xs a e (fun a' e'=>eM W hn hs xs a' e') h
theorem Lg{n:Nat}{k:Int}(h:0<=k)(h2:k<n):xy n k=some k.toNat:=by
 obtain⟨m,rfl⟩:=Int.eq_ofNat_of_zero_le h
 rw[HR (by omega)];rfl
theorem Fw{α:Type}{xs:List α}{k:Int}(h:0<=k)(h2:k<xs.length):g_ xs k=some (xs[k.toNat]'(by omega)):=by
 obtain⟨m,rfl⟩:=Int.eq_ofNat_of_zero_le h
 rw[AH,List.getElem?_eq_getElem (by omega)];rfl
theorem p3{α:Type}{f:α->D}{xs:List α}{k:Int}(h:0<=k)(h2:k<xs.length):g_ (xs.map f) k=some (f (xs[k.toNat]'(by omega))):=by
 rw[Fw h (by simpa using h2)];simp
theorem Md{α:Type}{xs:List α}{k:Int}(h:0<=k)(h2:k<xs.length):∃x∈xs,g_ xs k=some x:=⟨_,List.getElem_mem _,Fw h h2⟩
theorem mL{α:Type}{f:α->D}{xs:List α}{k:Int}(h:0<=k)(h2:k<xs.length):∃x∈xs,g_ (xs.map f) k=some (f x):=⟨_,List.getElem_mem _,p3 h h2⟩
end VS
end
section
namespace VS
open PySem L2
def mq(e:ai):List Ref->Option (List D)
 | []=>some []
 | .a8 d::rs=>(mq e rs).map (aT d :: ·)
 | .var i::rs=>match e[i]?,mq e rs with
  |some (some d),some ds=>if bare d=true then some (aT d::ds) else none
  |_,_=>none
theorem nM{e:ai}:∀{rs:List Ref}{ds:List D},mq e rs=some ds->ds.length=rs.length/\∀(k:Nat) (d:D),ds[k]? = some d->(∃d0,rs[k]? = some (.a8 d0)/\d=aT d0)\/(∃i d0,rs[k]? = some (.var i)/\e[i]? = some (some d0)/\bare d0=true/\d=aT d0)
 | [],ds,h=>by cases (show some []=some ds from h);exact⟨rfl,fun k d z=>by simp at z⟩
 | .a8 d0::rs,ds,h=>by
  unfold mq at h
  cases e2:mq e rs with
  |none=>simp[e2] at h
  |some Ay=>
   rw[e2] at h
   cases (show some (aT d0::Ay)=some ds from h)
   obtain⟨l,ih⟩:=nM e2
   refine⟨by simp[l],fun k d z=>?_⟩
   cases k with
   |zero=>cases (show some (aT d0)=some d from z);exact .inl ⟨d0,rfl,rfl⟩
   |succ k=>exact ih k d (by simpa using z)
 | .var i::rs,ds,h=>by
  unfold mq at h
  split at h
  ·rename_i d0 Ay e1 e2
   split at h
   ·rename_i hb
    cases (show some (aT d0::Ay)=some ds from h)
    obtain⟨l,ih⟩:=nM e2
    refine⟨by simp[l],fun k d z=>?_⟩
    cases k with
    |zero=>cases (show some (aT d0)=some d from z);exact .inr ⟨i,d0,rfl,e1,hb,rfl⟩
    |succ k=>exact ih k d (by simpa using z)
   ·cases h
  ·cases h
def p'(ms:List Bool)(m:fH)(ua:UA):UB:=fun env Q=>ua env fun rs e=>∃ds,mq e rs=some ds/\ds.length=ms.length/\m ds fun d es=>Q (.a8 d) e
theorem Bu{ms:List Bool}{m:fH}(Q4:∀i:Nat,ms[i]? = some true->False){t:TA}{u:UA}(h:oz t u):aY (tN (gb ms m) [] E0 t) (p' ms m u):=by
 intro σ env Z H φ Q R O q k
 refine h σ env Z H φ _ _ O q fun rs aL vs Z1 H1 bI G1 ⟨ds,ES,hlen,q1⟩ O1 r1 ok=>?_
 rw[List.append_nil]
 obtain⟨lv,refs⟩:=qy ok
 obtain⟨l1,ps⟩:=nM ES
 let Zc:Set:=fun a=>Z1 a\/G1 a
 let Jz:Nat->Set:=fun _ _=>False
 have Oc:Ok Zc H1 (ds.map some) (vs.map some) Jz:=by
  refine⟨fun j d e=>?_,fun _ _ _ z=>z.elim,fun _ _ z=>z.elim,fun _ _ z=>z.elim,fun a z=>z.elim (O1.zh a) fun z=>(r1.gm a z).ne,by simp[l1,lv]⟩
  obtain⟨x,ex,e⟩:=mx e
  cases ex
  rcases ps j d e with⟨d0,hr,rfl⟩|⟨i,d0,hr,he,hb,rfl⟩
  ·obtain⟨v,Gk,hv,ho,hs⟩:=refs j _ hr
   refine⟨v,by rw[List.getElem?_map,hv];rfl,?_⟩
   have ho:Own Z1 H1 d0 v Gk:=ho
   exact((Own.aT d0 ho).ig fun a z=>z.imp id (hs a)).mono fun _ z=>z.elim
  ·obtain⟨v,Gk,hv,ho,hs⟩:=refs j _ hr
   refine⟨v,by rw[List.getElem?_map,hv];rfl,?_⟩
   obtain⟨v',zg,gh⟩:=O1.own i d0 he
   have ho:σ[i]? = some (some v):=ho
   rw[zg] at ho;cases ho
   exact((Own.aT d0 (Own.bare d0 hb gh)).ig fun a z=>z.elim .inl fun z=>z.elim).mono fun _ z=>z.elim
 have nU:∀a,¬cQ Jz a:=fun a ⟨_,z⟩=>z
 refine⟨by rw[lv,<-l1,hlen],ds,Zc,Jz,_,hlen,Oc,fun j a z=>z.elim,q1,?_⟩
 rintro d es v Ph H' Jy G q2 Ve Pp rc sm ho
 have kk:∀a o,H1 a=some o->H' a=some o:=fun a o e=>rc.k a o e (nU a)
 have zc:∀a,Ph a->Z1 a\/G1 a\/H1 a=none:=fun a z=>by
  rcases rc.zn a z with z|z|z
  ·exact z.imp id .inl
  ·exact(nU a z).elim
  ·exact .inr (.inr z)
 have gn:∀a,G a->H1 a=none:=fun a z=>(rc.g a z).elim (fun z=>(nU a z).elim) id
 have nz:∀i a,bI i a->¬Ph a:=fun i a z y=>by
  rcases zc a y with y|y|y
  ·exact O1.fz i a z y
  ·exact r1.d a ⟨i,z⟩ y
  ·exact(O1.fm i a z).ne y
 have O2:Ok Ph H' aL σ bI:=by
  refine⟨fun i d' e=>?_,O1.dj,nz,fun i a z=>(O1.fm i a z).up fun o e=>kk a o e,fun a z=>Pp.zh a z,O1.len⟩
  obtain⟨w,hw,gh⟩:=O1.own i d' e
  exact⟨w,hw,Own.step (fun _=>False) (fun a z=>rc.z a (.inl z)) (fun a o e _=>kk a o e) (fun _ z=>z.elim) (fun _ _ z=>z.elim) d' (fun _ z=>z) (fun _ z=>z.elim) gh⟩
 refine k (.a8 d) aL v Ph H' bI G q2 O2 ⟨fun a z=>rc.z a (.inl (r1.z a z)),fun a z=>?_,fun a o e n=>?_,r1.f,fun a z=>r1.kn (.inr (gn a z)),fun a ⟨i,z⟩ y=>(O1.fm i a z).ne (gn a y),fun a z=>rc.gz a z,rc.gm⟩ ho
 ·rcases zc a z with z|z|z
  ·exact r1.zn a z
  ·exact .inr (r1.g a z)
  ·exact .inr (r1.kn (.inr z))
 ·exact kk a o (r1.k a o e n)
theorem Sr{ms:List Bool}(h:(ms.all fun b=>!b)=true):∀i:Nat,ms[i]? = some true->False:=fun i e=>by
 have:=List.all_eq_true.mp h true (List.mem_of_getElem? e)
 simp at this
section
variable {X:Cx}{e:Expr}{es:List Expr}{wa:UA}{x:Str}{k:Nat}{p pos:Pos}
theorem CO{ms:List Bool}{m:fH}(Q4:∀i:Nat,ms[i]? = some true->False)(O:L2.Own X.prog X.w X.K X.mg X.base x k (gb ms m))(hr:eB k X.A)(ha:VA X (e::es) wa)(hg:Gl X x)(i_:(x==("__debug__":Str))=false:=by decide)(h1:aH e=true:=by rfl)(h2:es.all aH=true:=by rfl):VE X (.Call (.Name x p) (e::es) [] pos) (p' ms m wa):=
 let ⟨_,q,s⟩:=ha.ex;⟨_,NO O hr q hg i_ h1 h2,Bu Q4 s⟩
end
end VS
end
section
namespace VS
open PySem L2
def KL(K:PySem.W.Frag)(a:Addr)(ns:List Int):Prop:=∃(o:Obj) (its:Array Value) (n:Nat),K.lookup a=some o/\o.cls=.type "list"/\o.dict=none/\o.data=.seq its n/\its.size<=sizeLine/\Vals (ns.map V.int) its.toList
theorem nO{Z:Set}{H:Hp}:∀{ns:List Int},ar Z H (ns.map D.int) (ns.map V.int) cE
 | []=>by simp[ar]
 |n::ns=>by
  simp only[List.map_cons,ar]
  exact⟨_,_,cE,cE,rfl,a_.mpr rfl,nO,fun _ z=>z,fun _ z=>z,fun _ z=>z.elim⟩
def Gq(L:Addr->List Int->Prop)(ua:UB)(ul uh:UO):UB:=fun env Q=>ua env fun r e1=>ul e1 fun lo e2=>uh e2 fun hi e3=>(∃o ds,r.at e3=some (.lst o ds)/\a9 ds=true/\Q (.a8 (.lst true (eA ds lo hi))) e3)\/∃a ns,r.at e3=some (.fn a)/\L a ns/\Q (.a8 (.lst true (eA (ns.map .int) lo hi))) e3
theorem GG{K:PySem.W.Frag}{t:TE}{u:UB}{tl th:TO}{ul uh:UO}(h:aY t u)(hl:vX tl ul)(hh:vX th uh):aY (Qt (Ke K) t tl th) (Gq (KL K) u ul uh):=by
 intro σ env Z H φ Q R O q k
 refine h σ env Z H φ _ _ O q fun x1 aL v1 Z1 H1 bI G1 q1 O1 r1 jh=>?_
 refine hl σ aL Z1 H1 bI _ _ O1 q1 fun lo fZ Z2 H2 gU q2 O2 r2=>?_
 refine hh σ fZ Z2 H2 gU _ _ O2 q2 fun hi sZ Z3 H3 yf q3 O3 r3=>?_
 obtain⟨z8,_⟩:=r1.seq r2
 have nV:=(jh.keep O1 r2 r1.d)
 have Af:=nV.keep O2 r3 fun a z y=>z8.d a z (.inl y)
 rcases q3 with⟨o,ds,ea,hb,q3⟩|⟨a,ns,ea,hL,q3⟩
 ·obtain⟨F,ho⟩:=eh O3 Af ea
  obtain⟨a,vs,rfl,hr,B4⟩:=fF ho
  refine⟨a,vs,rfl,.inl hr,fun p H4 hn hs hp=>?_⟩
  have hc:ar Z3 H3 (eA ds lo hi) (ki vs lo hi) cE:=by
   unfold eA ki
   rw[B4.length]
   exact((B4.bare ds hb).drop _).take _
  have n:=iV.lst hn hs hp hc
  exact k (.a8 _) sZ _ Z3 H4 yf _ q3 (O3.grow hs) (n.res O3 (z8.drop.trans r3)) n.own
 ·obtain⟨F,ho⟩:=eh O3 Af ea
  have ho:v1=.ref a:=by simpa only [Own] using ho
  subst ho
  refine⟨a,ns.map V.int,rfl,.inr hL,fun p H4 hn hs hp=>?_⟩
  have hc:ar Z3 H3 (eA (ns.map D.int) lo hi) (ki (ns.map V.int) lo hi) cE:=by
   unfold eA ki
   rw[List.length_map,List.length_map]
   exact(nO.drop _).take _
  have n:=iV.lst hn hs hp hc
  exact k (.a8 _) sZ _ Z3 H4 yf _ q3 (O3.grow hs) (n.res O3 (z8.drop.trans r3)) n.own
section
variable {X:Cx}{e:Expr}{ue:UB}{pos:Pos}
theorem AW{lo hi:Option Expr}{ul uh:UO}{p2:Pos}(h:VE X e ue)(hl:VO X lo ul)(hh:VO X hi uh):VE X (.Subscript e (.Slice lo hi none p2) pos) (Gq (KL X.K) ue ul uh):=let ⟨_,q,s⟩:=h.ex;let ⟨_,q1,s1⟩:=hl.ex;let ⟨_,q2,s2⟩:=hh.ex;⟨_,qI wM q q1 q2,GG s s1 s2⟩
end
theorem Bd{K:PySem.W.Frag}{m:fH}{H:Hp}{a:Addr}{ns:List Int}{E:XK}(hS:je K H a (ns.map V.int))(h:∀d:D,(d=.lst false (ns.map .int)\/(d=.fn a/\KL K a ns))->m [d] fun r _=>r=.bl true):gb [false] m [.ref a] H (fun v _=>v=.bl true) E:=by
 refine⟨rfl,?_⟩
 rcases hS with hS|hS
 ·refine⟨[.lst false (ns.map .int)],fun b=>b=a,fun _ _=>False,fun r _=>r=.bl true,rfl,⟨fun i d e=>?_,fun _ _ _ z=>z.elim,fun _ _ z=>z.elim,fun _ _ z=>z.elim,fun b z=>?_,rfl⟩,fun _ _ z=>z.elim,h _ (.inl rfl),?_⟩
  ·cases i with
   |zero=>
    cases (show some (some (D.lst false (ns.map .int)))=some (some d) from e)
    refine⟨.ref a,rfl,?_⟩
    simp only[Own]
    exact⟨a,_,rfl,hS,rfl,nO⟩
   |succ i=>simp at e
  ·subst z
   rcases hS with e|⟨_,e⟩<;>rw[e]<;>simp
  ·rintro d es v Z' H' cJ G rfl _ _ _ _ ho
   exact c_.mp ho
 ·refine⟨[.fn a],fun _=>False,fun _ _=>False,fun r _=>r=.bl true,rfl,⟨fun i d e=>?_,fun _ _ _ z=>z.elim,fun _ _ z=>z.elim,fun _ _ z=>z.elim,fun b z=>z.elim,rfl⟩,fun _ _ z=>z.elim,h _ (.inr ⟨rfl,hS⟩),?_⟩
  ·cases i with
   |zero=>
    cases (show some (some (D.fn a))=some (some d) from e)
    exact⟨.ref a,rfl,by simp only[Own]⟩
   |succ i=>simp at e
  ·rintro d es v Z' H' cJ G rfl _ _ _ _ ho
   exact c_.mp ho
end VS
end
section
namespace L2
open PySem PySem.Spec PyProof.Rows
inductive FC where
 |str|tup|lst|int|bool
 deriving DecidableEq
def FC.nm:FC->String
 | .str => "str" | .tup => "tuple" | .lst => "list" | .int => "int" | .bool => "bool"
def WR(H:Hp):V->FC->Bool->Prop
 | .int _,t,b=>b=decide (t=.int)
 | .bl _,t,b=>b=(decide (t=.int)||decide (t=.bool))
 | .str _,t,b=>b=decide (t=.str)
 | .bJ,_,b=>b=false
 | .ref a,t,b=>((∃xs,Rd H a (.lst xs))/\b=decide (t=.lst))\/((∃xs,Rd H a (.tup xs))/\b=decide (t=.tup))\/(Mg H a/\b=false)
 |_,_,_=>False
def NG(t:FC):List V->Hp->VK->Prop:=fun xs H Q=>∃x b,xs=[x,.ty t.nm]/\WR H x t b/\Q (.bl b) H
theorem Fu{X:Cx}{t:FC}:gT X (.builtin "isinstance") (NG t):=by
 intro pins s σ H xs us Q I r h
 obtain⟨x,b,rfl,hi,q⟩:=h
 cases r with
 |cons r1 r2=>
  cases r2 with
  |cons r2 r3=>
   cases r3
   obtain rfl:_=Value.type t.nm:=r2
   have f0:EP X pins σ Q (.bool b) s:=⟨.bl b,H,I,rfl,q⟩
   have f1:EP X pins σ Q (.bool b) {s with toks:=s.toks+1}:=⟨.bl b,H,I.tok _,rfl,q⟩
   cases x with
   |int i=>
    obtain⟨tk,rfl⟩:=r1
    cases t<;>cases hi
    ·exact IsiPair.int_str f1
    ·exact IsiPair.int_tuple f1
    ·exact IsiPair.int_list f1
    ·exact IsiPair.int_int f0
    ·exact IsiPair.int_bool f1
   |bl i=>
    cases r1
    cases t<;>cases hi
    ·exact IsiPair.bool_str f1
    ·exact IsiPair.bool_tuple f1
    ·exact IsiPair.bool_list f1
    ·exact IsiPair.bool_int f0
    ·exact IsiPair.bool_bool f0
   |str i=>
    obtain⟨tk,rfl⟩:=r1
    cases t<;>cases hi
    ·exact IsiPair.str_str f0
    ·exact IsiPair.str_tuple f1
    ·exact IsiPair.str_list f1
    ·exact IsiPair.str_int f1
    ·exact IsiPair.str_bool f1
   |bJ=>
    cases r1
    cases t<;>cases hi
    ·exact IsiPair.NoneType_str f1
    ·exact IsiPair.NoneType_tuple f1
    ·exact IsiPair.NoneType_list f1
    ·exact IsiPair.NoneType_int f1
    ·exact IsiPair.NoneType_bool f1
   |ref a=>
    cases r1
    rcases hi with⟨⟨ys,hr⟩,e⟩|⟨⟨ys,hr⟩,e⟩|⟨hd,e⟩
    ·obtain⟨its,_,pl,_⟩:=I.list (.inl hr)
     obtain⟨o,h1,h2,_⟩:=pl.isList
     cases t<;>cases e
     ·exact IsiPair.list_str h1 h2 f1
     ·exact IsiPair.list_tuple h1 h2 f1
     ·exact IsiPair.list_list h1 h2 f0
     ·exact IsiPair.list_int h1 h2 f1
     ·exact IsiPair.list_bool h1 h2 f1
    ·obtain⟨its,_,⟨o,h1,h2,_⟩,_⟩:=I.tuple (.inl hr)
     cases t<;>cases e
     ·exact IsiPair.tuple_str h1 h2 f1
     ·exact IsiPair.tuple_tuple h1 h2 f0
     ·exact IsiPair.tuple_list h1 h2 f1
     ·exact IsiPair.tuple_int h1 h2 f1
     ·exact IsiPair.tuple_bool h1 h2 f1
    ·obtain⟨⟨o,h1,h2⟩,_⟩:=y_ I hd
     cases e
     cases t
     ·exact IsiPair.dict_str h1 h2 f1
     ·exact IsiPair.dict_tuple h1 h2 f1
     ·exact IsiPair.dict_list h1 h2 f1
     ·exact IsiPair.dict_int h1 h2 f1
     ·exact IsiPair.dict_bool h1 h2 f1
   |vU _=>exact hi.elim
   |FN _=>exact hi.elim
   |ty _=>exact hi.elim
theorem Ex{X:Cx}:Jv X "dict.copy" (fun x xs H Q=>∃a aw,x=.ref a/\xs=[]/\Rd H a (.dK aw)/\∀q,H q=none->Q (.ref q) (upd H q (.dK aw))):=by
 intro pins s σ H x xs v us Q I rx rv h
 obtain⟨a,aw,rfl,rfl,e,q⟩:=h
 cases rx
 have Lx:=rv.zero
 subst Lx
 obtain⟨z,hd,vs,rel,dd⟩:=lh I.cb e
 refine call_meetsIn F.slot_dict_copy dd.typeIs F.entry_dict_copy (F.args_dict_copy_1 _) (meets_dict_copy _ a hd) ⟨vs,dd,by rw[<-rel.length];exact z,fun h' d1 d2 kp=>?_⟩
 exact⟨.ref s.heap.objs.size,_,I.laid (a:=s.heap.objs.size) (o:=.dK aw) (t':=s.toks) kp (Nat.le_refl _) (rD z (beq_eq_false_iff_ne.mpr (Ne.symm (Nat.ne_of_lt I.big))) rel d1),rfl,q _ (I.cb.fresh (Nat.le_refl _))⟩
end L2
namespace L2
open PySem PySem.Spec PyProof.Rows
def C7(td:TE):TE:=fun σ H Q=>td σ H fun x H1=>∃a aw,x=.ref a/\Rd H1 a (.dK aw)/\∀q,H1 q=none->Q (.ref q) (upd H1 q (.dK aw))
theorem Ed{X:Cx}{o:Expr}{td:TE}{apos bR:Pos}(ho:PE X o td)(dX:attributeBase o "copy" X.env (eval o X.env)=eval o X.env:=by rfl)(dW:(apos.endLine==bR.line)=true:=by rfl):PE X (.Call (.Attribute o "copy" apos) [] [] bR) (C7 td):=by
 intro pins s σ H Q I h
 refine wpAny_Call_method0_late dX dW (cq (ho pins s σ H _ I h) fun v s1 ⟨x,H1,I1,r1,a,aw,ex,e,q1⟩=>?_)
 subst ex
 obtain rfl:v=Value.ref a:=r1
 obtain⟨t1,t2,_⟩:=y_ I1 (.inl ⟨aw,e⟩)
 exact⟨"dict", "dict.copy",F.plainAttrs_dict,F.slot_dict_copy,F.type_dict_copy,t1,t2,Calls.callWith_builtin rfl (PySem.evalArgs_none (Ex pins s1 σ H1 (.ref a) [] _ [] Q I1 rfl .nil ⟨a,aw,rfl,rfl,e,q1⟩))⟩
end L2
end
section
namespace VS
open PySem L2
def Lj(t:FC):D->Option Bool
 | .int _=>some (decide (t=.int))
 | .bl _=>some (decide (t=.int)||decide (t=.bool))
 | .str _=>some (decide (t=.str))
 | .tup _=>some (decide (t=.tup))
 | .lst _ _=>some (decide (t=.lst))
 | .cy _ _ _ _=>some false
 | .bJ=>some false
 | .fn _=>none
def yn(t:FC)(ua:UB):UB:=fun env Q=>ua env fun r e=>∃d b,r.at e=some d/\Lj t d=some b/\Q (.a8 (.bl b)) e
theorem Li{Z:Set}{H:Hp}{d:D}{v:V}{F:Set}{t:FC}{b:Bool}(h:Own Z H d v F)(e:Lj t d=some b):WR H v t b:=by
 cases d with
 |int i=>cases a_.mp h;cases e;rfl
 |bl i=>cases c_.mp h;cases e;rfl
 |str i=>cases dN.mp h;cases e;rfl
 |bJ=>cases kG.mp h;cases e;rfl
 |fn a=>cases e
 |tup ds=>obtain⟨a,vs,rfl,hr,_⟩:=c7.mp h;cases e;exact .inr (.inl ⟨⟨_,.inl hr⟩,rfl⟩)
 |lst o ds=>obtain⟨a,vs,rfl,hr,_⟩:=fF h;cases e;exact .inl ⟨⟨_,hr⟩,rfl⟩
 |cy o t ks ds=>obtain⟨a,vs,u,rfl,hr,hd,_⟩:=gJ h;cases e;exact .inr (.inr ⟨EG (Z:=Z) hr hd,rfl⟩)
theorem GN{t:FC}{te:TE}{ua:UB}(h:aY te ua):aY (Gx (NG t) (k7 te (k7 (tC (.ty t.nm)) wF))) (yn t ua):=by
 intro σ env Z H φ Q R O q k
 refine h σ env Z H φ _ _ O q fun r aL v Z1 H1 bI G1 q1 O1 r1 jh=>?_
 obtain⟨d,b,e1,e2,q2⟩:=q1
 obtain⟨F,ho⟩:=eh O1 jh e1
 exact⟨v,b,rfl,Li ho e2,k (.a8 (.bl b)) aL (.bl b) Z1 H1 bI cE q2 O1 r1.drop (show Own Z1 H1 (.bl b) (.bl b) cE from c_.mpr rfl)⟩
section
variable {I:Nat->Bool}{X:Cx}{a b e o:Expr}{es:List Expr}{ua ub ue uk uv:UB}{wa:UA}{x:Str}{i n k:Nat}{p p2 pos pos' apos bR:Pos}
theorem CL{t:FC}{c:Str}(hg:Gl X "isinstance")(hm:X.mg "isinstance" = none)(hc:Gl X c)(OM:X.mg c=none)(hb:bootBuiltins c=some (.type t.nm))(h:VE X e ua)(hn:c≠"__name__":=by decide)(hd:(c==("__debug__":Str))=false:=by decide)(h1:aH e=true:=by rfl) :
  VE X (.Call (.Name "isinstance" p) [e,.Name c p2] [] pos) (yn t ua):=
 let ⟨_,q,s⟩:=h.ex;⟨_,vT Fu hg hm PyProof.Rows.boot_isinstance (IZ q (IZ (Hw (v:=.ty t.nm) hc OM hb rfl hn hd) lD rfl) h1) (by decide) (by decide) h1 rfl,GN s⟩
def vM:D->(D->Prop)->Prop
 | .cy _ false ks ds,P=>a9 ds=true/\P (.cy true false ks ds)
 |_,_=>False
theorem Bq{t:TE}{u:UB}(h:aY t u):aY (C7 t) (pb vM u):=u5 (r:=fun x H1 Q=>∃a aw,x=.ref a/\Rd H1 a (.dK aw)/\∀q,H1 q=none->Q (.ref q) (upd H1 q (.dK aw))) h fun Z H d v F P R ho hf kk=>by
 cases d<;>try exact hf.elim
 rename_i o t ks ds
 cases t<;>try exact hf.elim
 obtain⟨a,vs,u,rfl,hr,⟨kl,rfl,rn,zj,rfl⟩,hl⟩:=gJ ho
 exact⟨a,_,rfl,hr,fun q hn=>kk _ _ _ (fun a=>a=q) hf.2 ⟨cf.upd hn,dR.mpr ⟨q,vs,_,rfl,aB,⟨kl,rfl,rn,zj,rfl⟩,rfl,((hl.bare _ hf.1).grow (cf.upd hn)).mono fun _ z=>z.elim⟩,fun b z=>by subst z;exact⟨hn,by rw[aB];exact trivial⟩⟩⟩
theorem CM(h:VE X o ua)(dX:attributeBase o "copy" X.env (eval o X.env)=eval o X.env:=by rfl)(dW:(apos.endLine==bR.line)=true:=by rfl):VE X (.Call (.Attribute o "copy" apos) [] [] bR) (pb vM ua):=let ⟨_,q,s⟩:=h.ex;⟨_,Ed q dX dW,Bq s⟩
def AZ(ua:UB)(ul uh:UO):UB:=fun env Q=>ua env fun r e1=>ul e1 fun lo e2=>uh e2 fun hi e3=>∃ds,r.at e3=some (.tup ds)/\a9 ds=true/\¬(HT.eQ ds.length 0 lo=0/\HT.eQ ds.length ds.length hi=ds.length)/\Q (.a8 (.tup (eA ds lo hi))) e3
theorem GF{K:PySem.W.Frag}{t:TE}{u:UB}{tl th:TO}{ul uh:UO}(h:aY t u)(hl:vX tl ul)(hh:vX th uh):aY (Qt (NC K) t tl th) (AZ u ul uh):=by
 intro σ env Z H φ Q R O q k
 refine h σ env Z H φ _ _ O q fun x1 aL v1 Z1 H1 bI G1 q1 O1 r1 jh=>?_
 refine hl σ aL Z1 H1 bI _ _ O1 q1 fun lo fZ Z2 H2 gU q2 O2 r2=>?_
 refine hh σ fZ Z2 H2 gU _ _ O2 q2 fun hi sZ Z3 H3 yf q3 O3 r3=>?_
 obtain⟨z8,_⟩:=r1.seq r2
 have nV:=(jh.keep O1 r2 r1.d)
 have Af:=nV.keep O2 r3 fun a z y=>z8.d a z (.inl y)
 obtain⟨ds,ea,hb,hw,q3⟩:=q3
 obtain⟨F,ho⟩:=eh O3 Af ea
 obtain⟨a,vs,rfl,hr,B4⟩:=c7.mp ho
 refine⟨a,vs,rfl,.inl (.inl hr),by rw[B4.length];exact hw,fun p hn=>?_⟩
 have hc:ar Z3 H3 (eA ds lo hi) (ki vs lo hi) cE:=by
  unfold eA ki
  rw[B4.length]
  exact((B4.bare ds hb).drop _).take _
 have hs:=cf.upd (H:=H3) (o:=.tup (ki vs lo hi)) hn
 have n:iV Z3 H3 (upd H3 p (.tup (ki vs lo hi))) (.tup (eA ds lo hi)) (.ref p) cE:=⟨hs,c7.mpr ⟨p,_,rfl,aB,hc.grow hs⟩,fun _ z=>z.elim⟩
 exact k (.a8 _) sZ _ Z3 _ yf _ q3 (O3.grow hs) (n.res O3 (z8.drop.trans r3)) n.own
theorem m9{lo hi:Option Expr}{ul uh:UO}(h:VE X e ue)(hl:VO X lo ul)(hh:VO X hi uh):VE X (.Subscript e (.Slice lo hi none p2) pos) (AZ ue ul uh):=let ⟨_,q,s⟩:=h.ex;let ⟨_,q1,s1⟩:=hl.ex;let ⟨_,q2,s2⟩:=hh.ex;⟨_,qI J3 q q1 q2,GF s s1 s2⟩
def Nl(ua:UA):UI:=fun env Q=>ua env fun rs e=>∃i j:Int,rs=[.a8 (.int i),.a8 (.int j)]/\-(2 ^ 62)<=i/\i<2 ^ 62/\-(2 ^ 62)<=j/\j<2 ^ 62/\Q (ff i (j-i).toNat) e
end
end VS
end
section
namespace VS
open PySem L2
def mr(A:List (Str×Addr)):List (Key×V):=A.map fun p=>(.inr p.1,.ref p.2)
theorem p_(x:Str):∀A:List (Str×Addr),gc (mr A) (.inr x)=(A.lookup x).map V.ref
 | []=>rfl
 |(y,a)::A=>by
  show gc ((Sum.inr y,V.ref a)::mr A) (.inr x)=_
  by_cases e:y=x
  ·rw[iW (by rw[e]),List.lookup_cons,e];simp
  ·rw[iX (fun z=>e (Sum.inr.inj z)),List.lookup_cons,p_ x A]
   have:(x==y)=false:=by simpa using Ne.symm e
   rw[this]
theorem jK(x:Str):∀A:List (Str×Addr),(A.lookup x).isSome=(A.map (·.1)).contains x
 | []=>rfl
 |(y,a)::A=>by
  rw[List.lookup_cons,List.map_cons,List.contains_cons,<-jK x A]
  cases e:x==y<;>simp
def wA(neg:Bool)(ks:List Str)(ua:UB):UB:=fun env Q=>ua env fun r e=>∃x,r.at e=some (.str x)/\Q (.a8 (.bl (if neg then !ks.contains x else ks.contains x))) e
def wB(A:List (Str×Addr))(ua:UB):UB:=fun env Q=>ua env fun r e=>∃x a,r.at e=some (.str x)/\A.lookup x=some a/\Q (.a8 (.fn a)) e
theorem zY{X:Cx}{neg:Bool}{aO:Addr}{A:List (Str×Addr)}{t:TE}{u:UB}(hD:mZ X.prog X.w X.base aO (mr A))(h:aY t u):aY (JW X neg t (tC (.ref aO))) (wA neg (A.map (·.1)) u):=by
 intro σ env Z H φ Q R O q k
 refine h σ env Z H φ _ _ O q fun r aL v Z1 H1 bI G1 q1 O1 r1 jh=>?_
 obtain⟨x,e1,q2⟩:=q1
 obtain⟨F,ho⟩:=eh O1 jh e1
 have ho:v=.str x:=dN.mp ho
 subst ho
 refine⟨aO,_,.inr x,rfl,hD,rfl,?_⟩
 have e:(gc (mr A) (.inr x)).isSome=(A.map (·.1)).contains x:=by rw[p_,Option.isSome_map,jK]
 rw[e]
 exact k (.a8 (.bl _)) aL (.bl _) Z1 H1 bI cE q2 O1 r1.drop (show Own Z1 H1 (.bl _) (.bl _) cE from c_.mpr rfl)
theorem Dg{X:Cx}{aO:Addr}{A:List (Str×Addr)}{t:TE}{u:UB}(hD:mZ X.prog X.w X.base aO (mr A))(h:aY t u):aY (IG X (tC (.ref aO)) t) (wB A u):=by
 intro σ env Z H φ Q R O q k
 refine h σ env Z H φ _ _ O q fun r aL v Z1 H1 bI G1 q1 O1 r1 jh=>?_
 obtain⟨x,a,e1,e2,q2⟩:=q1
 obtain⟨F,ho⟩:=eh O1 jh e1
 have ho:v=.str x:=dN.mp ho
 subst ho
 refine⟨aO,_,.inr x,.ref a,rfl,hD,rfl,by rw[p_,e2];rfl,?_⟩
 exact k (.a8 (.fn a)) aL (.ref a) Z1 H1 bI cE q2 O1 r1.drop (show Own Z1 H1 (.fn a) (.ref a) cE from yU.mpr rfl)
def qa(i:Nat)(S:Addr->fH->Prop)(ms:List Bool)(ua:UA):UB:=fun env Q=>∃a m,env[i]? = some (some (.fn a))/\S a m/\aA ms m ua env Q
theorem Bv{X:Cx}{i k:Nat}{ms:List Bool}{S:Addr->fH->Prop}(hS:∀a m,S a m->oY X.prog X.w X.K X.mg X.base a k (gb ms m))(hr:eB k X.A){t:TA}{u:UA}(h:oz t u):aY (yw X i t) (qa i S ms u):=by
 intro σ env Z H φ Q R O ⟨a,m,e,hs,q⟩ kk
 obtain⟨v,hv,ho⟩:=O.own i _ e
 have ho:v=.ref a:=yU.mp ho
 subst ho
 refine⟨a,k,gb ms m,hv,hS a m hs,hr,?_⟩
 have:=wK (m:=m) (ms:=ms) h σ env Z H φ Q R O q kk
 simp only[tN,List.append_nil] at this
 exact this
section
variable {I:Nat->Bool}{X:Cx}{a b e o:Expr}{es:List Expr}{ua ub ue uk uv:UB}{wa:UA}{x:Str}{i n k:Nat}{p p2 pos pos' apos bR:Pos}{aO:Addr}{A:List (Str×Addr)}
theorem JM(hm:X.mg x=some (.ref aO))(hg:Gl X x)(hD:mZ X.prog X.w X.base aO (mr A))(h:VE X a ua)(hd:(x==("__debug__":Str))=false:=by decide):VC X .In a (.Name x p) (wA false (A.map (·.1)) ua):=let ⟨_,q,s⟩:=h.ex;⟨_,KD q (vm hm hg hd),zY hD s⟩
theorem AX(hm:X.mg x=some (.ref aO))(hg:Gl X x)(hD:mZ X.prog X.w X.base aO (mr A))(h:VE X a ua)(hd:(x==("__debug__":Str))=false:=by decide):VC X .NotIn a (.Name x p) (wA true (A.map (·.1)) ua):=let ⟨_,q,s⟩:=h.ex;⟨_,BL q (vm hm hg hd),zY hD s⟩
theorem Ge(hm:X.mg x=some (.ref aO))(hg:Gl X x)(hD:mZ X.prog X.w X.base aO (mr A))(h:VE X b ub)(hs:vY b)(hd:(x==("__debug__":Str))=false:=by decide):VE X (.Subscript (.Name x p) b pos) (wB A ub):=let ⟨_,q,s⟩:=h.ex;⟨_,Hq (vm hm hg hd) q hs,Dg hD s⟩
theorem CP{ms:List Bool}{S:Addr->fH->Prop}(hS:∀a m,S a m->oY X.prog X.w X.K X.mg X.base a k (gb ms m))(hr:eB k X.A)(hN:X.N[i]? = some x)(hv:ko X.env.scope x)(ha:VA X (e::es) wa)(i_:(x==("__debug__":Str))=false:=by decide)(fB:(x==("__classdict__":Str))=false:=by decide)(h1:aH e=true:=by rfl)(h2:es.all aH=true:=by rfl):VE X (.Call (.Name x p) (e::es) [] pos) (qa i S ms wa):=
 let ⟨_,q,s⟩:=ha.ex;⟨_,NN q hN hv i_ fB h1 h2,Bv hS hr s⟩
end
def gR{α:Type}:List DK->List α->DK->List DK×List α
 |k::ks,d::ds,k'=>if k=k' then((gR ks ds k').1,(gR ks ds k').2) else(k::(gR ks ds k').1,d::(gR ks ds k').2)
 |_,_,_=>([],[])
theorem ar.gR{Z:Set}{H:Hp}:∀{ks:List DK}{ds:List D}{vs:List V}{F:Set}{k:DK},ar Z H ds vs F->ar Z H (VS.gR ks ds k).2 (VS.gR ks vs k).2 F/\(VS.gR ks ds k).1=(VS.gR ks vs k).1
 | [],ds,vs,F,k,h=>by
  have e1:VS.gR [] ds k=([],[]):=by cases ds<;>rfl
  have e2:VS.gR [] vs k=([],[]):=by cases vs<;>rfl
  rw[e1,e2]
  exact⟨ba.mpr rfl,rfl⟩
 |k'::ks,[],vs,F,k,h=>by
  cases ba.mp h
  exact⟨ba.mpr rfl,rfl⟩
 |k'::ks,d::ds,vs,F,k,h=>by
  obtain⟨v,r,F1,F2,rfl,h1,h2,s1,s2,dj⟩:=aF.mp h
  obtain⟨i1,i2⟩:=ar.gR (ks:=ks) (k:=k) h2
  simp only[VS.gR]
  by_cases e:k'=k
  ·rw[if_pos e,if_pos e];exact⟨i1.mono s2,i2⟩
  ·rw[if_neg e,if_neg e];exact⟨aF.mpr ⟨v,_,F1,F2,rfl,h1,i1,s1,s2,dj⟩,by rw[i2]⟩
def Np(i:Nat)(uk:UB):UB:=fun env Q=>(∃o t ks ds,env[i]? = some (some (.cy o t ks ds)))/\uk env fun r e=>∃kd k ks ds d,r.at e=some kd/\DH kd=some k/\e[i]? = some (some (.cy true false ks ds))/\bQ ks ds (.s k)=some d/\bare d=true/\Q (.a8 d) (e.set i (some (.cy true false (gR ks ds (.s k)).1 (gR ks ds (.s k)).2)))
section
variable {X:Cx}{e:Expr}{uk:UB}{x:Str}{i:Nat}{p apos bR:Pos}
end
end VS
end
section
namespace VS
open PySem L2
mutual
def toPy:D->PyData
 | .bJ=>.none
 | .bl b=>.bool b
 | .int i=>.int i
 | .str x=>.str x
 | .fn _=>.none
 | .tup ds=>.tuple (fA ds)
 | .lst _ ds=>.list (fA ds)
 | .cy _ _ _ _=>.none
def fA:List D->List PyData
 | []=>[]
 |d::ds=>toPy d::fA ds
end
mutual
def eR:Nat->D->Bool
 |_,.bJ=>true
 |_,.bl _=>true
 |_,.int _=>true
 |_,.str x=>PyData.strOk x
 |_,.fn _=>false
 |0,.tup _=>false
 |n+1,.tup ds=>eW n ds
 |0,.lst _ _=>false
 |n+1,.lst _ ds=>eW n ds
 |_,.cy _ _ _ _=>false
def eW:Nat->List D->Bool
 |_,[]=>true
 |n,d::ds=>eR n d&&eW n ds
end
theorem qQ{n:Nat}:∀{ds:List D},eW n ds=true↔∀d∈ds,eR n d=true
 | []=>by simp[eW]
 |d::ds=>by simp[eW,qQ (ds:=ds)]
mutual
theorem eR.shape:∀(n:Nat) (d:D),eR n d=true->PyData.canLay0 (toPy d)=true/\PyData.depth (toPy d)<=n
 |_,.bJ,_=>by simp[toPy,PyData.canLay0,PyData.depth]
 |_,.bl _,_=>by simp[toPy,PyData.canLay0,PyData.depth]
 |_,.int _,_=>by simp[toPy,PyData.canLay0,PyData.depth]
 |_,.str x,h=>by simp[eR] at h;simp[toPy,PyData.canLay0,PyData.depth,h]
 |_,.fn _,h=>by simp[eR] at h
 |0,.tup _,h=>by simp[eR] at h
 |n+1,.tup ds,h=>by
  simp only[eR] at h
  obtain⟨h1,h2⟩:=eW.shape n ds h
  simp only[toPy,PyData.canLay0,PyData.depth]
  exact⟨h1,by omega⟩
 |0,.lst _ _,h=>by simp[eR] at h
 |n+1,.lst _ ds,h=>by
  simp only[eR] at h
  obtain⟨h1,h2⟩:=eW.shape n ds h
  simp only[toPy,PyData.canLay0,PyData.depth]
  exact⟨h1,by omega⟩
 |_,.cy _ _ _ _,h=>by simp[eR] at h
theorem eW.shape:∀(n:Nat) (ds:List D),eW n ds=true->PyData.canLayAll0 (fA ds)=true/\PyData.depthAll (fA ds)<=n
 |_,[],_=>by simp[fA,PyData.canLayAll0,PyData.depthAll]
 |n,d::ds,h=>by
  simp only[eW,Bool.and_eq_true] at h
  obtain⟨h1,h2⟩:=eR.shape n d h.1
  obtain⟨h3,h4⟩:=eW.shape n ds h.2
  simp only[fA,PyData.canLayAll0,PyData.depthAll,h1,h3]
  exact⟨rfl,by omega⟩
end
mutual
theorem eR.da{K:PySem.W.Frag}{Z:Set}{H:Hp}:∀(n:Nat) (d:D) {v:V}{F:Set},eR n d=true->Own Z H d v F->DA K H (toPy d) v
 |_,.bJ,_,_,_,h=>by simp only[toPy,DA];exact kG.mp h
 |_,.bl _,_,_,_,h=>by simp only[toPy,DA];exact c_.mp h
 |_,.int _,_,_,_,h=>by simp only[toPy,DA];exact a_.mp h
 |_,.str x,_,_,_,h=>by simp only[toPy,DA];exact dN.mp h
 |_,.fn _,_,_,h,_=>by simp[eR] at h
 |0,.tup _,_,_,h,_=>by simp[eR] at h
 |n+1,.tup ds,_,_,h,ho=>by
  simp only[eR] at h
  obtain⟨a,vs,rfl,hr,hl⟩:=c7.mp ho
  simp only[toPy,DA]
  exact⟨a,vs,rfl,.inl (.inl hr),eW.da n ds h hl⟩
 |0,.lst _ _,_,_,h,_=>by simp[eR] at h
 |n+1,.lst _ ds,_,_,h,ho=>by
  simp only[eR] at h
  obtain⟨a,vs,rfl,hr,hl⟩:=fF ho
  simp only[toPy,DA]
  exact⟨a,vs,rfl,.inl hr,eW.da n ds h hl⟩
 |_,.cy _ _ _ _,_,_,h,_=>by simp[eR] at h
theorem eW.da{K:PySem.W.Frag}{Z:Set}{H:Hp}:∀(n:Nat) (ds:List D) {vs:List V}{F:Set},eW n ds=true->ar Z H ds vs F->rY K H (fA ds) vs
 |_,[],_,_,_,h=>by simp only[fA,rY];exact ba.mp h
 |n,d::ds,_,_,h,ho=>by
  simp only[eW,Bool.and_eq_true] at h
  obtain⟨v,r,F1,F2,rfl,h1,h2,_⟩:=aF.mp ho
  simp only[fA,rY]
  exact⟨v,r,rfl,eR.da n d h.1 h1,eW.da n ds h.2 h2⟩
end
def eqT(a b:D):Bool:=PyData.eqv (toPy a) (toPy b)
def Fe(neg:Bool):D->D->(D->Prop)->Prop:=fun a b P=>eR 60 a=true/\eR 60 b=true/\P (.bl (if neg then !eqT a b else eqT a b))
theorem kD{d:D}(h:eR 60 d=true):SeqAt.shaped (toPy d)=true:=by
 obtain⟨h1,h2⟩:=eR.shape 60 d h
 simp only[SeqAt.shaped,h1,Bool.true_and,decide_eq_true_eq]
 omega
theorem L3{K:PySem.W.Frag}:iG (G6 K false) (Fe false):=fun Z H d1 d2 v1 v2 F1 F2 P R h1 h2 ⟨o1,o2,p⟩ k=>
 ⟨_,_,eR.da 60 d1 o1 h1,eR.da 60 d2 o2 h2,kD o1,kD o2,k _ _ _ _ p (iV.refl (c_.mpr rfl))⟩
theorem LW{K:PySem.W.Frag}:iG (G6 K true) (Fe true):=fun Z H d1 d2 v1 v2 F1 F2 P R h1 h2 ⟨o1,o2,p⟩ k=>
 ⟨_,_,eR.da 60 d1 o1 h1,eR.da 60 d2 o2 h2,kD o1,kD o2,k _ _ _ _ p (iV.refl (c_.mpr rfl))⟩
mutual
theorem eqv_refl:∀(n:Nat) (d:D),eR n d=true->PyData.eqv (toPy d) (toPy d)=true
 |_,.bJ,_=>by simp[toPy,PyData.eqv]
 |_,.bl _,_=>by simp[toPy,PyData.eqv]
 |_,.int _,_=>by simp[toPy,PyData.eqv]
 |_,.str x,h=>by simp[toPy,PyData.eqv]
 |_,.fn _,h=>by simp[eR] at h
 |0,.tup _,h=>by simp[eR] at h
 |n+1,.tup ds,h=>by simp only[eR] at h;simp only[toPy,PyData.eqv];exact oi n ds h
 |0,.lst _ _,h=>by simp[eR] at h
 |n+1,.lst _ ds,h=>by simp only[eR] at h;simp only[toPy,PyData.eqv];exact oi n ds h
 |_,.cy _ _ _ _,h=>by simp[eR] at h
theorem oi:∀(n:Nat) (ds:List D),eW n ds=true->PyData.eqvAll (fA ds) (fA ds)=true
 |_,[],_=>by simp[fA,PyData.eqvAll]
 |n,d::ds,h=>by
  simp only[eW,Bool.and_eq_true] at h
  simp only[fA,PyData.eqvAll,eqv_refl n d h.1,oi n ds h.2];rfl
end
mutual
theorem qc:∀d:D,toPy (aT d)=toPy d
 | .bJ=>by simp[aT]
 | .bl _=>by simp[aT]
 | .int _=>by simp[aT]
 | .str x=>by simp[aT]
 | .fn _=>by simp[aT]
 | .tup ds=>by simp only[aT,toPy,nr ds]
 | .lst _ ds=>by simp only[aT,toPy,nr ds]
 | .cy _ _ _ _=>by simp only[aT,toPy]
theorem nr:∀ds:List D,fA (d9 ds)=fA ds
 | []=>by simp[d9]
 |d::ds=>by simp only[d9,fA,qc d,nr ds]
end
theorem Aw{a b:D}(h:eR 60 a=true)(e:aT a=aT b):eqT a b=true:=by
 unfold eqT
 rw[<-qc b,<-e,qc]
 exact eqv_refl 60 a h
mutual
theorem HF:∀(n:Nat) (d:D),eR n (aT d)=eR n d
 |_,.bJ=>by simp[aT]
 |_,.bl _=>by simp[aT]
 |_,.int _=>by simp[aT]
 |_,.str x=>by simp[aT]
 |_,.fn _=>by simp[aT]
 |0,.tup ds=>by simp only[aT,eR]
 |n+1,.tup ds=>by simp only[aT,eR,qR n ds]
 |0,.lst _ ds=>by simp only[aT,eR]
 |n+1,.lst _ ds=>by simp only[aT,eR,qR n ds]
 |_,.cy _ _ _ _=>by simp only[aT,eR]
theorem qR:∀(n:Nat) (ds:List D),eW n (d9 ds)=eW n ds
 |_,[]=>by simp[d9]
 |n,d::ds=>by simp only[d9,eW,HF n d,qR n ds]
end
theorem t6{n:Nat}{x:Str}:eR n (.str x)=PyData.strOk x:=by cases n<;>simp[eR]
theorem Em{n:Nat}{x:Int}:eR n (.int x)=true:=by cases n<;>simp[eR]
theorem NU{n:Nat}{x:Bool}:eR n (.bl x)=true:=by cases n<;>simp[eR]
theorem xm{n:Nat}{ds:List D}:eR (n+1) (.tup ds)=eW n ds:=by simp[eR]
theorem NT{n:Nat}{o:Bool}{ds:List D}:eR (n+1) (.lst o ds)=eW n ds:=by simp[eR]
theorem j4{n:Nat}:eW n []=true:=by simp[eW]
theorem gZ{n:Nat}{d:D}{ds:List D}:eW n (d::ds)=(eR n d&&eW n ds):=by simp[eW]
theorem BP{n:Nat}{xs:List Int}:eW n (xs.map D.int)=true:=qQ.mpr fun d hd=>by
 obtain⟨x,_,rfl⟩:=List.mem_map.mp hd;exact Em
end VS
end
section
namespace L2
open PySem PySem.Spec PyProof.Rows
def WQ(B:Bool)(n:Nat)(t:SetTable):Prop:=t.led=B/\(n=0\/t.plain=false)
theorem Ad{t:SetTable}{n:Nat}:(t.orStandIn n).led=t.led/\(t.plain=false->(t.orStandIn n).plain=false):=by
 unfold SetTable.orStandIn
 split
 ·exact⟨rfl,fun z=>z⟩
 ·exact⟨rfl,fun _=>rfl⟩
theorem HN{t:SetTable}{es:Array (Int×Value)}{h:Int}{x:Value}:(layNew t es h x).2.1.led=t.led/\(t.plain=false->(layNew t es h x).2.1.plain=false):=by
 unfold layNew
 cases t.freeSlot h with
 |none=>exact⟨rfl,fun _=>rfl⟩
 |some q=>
  obtain⟨slot,d⟩:=q
  exact⟨(Ad (t:=(t.put slot).1)).1,fun z=>(Ad (t:=(t.put slot).1)).2 z⟩
theorem BD{t:SetTable}{es:Array (Int×Value)}{n:Nat}:(relayAll t es n).2.1.led=t.led/\(t.plain=false->(relayAll t es n).2.1.plain=false):=by
 unfold relayAll
 cases e:t.relaid (es.map (·.1)) n with
 |none=>exact⟨rfl,fun _=>rfl⟩
 |some q=>
  obtain⟨t',order⟩:=q
  simp only[SetTable.relaid,SetTable.laid,Option.bind_eq_bind,Option.bind_eq_some_iff,Option.pure_def,Option.some.injEq,Prod.mk.injEq] at e
  obtain⟨_,_,e,_⟩:=e
  dsimp only
  split
  ·subst e;exact⟨rfl,fun z=>z⟩
  ·exact⟨rfl,fun _=>rfl⟩
section
variable {prog:Program}{w:World}{A:Around}{E:Value->Shared->Prop}{s:Shared}
structure FU(Tb:Array (Int×Value)->SetTable->Prop)(w:World)(h:Heap)(a:Addr)(es:Array (Int×Value))(ep:Nat):Prop where
 ex:∃o t,h.get? a=some o/\o.ExactSet/\o.data=.set es ep t/\Tb es t/\es.size<scanBound/\t.fits es.size=true/\WQ (!w.params.followText "set-order") es.size t
theorem FU.at{Tb:Array (Int×Value)->SetTable->Prop}{w:World}{h h':Heap}{a:Addr}{es:Array (Int×Value)}{ep:Nat}(x:FU Tb w h a es ep)(k:∀o,h.get? a=some o->h'.get? a=some o):FU Tb w h' a es ep:=let ⟨o,t,ho,r⟩:=x.ex;⟨o,t,k o ho,r⟩
abbrev SG(prog:Program)(w:World):=FU (fun es _=>ElemsOf (strKind prog w) es.toList) w
theorem SG.at{h h':Heap}{a:Addr}{es:Array (Int×Value)}{ep:Nat}(x:SG prog w h a es ep)(k:∀o,h.get? a=some o->h'.get? a=some o):SG prog w h' a es ep:=let ⟨o,t,ho,r⟩:=x.ex;⟨o,t,k o ho,r⟩
theorem SG.store{h:Heap}{a:Addr}{o:Obj}{es:Array (Int×Value)}{ep:Nat}{t:SetTable}(ho:h.get? a=some o)(hex:o.ExactSet)(hd:o.data=.set es ep t){pN:Array (Int×Value)}{t':SetTable}(v9:ElemsOf (strKind prog w) pN.toList)(hb:pN.size<scanBound)(hf:t'.fits pN.size=true)(hm:WQ (!w.params.followText "set-order") pN.size t') :
  (h.update a (Obj.putSet pN t')).get? a=some {o with data:=.set pN (ep+1) t'}/\SG prog w (h.update a (Obj.putSet pN t')) a pN (ep+1):=by
 obtain⟨h1,_⟩:=SetOf_store (knd:=strKind prog w) (S':=fun k=>pN.toList.any fun e=>(strKind prog w).is k e.2) ho hex hd v9 (fun k=>List.any_eq_true) hb hf
 exact⟨h1,_,t',h1,hex,rfl,v9,hb,hf,hm⟩
theorem J4{a:Addr}{es:Array (Int×Value)}{ep:Nat}{k:Str}{tk:Tok}{Q:Bool->Shared->Prop}(hg:SG prog w s.heap a es ep)(ER:es.size+1<scanBound)
  (h:∀b h' pN Jp,Heap.SameBut a s.heap h'->SG prog w h' a pN Jp->(((∃e∈es.toList,(strKind prog w).is k e.2=true)/\pN=es)\/((∀e∈es.toList,(strKind prog w).is k e.2=false)/\pN.toList.Perm (es.toList++[((strKind prog w).hash k,.str k tk)])))->Q b {s with heap:=h'}) :
  wpAny (model prog w) A (setAddHashed a (.str k tk) ((strKind prog w).hash k)) Q E s:=by
 obtain⟨o,t,ho,hex,hd,v9,hb,hf,hm⟩:=hg.ex
 have B5:=strKind_is prog w k tk
 have S1:(Value.str k tk).scannable=true:=rfl
 unfold setAddHashed setAddHashedIn
 refine wpAny_holding (wpAny_bind (wpAny_setState_of ho hd hf ?_))
 dsimp only
 rw[byScan_of S1 hb v9]
 simp only[↓reduceIte]
 unfold setAddByScan
 refine wpAny_bind (wpAny_bind (wpAny_rule (wpAny_bind (wpAny_setScan_of B5 ho hd hf v9 ?_))))
 have e0:s={s with heap:=s.heap}:=by cases s;rfl
 cases hr:List.findIdx? (fun e=>(strKind prog w).is k e.2) es.toList with
 |some j=>
  dsimp only
  obtain⟨hj,QU,_⟩:=List.findIdx?_eq_some_iff_getElem.mp hr
  refine wpAny_pure (wpAny_pure ?_)
  rw[e0]
  exact h _ s.heap es ep (Heap.SameBut.refl a s.heap) hg (.inl ⟨⟨_,List.getElem_mem hj,QU⟩,rfl⟩)
 |none=>
  dsimp only
  have yd:∀e∈es.toList,(strKind prog w).is k e.2=false:=fun e he=>by
   have:=List.findIdx?_eq_none_iff.mp hr e he
   simpa using this
  have lb:=layNew_perm t es ((strKind prog w).hash k) (.str k tk)
  have An:=layNew_fits t es ((strKind prog w).hash k) (.str k tk)
  have zk:=HN (t:=t) (es:=es) (h:=(strKind prog w).hash k) (x:=.str k tk)
  generalize hL:layNew t es ((strKind prog w).hash k) (.str k tk)=L at lb An zk ⊢
  obtain⟨r8,t1,CB,Zo⟩:=L
  dsimp only at lb An zk ⊢
  rw[Array.toList_push] at lb
  have OK:ElemsOf (strKind prog w) r8.toList:=(v9.push B5 S1).perm lb
  have Ly:r8.size=es.size+1:=by rw[<-Array.length_toList,lb.length_eq,List.length_append,Array.length_toList];rfl
  have E4:r8.size<scanBound:=by rw[Ly];exact ER
  have VP:∀(b:Bool) {cG:Shared}{Q':Unit->Shared->Prop},Q' () cG->wpAny (model prog w) A (match b with|true=>rule "set.scan.the-table-gave-way"|false=>pure ()) Q' E cG:=
   fun b cG Q' hq=>by cases b<;>first|exact wpAny_pure hq|exact wpAny_rule hq
  refine wpAny_bind (VP _ ?_)
  have tail:∀t2:SetTable,t2.fits r8.size=true->t2.led=(!w.params.followText "set-order")->t2.plain=false->wpAny (model prog w) A (do
    storeSet a r8 t2
    if (!CB&&t2.tooFull)=true then do
      (match (relayAll t2 r8 (SetTable.grown r8.size)).2.2 with|true=>rule "set.scan.the-table-gave-way"|false=>pure ())
      storeSet a (relayAll t2 r8 (SetTable.grown r8.size)).1 (relayAll t2 r8 (SetTable.grown r8.size)).2.1
      pure (some true)
     else pure (some true)) (fun r s'=>∃b,r=some b/\Q b s') E s:=by
   intro t2 YM rm ET
   refine wpAny_bind (wpAny_storeSet_of ho hd ?_ (fits_of_scanBound E4))
   obtain⟨Vx,Za⟩:=SG.store (prog:=prog) (w:=w) ho hex hd OK E4 YM ⟨rm,.inr ET⟩
   have Oo:=Heap.SameBut.update s.heap a (Obj.putSet r8 t2)
   split
   ·have hp:=relayAll_perm t2 r8 (SetTable.grown r8.size)
    have Tu:=relayAll_fits t2 r8 (SetTable.grown r8.size)
    have Q7:=BD (t:=t2) (es:=r8) (n:=SetTable.grown r8.size)
    generalize hRl:relayAll t2 r8 (SetTable.grown r8.size)=Rl at hp Tu Q7 ⊢
    obtain⟨T7,t3,Wc⟩:=Rl
    dsimp only at hp Tu Q7 ⊢
    have hsz:T7.size=r8.size:=by rw[<-Array.length_toList,hp.length_eq,Array.length_toList]
    have wb:T7.size<scanBound:=by rw[hsz];exact E4
    refine wpAny_bind (VP _ ?_)
    refine wpAny_bind (wpAny_storeSet_of Vx rfl ?_ (fits_of_scanBound wb))
    obtain⟨_,TR⟩:=SG.store (prog:=prog) (w:=w) Vx hex rfl (OK.perm hp) wb Tu ⟨Q7.1.trans rm,.inr (Q7.2 ET)⟩
    exact wpAny_pure ⟨true,rfl,h true _ T7 _ (Oo.trans (Heap.SameBut.update _ a _)) TR (.inr ⟨yd,hp.trans lb⟩)⟩
   ·exact wpAny_pure ⟨true,rfl,h true _ r8 _ Oo Za (.inr ⟨yd,lb⟩)⟩
  split
  ·refine wpAny_bind ?_
   rw[hashByValue_scannable 8 S1]
   refine wpAny_pure ?_
   refine wpAny_mono (tail {t1 with plain:=false} (SetTable.fits_plain_off An) (zk.1.trans hm.1) rfl) (fun r s' ⟨b,e,q⟩=>?_) fun e s' q=>q
   subst e
   exact wpAny_pure q
  ·rename_i hp
   refine wpAny_bind (wpAny_pure ?_)
   simp only[↓reduceIte]
   refine wpAny_mono (tail t1 An (zk.1.trans hm.1) (by simpa using hp)) (fun r s' ⟨b,e,q⟩=>?_) fun e s' q=>q
   subst e
   exact wpAny_pure q
end
end L2
end
section
namespace L2
open PySem PySem.Spec PyProof.Rows
def Kz(es:Array (Int×Value))(xs:List Str):Prop:=(es.toList.map fun e=>strOf e.2).Nodup/\∀x,x∈(es.toList.map fun e=>strOf e.2)↔x∈xs
section
variable {prog:Program}{w:World}{A:Around}{E:Value->Shared->Prop}{s:Shared}
theorem vF{k:Str}{v:Value}(h:(strKind prog w).is k v=true):∃t,v=.str k t:=Value.isStrOf_shape h
theorem xN{es:List (Int×Value)}(h:ElemsOf (strKind prog w) es){e:Int×Value}(he:e∈es):∃t,e.2=.str (strOf e.2) t:=by
 obtain⟨⟨k,hk,_⟩,_⟩:=h e he
 obtain⟨t,ht⟩:=vF hk
 exact⟨t,by rw[ht];rfl⟩
theorem SG.elems{h:Heap}{a:Addr}{es:Array (Int×Value)}{ep:Nat}(x:SG prog w h a es ep):ElemsOf (strKind prog w) es.toList:=let ⟨_,_,_,_,_,r,_⟩:=x.ex;r
theorem Kz.step{es pN:Array (Int×Value)}{xs:List Str}{k:Str}{tk:Tok}(v9:ElemsOf (strKind prog w) es.toList)(hk:Kz es xs)(h:((∃e∈es.toList,(strKind prog w).is k e.2=true)/\pN=es)\/((∀e∈es.toList,(strKind prog w).is k e.2=false)/\pN.toList.Perm (es.toList++[((strKind prog w).hash k,.str k tk)]))):Kz pN (xs++[k]):=by
 rcases h with⟨⟨e,he,hp⟩,rfl⟩|⟨yd,hp⟩
 ·refine⟨hk.1,fun x=>?_⟩
  rw[hk.2 x,List.mem_append,List.mem_singleton]
  refine⟨.inl,fun z=>z.elim id ?_⟩
  rintro rfl
  obtain⟨t,ht⟩:=vF hp
  exact(hk.2 x).mp (List.mem_map.mpr ⟨e,he,by rw[ht];rfl⟩)
 ·have hm:=hp.map (fun e=>strOf e.2)
  rw[List.map_append] at hm
  refine⟨hm.nodup_iff.mpr (List.nodup_append.mpr ⟨hk.1,by simp,?_⟩),fun x=>?_⟩
  ·intro x hx y hy e
   obtain⟨z,hz,rfl⟩:=List.mem_map.mp hx
   have hy:y=k:=by simpa[strOf] using hy
   obtain⟨t,ht⟩:=xN v9 hz
   have:=yd z hz
   rw[ht,e,hy] at this
   rw[strKind_is] at this
   cases this
  ·rw[hm.mem_iff,List.mem_append,hk.2 x,List.mem_append]
   simp[strOf]
theorem gL{α:Type} [DecidableEq α]:∀(a b:List α),a.Nodup->(∀x∈a,x∈b)->a.length<=b.length
 | [],_,_,_=>by simp
 |x::a,b,h,s=>by
  have h':=List.nodup_cons.mp h
  have hx:=s x (.head _)
  have:=gL a (b.erase x) h'.2 fun y hy=>(List.mem_erase_of_ne (fun e:y=x=>h'.1 (e ▸ hy))).mpr (s y (.tail _ hy))
  rw[List.length_erase_of_mem hx] at this
  have:0<b.length:=List.length_pos_of_mem hx
  simp only[List.length_cons];omega
theorem HP{es:Array (Int×Value)}{xs:List Str}(h:Kz es xs):es.size<=xs.length:=by
 have:=gL _ xs h.1 fun x hx=>(h.2 x).mp hx
 simpa using this
theorem Dx{R:Result->Shared->Prop}{I:Addr}{fp wr:List Addr}{G:Array GenState->Array GenState->Prop}{n:Nat}{P:Nat->Value->Prop}{St:Nat->Shared->Prop}(W:WalksS prog w A.in1 I fp wr G n P St)(S:Addr)(E6:S∉fp)(xs:List Str)(Ib:xs.length=n)
  (Lv:∀i v,P i v->∃t,∃h:i<xs.length,v=.str xs[i] t) (hb:n+1<scanBound) :
  ∀(k i:Nat) (s:Shared),n-i=k->i<=n->St i s->(∃es ep,SG prog w s.heap S es ep/\Kz es (xs.take i)) ->
   (∀s',Moved (S::wr) G s s'->(∃es ep,SG prog w s'.heap S es ep/\Kz es xs)->R (.ok (.ret .none)) s') ->
   codeAny (model prog w) A (.builtin "set.update.loop" ⟨[.ref S,.ref I],[]⟩) R s:=by
 have V8:S∉wr:=fun h=>E6 (W.sub _ h)
 have Ic:∀b∈wr,b∈S::wr:=fun b hb=>List.mem_cons_of_mem _ hb
 intro k
 induction k with
 |zero=>
  intro i s hk hi zi ⟨es,ep,hS,hz⟩ hR
  have xG:i=n:=by omega
  subst xG
  refine codeAny_builtin F.entry_set_update_loop ?_
  rw[Around.under_plainId F.plain_set_update_loop _]
  show wpAny _ A.in1 (pyNext (.ref I) >>= _) _ _ s
  refine wpAny_bind (W.done s _ _ zi fun s' hm=>?_)
  show wpAny _ A.in1 (ret Value.none) _ _ s'
  refine wpAny_pure (hR s' (hm.mono Ic) ⟨es,ep,hS.at fun o ho=>hm.heap S _ V8 ho,?_⟩)
  rwa [List.take_of_length_le (by omega)] at hz
 |succ k ih=>
  intro i s hk hi zi ⟨es,ep,hS,hz⟩ hR
  have iM:i<n:=by omega
  refine codeAny_builtin F.entry_set_update_loop ?_
  rw[Around.under_plainId F.plain_set_update_loop _]
  show wpAny _ A.in1 (pyNext (.ref I) >>= _) _ _ s
  refine wpAny_bind (W.item i s _ _ iM zi fun v s' hP SW hm=>?_)
  obtain⟨t,YB,rfl⟩:=Lv i v hP
  have B8:SG prog w s'.heap S es ep:=hS.at fun o ho=>hm.heap S _ V8 ho
  show wpAny _ A.in1 (holding [Value.str xs[i] t] (setAdd S (.str xs[i] t)) >>= _) _ _ s'
  refine wpAny_bind (wpAny_holding ?_)
  unfold setAdd
  refine wpAny_holding ?_
  refine wpAny_bind ((strKind prog w).pyHash (k:=xs[i]) (strKind_is _ _ _ _) ?_)
  have ER:es.size+1<scanBound:=by
   have:=HP hz
   rw[List.length_take] at this
   omega
  refine J4 (s:={s' with toks:=s'.toks+1}) B8 ER fun b h' pN Jp Lz TR hd=>?_
  have SK:Kz pN (xs.take (i+1)):=by
   rw[List.take_succ_eq_append_getElem YB]
   exact hz.step hS.elems hd
  refine wpAny_pure ⟨plainId_quiet F.plain_set_update_loop _,ih (i+1) _ (by omega) iM (W.frame _ s' _ _ SW (Nat.le_succ _) fun b hb o e=>?_) ⟨pN,Jp,TR,SK⟩ fun GZ Tj TU=>?_⟩
  ·rw[Lz.2 b (fun h:b=S=>E6 (by rw[<-h];exact hb))];exact e
  ·refine hR GZ (Moved.trans W.gtrans ((hm.mono Ic).then_heap (Nat.le_succ _) fun b o hb e=>?_) Tj) TU
   rw[Lz.2 b (fun h:b=S=>hb (by rw[h];exact List.mem_cons_self))];exact e
theorem GU(a:Value){Q₁:Value->Shared->Prop}
  (h:Q₁ (.ref s.heap.objs.size) {s with heap:=s.heap.push {cls:=.type "set",dict:=none,data:=.set #[] 0 (.fresh 0 0 (!w.params.followText "set-order"))}}) :
  codeAny (model prog w) A (.call (.builtin "set.__new__") ⟨[.type "set",a],[]⟩) (wants Q₁ E) s:=by
 refine codeAny_of_tree ?_
 show wpAny _ A.in1 (do checkBuiltinCall "set.__new__" ⟨[.type "set",a],[]⟩;again (.builtin "set.__new__" ⟨[.type "set",a],[]⟩)) _ _ s
 refine wpAny_bind (wpAny_of_eq (PySem.F.newCall_set_1 a) (wpAny_pure ⟨plainId_quiet PySem.F.plain_set_new _,codeAny_builtin PySem.F.entry_set_new ?_⟩))
 rw[Around.under_plainId PySem.F.plain_set_new _]
 unfold Builtin.«set.__new__» Builtin.Frozenset.newClass
 have Ic:=sub_set_self
 obtain⟨hp,g,d,tk,os⟩:=s
 dsimp only
 wp_walk
 refine wpAny_askSetting (wpAny_pure ?_)
 dsimp only
 simp only[newObj]
 refine wpAny_bind (wpAny_alloc (wpAny_pure ?_))
 exact wpAny_pure h
end
end L2
end
section
namespace L2
open PySem PySem.Spec PyProof.Rows
theorem zU:∀{vs:List Value}{xs:List Str},StrsAre vs xs->∀(i:Nat) (h:i<xs.length),∃t,vs[i]? = some (.str xs[i] t)
 |_,_,.nil,i,h=>by simp at h
 |_,_,.cons y t r,0,h=>⟨t,by simp⟩
 |_,_,.cons y t r,i+1,h=>by
  obtain⟨t',e⟩:=zU r i (by simpa using h)
  exact⟨t',by simpa using e⟩
section
variable {prog:Program}{w:World}{A:Around}{E:Value->Shared->Prop}{s:Shared}
set_option maxHeartbeats 3200000 in
theorem s9{l:Addr}{items:Array Value}{xs:List Str}{Q:Value->Shared->Prop}
  (hh:A.handled=none) (hl:s.heap.IsList l items) (hi:StrsAre items.toList xs) (hb:items.size+1<scanBound)
  (h:∀(h':Heap) (tk:Nat),(∃es ep,SG prog w h' s.heap.objs.size es ep/\Kz es xs) ->
   (∀b o,b<s.heap.objs.size->s.heap.get? b=some o->h'.get? b=some o)->Q (.ref s.heap.objs.size) {s with heap:=h',toks:=tk}) :
  wpAny (model prog w) A (call (.type "set") [.ref l]) Q E s:=by
 obtain⟨c,tl,Ys⟩:=PySem.F.called_set.mro
 have Vz:=PySem.F.called_set.made
 have Ic:=PySem.F.called_set.sub
 refine wpAny_call (codeAny_of_tree ?_)
 show wpAny _ _ (callAny (.type "set") _) _ _ _
 refine wpAny_pure ⟨Code.quiet_builtin _ (by decide +kernel),codeAny_builtin PySem.F.entry_type_call ?_⟩
 rw[Around.under_plain (weight_type_call_type "set" [.ref l] []) rfl]
 have h1:=PySem.F.called_set.notType
 have h2:=PySem.F.called_set.canCreate
 have hct:=PySem.F.typeCall_set_1 (.ref l)
 repeat (any_goals (first|assumption|wp_step))
 generalize zk:(!w.params.followText "set-order")=led
 refine codeAny_mono (GU (.ref l) (E:=E) (Q₁:=fun obj cG=>obj=.ref s.heap.objs.size/\cG={s with heap:=s.heap.push {cls:=.type "set",dict:=none,data:=.set #[] 0 (.fresh 0 0 led)}}) ⟨rfl,by rw[zk]⟩) fun r cG hr=>?_
 cases r with
 |error e=>exact hr
 |ok fl=>
  cases fl with
  |ret obj=>
   obtain⟨rfl,rfl⟩:=hr
   have hS:(s.heap.push {cls:=.type "set",dict:=none,data:=.set #[] 0 (.fresh 0 0 led)}).get? s.heap.objs.size=some {cls:=.type "set",dict:=none,data:=.set #[] 0 (.fresh 0 0 led)}:=Heap.get?_push_size _ rfl
   have hT:Shared.TypeIs {s with heap:=s.heap.push {cls:=.type "set",dict:=none,data:=.set #[] 0 (.fresh 0 0 led)}} (.ref s.heap.objs.size) "set":=⟨_,hS,rfl⟩
   have hli:=PySem.F.called_set.init.lookup
   have Ra:=PySem.F.called_set.init.bind (.ref s.heap.objs.size)
   repeat (any_goals (first|assumption|wp_step))
   refine codeAny_mono (codeAny_call_builtin (R:=wants (fun r nv=>r=.none/\∃h' tk,nv={s with heap:=h',toks:=tk} /\
     (∃es ep,SG prog w h' s.heap.objs.size es ep/\Kz es xs) /\
     (∀b o,b<s.heap.objs.size->s.heap.get? b=some o->h'.get? b=some o)) E) PySem.F.called_set.init.plain PySem.F.entry_set_init (check_set_init_1 hT ?_)) fun R5 nv EO=>?_
   ·obtain⟨ol,QZ,vI,nl,FJ⟩:=hl
    obtain⟨XB,NW,U_,KO⟩:=ol
    simp only at vI FJ
    subst vI;subst FJ
    have Tc:(s.heap.push {cls:=.type "set",dict:=none,data:=.set #[] 0 (.fresh 0 0 led)}).get? l=some {cls:=.type "list",dict:=NW,data:=.seq items nl,slots:=KO}:=Heap.get?_push_of_some _ QZ
    have X':=PySem.F.sub_list_set
    have Yb:=PySem.F.sub_list_frozenset
    have my:(Value.type "list" == Value.type "dict")=false:=by decide
    have rn:(s.heap.push {cls:=.type "set",dict:=none,data:=.set #[] 0 (.fresh 0 0 led)}).IsList l items:=⟨_,Tc,rfl,nl,rfl⟩
    unfold Builtin.«set.__init__» noKeywords Builtin.Frozenset.updateFrom
    generalize Ze:pyIter=PI
    wp_walk
    subst Ze
    refine wpAny_pyIter_list rn ?_
    refine wpAny_bind (wpAny_runValue ?_)
    have VF:l<s.heap.objs.size:=Heap.lt_size QZ
    have YE:A.in1.in1.in1.handled=none:=by simp[hh]
    have Th:l≠(s.heap.push {cls:=.type "set",dict:=none,data:=.set #[] 0 (.fresh 0 0 led)}).objs.size:=by
     rw[Heap.size_push];exact Nat.ne_of_lt (Nat.lt_succ_of_lt VF)
    have E6:s.heap.objs.size∉[(s.heap.push {cls:=.type "set",dict:=none,data:=.set #[] 0 (.fresh 0 0 led)}).objs.size,l]:=by
     rw[Heap.size_push];simp only[List.mem_cons,List.mem_singleton,List.not_mem_nil,or_false,not_or]
     exact⟨Nat.ne_of_lt (Nat.lt_succ_self _),Nat.ne_of_gt VF⟩
    have hlen:xs.length=items.size:=by
     have:=hi.length
     simpa using this.symm
    have Lv:∀(i:Nat) (v:Value),items[i]? = some v->∃t,∃h:i<xs.length,v=.str xs[i] t:=fun i v hv=>by
     obtain⟨iM,e⟩:=Array.getElem?_eq_some_iff.mp hv
     obtain⟨t,ht⟩:=zU hi i (by rw[hlen];exact iM)
     refine⟨t,by rw[hlen];exact iM,?_⟩
     rw[Array.getElem?_toList,hv] at ht
     exact Option.some.inj ht
    refine Dx ((Walks.list YE _ l Th items).toS) s.heap.objs.size E6 xs hlen Lv hb (items.size-0) 0 _ (by omega) (Nat.zero_le _)
     ⟨⟨_,Heap.get?_push_size _ rfl,rfl,rfl⟩,(rn.push _)⟩ ?Zb ?hR
    case Zb=>
     refine⟨#[],0,⟨_,_,Heap.get?_push_of_some _ hS,⟨rfl,rfl,rfl⟩,rfl,fun e he=>by simp at he,by decide,rfl,?_⟩,by simp[Kz]⟩
     exact⟨zk.symm,.inl rfl⟩
    case hR=>
     intro s' hm B8
     obtain⟨h',g',d',W_,Si⟩:=s'
     have eg:g'=s.gens:=hm.gens
     have ed:d'=s.drawn:=hm.drawn
     have eo:Si=s.os:=hm.os
     subst eg;subst ed;subst eo
     show wpAny _ _ _ _ _ _
     refine wpAny_pure ?_
     show wpAny _ _ (ret Value.none) _ _ _
     refine wpAny_pure ⟨rfl,h',W_,rfl,B8,fun b o hb e=>?_⟩
     have E4:b≠s.heap.objs.size:=Nat.ne_of_lt hb
     have wb:b≠(s.heap.push {cls:=.type "set",dict:=none,data:=.set #[] 0 (.fresh 0 0 led)}).objs.size:=by
      rw[Heap.size_push];exact Nat.ne_of_lt (Nat.lt_succ_of_lt hb)
     exact hm.heap b o (by simp only[List.mem_cons,List.mem_singleton,List.not_mem_nil,or_false,not_or];exact⟨E4,wb⟩) (Heap.get?_push_of_some _ (Heap.get?_push_of_some _ e))
   ·cases R5 with
    |error e=>exact EO
    |ok OV=>
     cases OV with
     |ret r=>
      obtain⟨rfl,h',tk,rfl,B8,LJ⟩:=EO
      repeat (any_goals (first|assumption|wp_step))
      exact h _ _ B8 LJ
     |_=>exact EO.elim
  |_=>exact hr.elim
end
end L2
end
section
namespace L2
open PySem PySem.Spec PyProof.Rows
namespace SF
theorem next:Slot "set_iterator" "__next__" "set_iterator.__next__":=
 .of (owner := "set_iterator") (n := "__next__") (by rw[typeLookup_type,builtinLookup_eq_fast];kernel_rfl) (by decide +kernel) (by decide +kernel) (by decide +kernel) (by first|exact .inl (by decide +kernel)|exact .inr (by decide +kernel)) (by rw[isSubtype_type];kernel_rfl)
theorem entry:entryFor table "set_iterator.__next__" = some Builtin.«set_iterator.__next__»:=entryFor_of_tree (by kernel_rfl)
theorem args(a:Value):argsOk "set_iterator.__next__" ⟨[a],[]⟩:=by unfold argsOk;kernel_rfl
theorem iter:Slot "set_iterator" "__iter__" "set_iterator.__iter__":=
 .of (owner := "set_iterator") (n := "__iter__") (by rw[typeLookup_type,builtinLookup_eq_fast];kernel_rfl) (by decide +kernel) (by decide +kernel) (by decide +kernel) (by first|exact .inl (by decide +kernel)|exact .inr (by decide +kernel)) (by rw[isSubtype_type];kernel_rfl)
theorem L8:entryFor table "set_iterator.__iter__" = some Builtin.«dict_keyiterator.__iter__»:=entryFor_alias (id' := "dict_keyiterator.__iter__") (by kernel_rfl) rfl (by decide +kernel) (by kernel_rfl)
theorem Pf(a:Value):argsOk "set_iterator.__iter__" ⟨[a],[]⟩:=by unfold argsOk;kernel_rfl
theorem L7:entryFor table "set.__iter__" = some Builtin.«frozenset.__iter__»:=entryFor_alias (id' := "frozenset.__iter__") (by kernel_rfl) rfl (by decide +kernel) (by kernel_rfl)
end SF
theorem jz{α:Type}:∀{l:List α}{i:Nat} (h:i<l.length),(l[i]::l.eraseIdx i).Perm l
 | [],i,h=>by simp at h
 |x::l,0,h=>by simp
 |x::l,i+1,h=>by
  simp only[List.getElem_cons_succ,List.eraseIdx_cons_succ]
  exact(List.Perm.swap _ _ _).trans ((jz (by simpa using h)).cons x)
section
variable {prog:Program}{w:World}{A:Around}{E:Value->Shared->Prop}{s:Shared}
theorem zB{M:Model}{src:Source}{n:Nat}{Q:Nat->Shared->Prop}(hn:n≠0)(h:∀i,i<n->∀d,Q i {s with drawn:=d}):wpAny M A (choose src n) Q E s:=fun Γ p ZW=>by
 unfold choose
 rw[Sem.wp_choose]
 exact⟨hn,h _ (Nat.mod_lt _ (Nat.pos_of_ne_zero hn)) _⟩
theorem xZ{M:Model}{α:Type}:∀(n:Nat) (xs:List α) (s:Shared) {Q:List α->Shared->Prop},n=xs.length->(∀ys d,ys.Perm xs->Q ys {s with drawn:=d})->wpAny M A (drawOrder n xs) Q E s
 |0,xs,s,Q,e,h=>by
  have:xs=[]:=List.eq_nil_of_length_eq_zero e.symm
  subst this
  exact wpAny_pure (h [] s.drawn (List.Perm.refl _))
 |n+1,[],s,Q,e,h=>by simp at e
 |n+1,x::xs,s,Q,e,h=>by
  unfold drawOrder
  refine wpAny_bind (zB (by simp) fun i hi d=>?_)
  rw[List.getElem?_eq_getElem hi]
  dsimp only
  refine wpAny_bind (xZ n ((x::xs).eraseIdx i) _ (by rw[List.length_eraseIdx_of_lt hi];simp at e ⊢;omega) fun ys d' hp=>?_)
  exact wpAny_pure (h _ d' ((hp.cons _).trans (jz hi)))
theorem tX{α:Type}(next:Nat->Nat)(xs:Array α):(pickOrder next xs).toList.Perm xs.toList:=by
 have go:∀(fuel k:Nat) (left:List α) (out:Array α),left.length=fuel->(pickOrder.go next fuel k left out).toList.Perm (out.toList++left):=by
  intro fuel
  induction fuel with
  |zero=>intro k left out h;rw[List.eq_nil_of_length_eq_zero h];simp[pickOrder.go]
  |succ fuel ih=>
   intro k left out h
   have iM:next k % left.length<left.length:=Nat.mod_lt _ (by omega)
   unfold pickOrder.go
   rw[List.getElem?_eq_getElem iM]
   dsimp only
   refine(ih (k+1) _ _ (by rw[List.length_eraseIdx_of_lt iM];omega)).trans ?_
   rw[Array.toList_push,List.append_assoc]
   exact List.Perm.append_left _ (jz iM)
 have:=go xs.size 0 xs.toList #[] (by simp)
 simpa[pickOrder] using this
end
end L2
end
section
namespace L2
open PySem PySem.Spec PyProof.Rows
section
variable {Tb:Array (Int×Value)->SetTable->Prop}{prog:Program}{w:World}{A:Around}{E:Value->Shared->Prop}{s:Shared}
def Py(w:World)(I a:Addr)(fp:List Addr)(es:Array (Int×Value))(ep:Nat)(vs:List Value)(i:Nat)(h:Heap)(o:Obj):Prop:=
 (∃(tup:Addr) (ot:Obj) (n0:Nat) (order:List Nat),tup∈fp/\tup≠I/\o.data=.fields #[.ref tup,.int i 0,.ref a,.int es.size 0,.int ep 0]/\h.get? tup=some ot/\ot.data=.seq (order.map fun(j:Nat)=>rawInt j).toArray n0/\vs.length=order.length/\∀(j p:Nat),order[j]? = some p->∃e,es[p]? = some e/\vs[j]? = some e.2)
 \/ (∃slot:Nat,w.params.followText "set-order" = true/\o.data=.fields #[.int slot 0,.int i 0,.ref a,.int es.size 0,.int ep 0]/\vs=(pickOrder (w.params.setOrder a ep) es).toList.map (·.2))
 \/ (∃(slot:Nat) (oa:Obj) (t:SetTable),w.params.followText "set-order" = false/\es.size<=1/\o.data=.fields #[.int slot 0,.int i 0,.ref a,.int es.size 0,.int ep 0]/\h.get? a=some oa/\oa.data=.set es ep t/\(i=0->slot=0)/\(i=1->∃j,t.place = #[j]/\slot=j+1)/\vs=es.toList.map (·.2))
structure ye(Tb:Array (Int×Value)->SetTable->Prop)(w:World)(I a:Addr)(fp:List Addr)(es:Array (Int×Value))(ep:Nat)(vs:List Value)(i:Nat)(h:Heap):Prop where
 sg:FU Tb w h a es ep
 len:vs.length=es.size
 it:∃o,h.get? I=some o/\o.cls=.type "set_iterator"/\Py w I a fp es ep vs i h o
 hI:I∈fp
 ha:a∈fp
 ne:a≠I
section
variable {I a:Addr}{fp:List Addr}{es:Array (Int×Value)}{ep:Nat}{vs:List Value}{i:Nat}
theorem ye.typeIs{s:Shared}(x:ye Tb w I a fp es ep vs i s.heap):s.TypeIs (.ref I) "set_iterator":=let ⟨o,ho,hc,_⟩:=x.it;⟨o,ho,hc⟩
theorem Py.at{h h':Heap}{o:Obj}(x:Py w I a fp es ep vs i h o)(k:∀b∈fp,b≠I->∀o,h.get? b=some o->h'.get? b=some o)(ha:a∈fp)(ne:a≠I):Py w I a fp es ep vs i h' o:=by
 rcases x with⟨tup,ot,n0,order,h1,h2,h3,h4,h5⟩|x|⟨slot,oa,t,h1,h2,h3,h4,h5⟩
 ·exact .inl ⟨tup,ot,n0,order,h1,h2,h3,k tup h1 h2 _ h4,h5⟩
 ·exact .inr (.inl x)
 ·exact .inr (.inr ⟨slot,oa,t,h1,h2,h3,k a ha ne _ h4,h5⟩)
theorem ye.at{h h':Heap}(x:ye Tb w I a fp es ep vs i h)(k:∀b∈fp,∀o,h.get? b=some o->h'.get? b=some o):ye Tb w I a fp es ep vs i h':=by
 obtain⟨o,ho,hc,hM⟩:=x.it
 exact⟨x.sg.at fun o e=>k a x.ha o e,x.len,⟨o,k I x.hI o ho,hc,hM.at (fun b hb _=>k b hb) x.ha x.ne⟩,x.hI,x.ha,x.ne⟩
theorem ye.put(x:ye Tb w I a fp es ep vs i s.heap){j:Nat}{h':Heap}{o':Obj}(k:∀b o,b≠I->s.heap.get? b=some o->h'.get? b=some o)(gh:h'.get? I=some o')(hc:o'.cls=.type "set_iterator")(hM:Py w I a fp es ep vs j s.heap o'):ye Tb w I a fp es ep vs j h':=
 ⟨x.sg.at fun o e=>k a o x.ne e,x.len,⟨o',gh,hc,hM.at (fun b _ hn o e=>k b o hn e) x.ha x.ne⟩,x.hI,x.ha,x.ne⟩
theorem gC{h:Heap}{o:Obj}{fs:Array Value}{j:Nat}{v:Value}(ho:h.get? I=some o)(hc:o.cls=.type "set_iterator")(hd:o.data=.fields fs):∃o',(h.update I (Obj.mapFields (·.setIfInBounds j v))).get? I=some o'/\o'.cls=.type "set_iterator"/\o'.data=.fields (fs.setIfInBounds j v):=
 ⟨_,Heap.get?_update_self _ ho (Obj.isFreed_of_fields (Obj.data_mapFields hd _)),(Obj.cls_mapFields ..).trans hc,by rw[Obj.data_mapFields hd]⟩
theorem Dw{Q:Option Value->Shared->Prop}(x:ye Tb w I a fp es ep vs i s.heap)(hi:i<vs.length)
  (hQ:∀h',ye Tb w I a fp es ep vs (i+1) h'->(∀b o,b≠I->s.heap.get? b=some o->h'.get? b=some o)->Q (some vs[i]) {s with heap:=h'}):wpAny (model prog w) A (pyNext (.ref I)) Q E s:=by
 obtain⟨o,ho,hc,hM⟩:=x.it
 obtain⟨oa,t,lS,hex,oh,v9,hb,hf,hm⟩:=x.sg.ex
 have up:∀(h:Heap) (f:Obj->Obj) b o,b≠I->h.get? b=some o->(h.update I f).get? b=some o:=fun h f b o hn e=>(Heap.get?_update_other _ _ (Ne.symm hn)).trans e
 unfold pyNext
 refine wpAny_bind (wpAny_attempt (wpAny_callSpecial?_slot (name:=Str.ofString "__next__") x.typeIs SF.next (wpAny_call_entry SF.next x.typeIs SF.entry ?_ (SF.args _))))
 refine wpAny_bind (wpAny_pure ?_)
 rcases hM with⟨tup,ot,n0,order,Tv,my,hd,QY,Q0,hlen,LB⟩|⟨slot,v_,hd,Cq⟩|⟨slot,XC,t',v_,hsz,hd,LF,LL,h0,h1,Cq⟩
 ·refine wpAny_bind (wpAny_fieldsOf ho hd ?_)
  dsimp only
  refine wpAny_bind (wpAny_setEntries_of lS oh hf ?_)
  rw[if_neg (by simp)]
  unfold seqItems?
  dsimp only
  refine wpAny_bind (wpAny_bind (wpAny_load QY ?_))
  rw[Q0]
  dsimp only
  refine wpAny_pure ?_
  have VM:i<order.length:=by omega
  obtain⟨e,he,hv⟩:=LB i order[i] (List.getElem?_eq_getElem VM)
  have r6:(order.map fun(j:Nat)=>rawInt j).toArray[((i:Nat):Int).toNat]? = some (.int (order[i]:Nat) 0):=by
   rw[Int.toNat_natCast,List.getElem?_toArray,List.getElem?_map,List.getElem?_eq_getElem VM];rfl
  dsimp only
  rw[r6]
  dsimp only
  unfold setNextDrawn
  refine wpAny_bind (wpAny_bind (wpAny_setState_of lS oh hf ?_))
  dsimp only
  rw[if_neg (by simp),Int.toNat_natCast,he]
  dsimp only
  refine wpAny_pure ?_
  refine wpAny_bind (wpAny_setField ho hd (by simp) ?_)
  obtain⟨o',gh,FL,pJ⟩:=gC (j:=1) (v:=rawInt ((i:Int)+1)) ho hc hd
  have ev:e.2=vs[i]:=by rw[List.getElem?_eq_getElem hi] at hv;exact(Option.some.inj hv).symm
  rw[ev]
  refine wpAny_pure ⟨_,rfl,wpAny_pure (hQ _ (x.put (up _ _) gh FL (.inl ⟨tup,ot,n0,order,Tv,my,?_,QY,Q0,hlen,LB⟩)) (up _ _))⟩
  rw[pJ];simp[rawInt]
 ·refine wpAny_bind (wpAny_fieldsOf ho hd ?_)
  dsimp only
  refine wpAny_bind (wpAny_setEntries_of lS oh hf ?_)
  rw[if_neg (by simp)]
  have key:wpAny (model prog w) A.in1 (setNext a ((slot:Nat):Int).toNat ((i:Nat):Int).toNat ((ep:Nat):Int).toNat) (fun r s'=>s'=s/\r=some (vs[i],slot)) (fun e s'=>False) s:=by
   simp only[Int.toNat_natCast]
   unfold setNext setsByText
   refine wpAny_bind (wpAny_setState_of lS oh hf ?_)
   dsimp only
   refine wpAny_bind (wpAny_bind (wpAny_askSetting (wpAny_pure ?_)))
   rw[if_pos (show(Setting.mk (model prog w).prog (model prog w).w.params).params.followText "set-order" = true from v_),if_neg (by simp)]
   unfold setWalk setsByText
   refine wpAny_bind (wpAny_bind (wpAny_setState_of lS oh hf ?_))
   dsimp only
   refine wpAny_bind (wpAny_bind (wpAny_askSetting (wpAny_pure ?_)))
   rw[if_pos (show(Setting.mk (model prog w).prog (model prog w).w.params).params.followText "set-order" = true from v_)]
   refine wpAny_bind (wpAny_askSetting (wpAny_pure (wpAny_pure ⟨rfl,?_⟩)))
   have e:(pickOrder (w.params.setOrder a ep) es)[i]?.map (·.2)=some vs[i]:=by
    subst Cq
    have:=List.getElem?_eq_getElem hi
    rwa [List.getElem?_map,Array.getElem?_toList] at this
   show((pickOrder (w.params.setOrder a ep) es)[i]?).map (fun e=>(e.2,slot))=_
   cases q:(pickOrder (w.params.setOrder a ep) es)[i]? with
   |none=>rw[q] at e;cases e
   |some y=>rw[q] at e;have e:y.2=vs[i]:=Option.some.inj e;rw[Option.map_some,e]
  refine wpAny_bind (wpAny_mono key (fun r s' ⟨e1,e2⟩=>?_) fun _ _ z=>z.elim)
  subst e1 e2
  dsimp only
  refine wpAny_bind (wpAny_setField ho hd (by simp) ?_)
  obtain⟨o',gh,FL,pJ⟩:=gC (j:=0) (v:=rawInt (slot:Int)) ho hc hd
  refine wpAny_bind (wpAny_setField gh pJ (by simp) ?_)
  obtain⟨XD,LG,LN,LM⟩:=gC (j:=1) (v:=rawInt ((i:Int)+1)) gh FL pJ
  refine wpAny_pure ⟨_,rfl,wpAny_pure (hQ _ (x.put (fun b o n e=>up _ _ b o n (up _ _ b o n e)) LG LN (.inr (.inl ⟨slot,v_,?_,Cq⟩))) fun b o n e=>up _ _ b o n (up _ _ b o n e))⟩
  rw[LM];simp[rawInt]
 ·have VU:es.size=1:=by have:=x.len;omega
  have YD:i=0:=by have:=x.len;omega
  subst YD
  cases lS.symm.trans LF
  cases oh.symm.trans LL
  have r6:∃j,t.place = #[j]:=by
   simp only[SetTable.fits,Bool.and_eq_true,beq_iff_eq] at hf
   have hp:=hf.1
   rw[VU] at hp
   exact⟨t.place[0],by apply Array.ext;simp[hp];intro i h1 h2;have:i=0:=(by omega);subst this;rfl⟩
  obtain⟨j,hj⟩:=r6
  have Om:=h0 rfl
  subst Om
  refine wpAny_bind (wpAny_fieldsOf ho hd ?_)
  dsimp only
  refine wpAny_bind (wpAny_setEntries_of lS oh hf ?_)
  rw[if_neg (by simp)]
  have key:wpAny (model prog w) A.in1 (setNext a ((0:Nat):Int).toNat ((0:Nat):Int).toNat ((ep:Nat):Int).toNat) (fun r s'=>s'=s/\r=some (vs[0],j+1)) (fun e s'=>False) s:=by
   simp only[Int.toNat_natCast]
   unfold setNext setsByText
   refine wpAny_bind (wpAny_setState_of lS oh hf ?_)
   dsimp only
   refine wpAny_bind (wpAny_bind (wpAny_askSetting (wpAny_pure ?_)))
   rw[if_neg (by rw[show(⟨(model prog w).prog,(model prog w).w.params⟩:Setting).params.followText "set-order" = false from v_];exact Bool.false_ne_true)]
   refine wpAny_ite_split (fun z=>?_) (fun _=>?_)
   ·have z:(!t.plain&&decide (es.size > 1))=true:=z
    simp only[VU,Bool.and_eq_true,decide_eq_true_eq] at z
    omega
   ·refine wpAny_bind ?_
    show wpAny _ _ (if (!t.led && !es.isEmpty)=true then unsupported _ else pure ()) _ _ _
    rw[if_neg (by rw[hm.1,v_];simp)]
    refine wpAny_pure (wpAny_pure ⟨rfl,?_⟩)
    have Jl:SetTable.below t.place 0=0:=by rw[hj];rfl
    rw[Jl,hj]
    have e0:es[0]? = some es[0]:=Array.getElem?_eq_getElem (by omega)
    have ev:vs[0]=es[0].2:=by simp[Cq]
    rw[e0,ev]
    rfl
  refine wpAny_bind (wpAny_mono key (fun r s' ⟨e1,e2⟩=>?_) fun _ _ z=>z.elim)
  subst e1 e2
  dsimp only
  refine wpAny_bind (wpAny_setField ho hd (by simp) ?_)
  obtain⟨o',gh,FL,pJ⟩:=gC (j:=0) (v:=rawInt ((j+1:Nat):Int)) ho hc hd
  refine wpAny_bind (wpAny_setField gh pJ (by simp) ?_)
  obtain⟨XD,LG,LN,LM⟩:=gC (j:=1) (v:=rawInt (((0:Nat):Int)+1)) gh FL pJ
  refine wpAny_pure ⟨_,rfl,wpAny_pure (hQ _ (x.put (fun b o n e=>up _ _ b o n (up _ _ b o n e)) LG LN (.inr (.inr ⟨j+1,oa,t,v_,hsz,?_,lS,oh,fun z=>by omega,fun _=>⟨j,hj,rfl⟩,Cq⟩))) fun b o n e=>up _ _ b o n (up _ _ b o n e))⟩
  rw[LM];simp[rawInt]
theorem A_{s1:Shared}{α:Type}{P:α->Shared->Prop}{Q:Option Value->Shared->Prop}(hh:A.handled=none)(h:∀h',(∀b o,s1.heap.get? b=some o->h'.get? b=some o)->Q none {s1 with heap:=h'}) :
  wpAny (model prog w) A.in1 (do let e <-newExc (Value.type "StopIteration") [];raiseNew e) P (fun e s'=>wpAny (model prog w) A (do let q <-isInstance e (.type "StopIteration");if q=true then pure none else throw e) Q E s') s1:=by
 refine wpAny_bind ?_
 simp only[newExc,newTuple]
 refine wpAny_bind (wpAny_newObj_type ?_ (by size_fits))
 refine wpAny_bind (m:=firstArgMember _ _) (wpAny_of_eq (a:=Value.none) (by first|rfl|(simp only[firstArgMember];rfl)) ?_)
 refine wpAny_newObj_type ?_ (by size_fits)
 simp only[raiseNew]
 refine wpAny_bind (wpAny_handled ?_)
 rw[show A.in1.handled=none from hh]
 refine wpAny_bind (wpAny_pure (wpAny_throw ?_))
 refine wpAny_bind (wpAny_isInstance (T := "StopIteration") (b:=true) ⟨_,Heap.get?_push_size _ rfl,rfl⟩ isSubtype_stop ?_)
 exact wpAny_pure (h _ fun b o e=>Heap.get?_push_of_some _ (Heap.get?_push_of_some _ e))
theorem DB{Q:Option Value->Shared->Prop}(hh:A.handled=none)(x:ye Tb w I a fp es ep vs vs.length s.heap)
  (hQ:∀h',(∀b o,b≠I->s.heap.get? b=some o->h'.get? b=some o)->Q none {s with heap:=h'}):wpAny (model prog w) A (pyNext (.ref I)) Q E s:=by
 obtain⟨o,ho,hc,hM⟩:=x.it
 obtain⟨oa,t,lS,hex,oh,v9,hb,hf,hm⟩:=x.sg.ex
 have up:∀(h:Heap) (f:Obj->Obj) b o,b≠I->h.get? b=some o->(h.update I f).get? b=some o:=fun h f b o hn e=>(Heap.get?_update_other _ _ (Ne.symm hn)).trans e
 have C0:∀(s1:Shared) (o1:Obj) (fs:Array Value) {P:Fin->Shared->Prop},s1.heap.get? I=some o1->o1.cls=.type "set_iterator"->o1.data=.fields fs->2<fs.size->(∃h1,s1={s with heap:=h1}/\∀b o,b≠I->s.heap.get? b=some o->h1.get? b=some o) ->
   wpAny (model prog w) A.in1 (do setField (Value.ref I) 2 Value.none;let e <-newExc (Value.type "StopIteration") [];raiseNew e) P (fun e s'=>wpAny (model prog w) A (do let q <-isInstance e (.type "StopIteration");if q=true then pure none else throw e) Q E s') s1:=by
  rintro s1 o1 fs P h1 h2 h3 h4 ⟨hp,rfl,h5⟩
  refine wpAny_bind (wpAny_setField h1 h3 h4 ?_)
  exact A_ hh fun h' k=>hQ h' fun b o n e=>k b o (up _ _ b o n (h5 b o n e))
 unfold pyNext
 refine wpAny_bind (wpAny_attempt (wpAny_callSpecial?_slot (name:=Str.ofString "__next__") x.typeIs SF.next (wpAny_call_entry SF.next x.typeIs SF.entry ?_ (SF.args _))))
 refine wpAny_bind (wpAny_pure ?_)
 have e0:s={s with heap:=s.heap}:=by cases s;rfl
 rcases hM with⟨tup,ot,n0,order,Tv,my,hd,QY,Q0,hlen,LB⟩|⟨slot,v_,hd,Cq⟩|⟨slot,XC,t',v_,hsz,hd,LF,LL,h0,h1,Cq⟩
 ·refine wpAny_bind (wpAny_fieldsOf ho hd ?_)
  dsimp only
  refine wpAny_bind (wpAny_setEntries_of lS oh hf ?_)
  rw[if_neg (by simp)]
  unfold seqItems?
  dsimp only
  refine wpAny_bind (wpAny_bind (wpAny_load QY ?_))
  rw[Q0]
  dsimp only
  refine wpAny_pure ?_
  dsimp only
  have r6:(order.map fun(j:Nat)=>rawInt j).toArray[((vs.length:Nat):Int).toNat]? = none:=by
   rw[Int.toNat_natCast,List.getElem?_toArray,List.getElem?_eq_none];simp;omega
  rw[r6]
  dsimp only
  refine wpAny_bind (wpAny_setField ho hd (by simp) ?_)
  obtain⟨o',gh,FL,pJ⟩:=gC (j:=0) (v:=rawInt 0) ho hc hd
  exact C0 _ o' _ gh FL pJ (by simp) ⟨_,rfl,up _ _⟩
 ·refine wpAny_bind (wpAny_fieldsOf ho hd ?_)
  dsimp only
  refine wpAny_bind (wpAny_setEntries_of lS oh hf ?_)
  rw[if_neg (by simp)]
  have key:wpAny (model prog w) A.in1 (setNext a ((slot:Nat):Int).toNat ((vs.length:Nat):Int).toNat ((ep:Nat):Int).toNat) (fun r s'=>s'=s/\r=none) (fun e s'=>False) s:=by
   simp only[Int.toNat_natCast]
   unfold setNext setsByText
   refine wpAny_bind (wpAny_setState_of lS oh hf ?_)
   dsimp only
   refine wpAny_bind (wpAny_bind (wpAny_askSetting (wpAny_pure ?_)))
   rw[if_pos (show(Setting.mk (model prog w).prog (model prog w).w.params).params.followText "set-order" = true from v_),if_neg (by simp)]
   unfold setWalk setsByText
   refine wpAny_bind (wpAny_bind (wpAny_setState_of lS oh hf ?_))
   dsimp only
   refine wpAny_bind (wpAny_bind (wpAny_askSetting (wpAny_pure ?_)))
   rw[if_pos (show(Setting.mk (model prog w).prog (model prog w).w.params).params.followText "set-order" = true from v_)]
   refine wpAny_bind (wpAny_askSetting (wpAny_pure (wpAny_pure ⟨rfl,?_⟩)))
   show((pickOrder (w.params.setOrder a ep) es)[vs.length]?).map (fun e=>(e.2,slot))=_
   rw[Array.getElem?_eq_none (by rw[Cq];simp)]
   rfl
  refine wpAny_bind (wpAny_mono key (fun r s' ⟨e1,e2⟩=>?_) fun _ _ z=>z.elim)
  subst e1 e2
  dsimp only
  exact C0 _ o _ ho hc hd (by simp) ⟨_,e0,fun b o n e=>e⟩
 ·cases lS.symm.trans LF
  cases oh.symm.trans LL
  refine wpAny_bind (wpAny_fieldsOf ho hd ?_)
  dsimp only
  refine wpAny_bind (wpAny_setEntries_of lS oh hf ?_)
  rw[if_neg (by simp)]
  have FH:=x.len
  have TQ:es[SetTable.below t.place slot]? = none:=by
   by_cases z:es.size=0
   ·exact Array.getElem?_eq_none (by omega)
   ·obtain⟨j,hj,hs⟩:=h1 (by omega)
    have:SetTable.below t.place slot=1:=by
     rw[hj,hs]
     simp[SetTable.below,SetTable.below.go]
    rw[this]
    exact Array.getElem?_eq_none (by omega)
  have key:wpAny (model prog w) A.in1 (setNext a ((slot:Nat):Int).toNat ((vs.length:Nat):Int).toNat ((ep:Nat):Int).toNat) (fun r s'=>s'=s/\r=none) (fun e s'=>False) s:=by
   simp only[Int.toNat_natCast]
   unfold setNext setsByText
   refine wpAny_bind (wpAny_setState_of lS oh hf ?_)
   dsimp only
   refine wpAny_bind (wpAny_bind (wpAny_askSetting (wpAny_pure ?_)))
   rw[if_neg (by rw[show(⟨(model prog w).prog,(model prog w).w.params⟩:Setting).params.followText "set-order" = false from v_];exact Bool.false_ne_true)]
   refine wpAny_ite_split (fun z=>?_) (fun _=>?_)
   ·have z:(!t.plain&&decide (es.size > 1))=true:=z
    simp only[Bool.and_eq_true,decide_eq_true_eq] at z
    omega
   ·refine wpAny_bind ?_
    show wpAny _ _ (if (!t.led && !es.isEmpty)=true then unsupported _ else pure ()) _ _ _
    rw[if_neg (by rw[hm.1,v_];simp)]
    refine wpAny_pure (wpAny_pure ⟨rfl,?_⟩)
    rw[TQ]
  refine wpAny_bind (wpAny_mono key (fun r s' ⟨e1,e2⟩=>?_) fun _ _ z=>z.elim)
  subst e1 e2
  dsimp only
  exact C0 _ o _ ho hc hd (by simp) ⟨_,e0,fun b o n e=>e⟩
theorem Dv{Q:Value->Shared->Prop}(x:ye Tb w I a fp es ep vs i s.heap)(h:Q (.ref I) s):wpAny (model prog w) A (pyIter (.ref I)) Q E s:=by
 refine wpAny_pyIter_slot x.typeIs SF.iter (wpAny_call_entry SF.iter x.typeIs SF.L8 ?_ (SF.Pf _))
 show wpAny _ _ (ret (.ref I)) _ _ s
 exact wpAny_pure ⟨_,rfl, "set_iterator",_,x.typeIs,SF.next.lookup,h⟩
theorem By(hh:A.handled=none)(hI:I∈fp):Walks prog w A I fp [I] vs.length (fun i v=>∃h:i<vs.length,v=vs[i]) (fun i h=>ye Tb w I a fp es ep vs i h) where
 sub:=fun b hb=>by rw[List.mem_singleton.mp hb];exact hI
 frame:=fun _ _ _ st hk=>st.at hk
 item:=fun i s Q E hi st hQ=>Dw st hi fun h' Co k=>hQ _ h' s.toks ⟨hi,rfl⟩ Co fun b o hb e=>k b o (fun z=>hb (by simp[z])) e
 done:=fun s Q E st hQ=>DB hh st fun h' k=>hQ h' s.toks fun b o hb e=>k b o (fun z=>hb (by simp[z])) e
 self:=fun _ _ _ _ st hQ=>Dv st hQ
end
end
end L2
end
section
namespace L2
open PySem PySem.Spec PyProof.Rows
section
variable {Tb:Array (Int×Value)->SetTable->Prop}{prog:Program}{w:World}{A:Around}{E:Value->Shared->Prop}{s:Shared}{a:Addr}{es:Array (Int×Value)}{ep:Nat}
theorem yV{order:List Nat}(hp:order.Perm (List.range es.size)):∃vs:List Value,vs.Perm (es.toList.map (·.2))/\vs.length=order.length/\∀(j p:Nat),order[j]? = some p->∃e,es[p]? = some e/\vs[j]? = some e.2:=by
 refine⟨order.map fun p=>((es[p]?).map (·.2)).getD .none,?_,by simp,fun j p h=>?_⟩
 ·refine(hp.map _).trans (List.Perm.of_eq ?_)
  apply List.ext_getElem?
  intro i
  simp only[List.getElem?_map]
  by_cases h:i<es.size
  ·rw[List.getElem?_range h]
   simp[h]
  ·rw[List.getElem?_eq_none (by simpa using Nat.le_of_not_lt h),List.getElem?_eq_none (by simpa using Nat.le_of_not_lt h)];rfl
 ·have hm:p∈List.range es.size:=hp.mem_iff.mp (List.mem_of_getElem? h)
  have iM:p<es.size:=List.mem_range.mp hm
  refine⟨es[p],Array.getElem?_eq_getElem iM,?_⟩
  rw[List.getElem?_map,h]
  simp[iM]
theorem FU.typeIs(x:FU Tb w s.heap a es ep):s.TypeIs (.ref a) "set":=let ⟨o,_,ho,hex,_⟩:=x.ex;⟨o,ho,hex.1⟩
theorem Dy{Q:Value->Shared->Prop}(x:FU Tb w s.heap a es ep)
  (h:∀(I:Addr) (fp:List Addr) (vs:List Value) (h':Heap) (d:Drawn),(∀b o,s.heap.get? b=some o->h'.get? b=some o)->ye Tb w I a fp es ep vs 0 h'->vs.Perm (es.toList.map (·.2))->s.heap.objs.size<=I->(∀b∈fp,b<h'.objs.size)->(∀b∈fp,b=a\/s.heap.objs.size<=b)->Q (.ref I) {s with heap:=h',drawn:=d}):wpAny (model prog w) A (pyIter (.ref a)) Q E s:=by
 obtain⟨oa,t,lS,hex,oh,v9,hb,hf,hm⟩:=x.ex
 have iM:a<s.heap.objs.size:=Heap.lt_size lS
 refine wpAny_pyIter_slot x.typeIs PySem.F.slot_set_iter (wpAny_call_entry PySem.F.slot_set_iter x.typeIs SF.L7 ?_ (PySem.F.args_set_iter_1 _))
 unfold Builtin.«frozenset.__iter__» Builtin.Frozenset.slot0 slotArgs
 simp only[List.isEmpty_nil,Bool.not_true,Bool.false_eq_true,↓reduceIte,bind_assoc,List.length_nil,bne_self_eq_false]
 unfold Builtin.Frozenset.addrOf Builtin.Frozenset.sizeOf
 refine wpAny_bind (wpAny_pure ?_)
 try dsimp only
 refine wpAny_bind (wpAny_pure ?_)
 refine wpAny_bind (wpAny_bind (wpAny_setEntries_of lS oh hf (wpAny_pure ?_)))
 unfold setDrawn setsByText
 refine wpAny_bind (wpAny_bind (wpAny_setState_of lS oh hf ?_))
 dsimp only
 refine wpAny_bind (wpAny_bind (wpAny_askSetting (wpAny_pure (wpAny_pure ?_))))
 refine wpAny_ite_split (fun z=>?_) (fun z=>?_)
 ·have z:(!w.params.followText "set-order" && (!t.plain&&decide (es.size > 1)))=true:=z
  have v_:w.params.followText "set-order" = false:=by
   cases e:w.params.followText "set-order" with
   |false=>rfl
   |true=>rw[e] at z;cases z
  refine wpAny_bind (xZ _ _ _ (by simp) fun order d hp=>?_)
  obtain⟨vs,X4,Vr,X3⟩:=yV hp
  simp only[newTuple]
  have QZ:order.length=es.size:=by rw[hp.length_eq];simp
  have SX:=fits_of_scanBound hb
  refine wpAny_bind (wpAny_newObj_type ?_ (show(order.map fun(i:Nat)=>rawInt i).toArray.size<=sizeLine by simp;omega))
  have Oz:(s.heap.push {cls:=.type "tuple",data:=.seq (order.map fun(i:Nat)=>rawInt i).toArray}).get? a=some oa:=Heap.get?_push_of_some _ lS
  refine wpAny_bind (wpAny_setEpoch_of (s:={s with heap:=s.heap.push {cls:=.type "tuple",data:=.seq (order.map fun(i:Nat)=>rawInt i).toArray},drawn:=d}) Oz oh hf ?_)
  refine wpAny_bind (wpAny_newObj_type (wpAny_pure ⟨_,rfl, "set_iterator",_,⟨_,Heap.get?_push_size _ rfl,rfl⟩,SF.next.lookup,?_⟩))
  refine h _ [s.heap.objs.size+1,a,s.heap.objs.size] vs _ d (fun b o e=>Heap.get?_push_of_some _ (Heap.get?_push_of_some _ e)) ⟨⟨oa,t,Heap.get?_push_of_some _ Oz,hex,oh,v9,hb,hf,hm⟩,by rw[Vr,QZ],⟨_,Heap.get?_push_size _ rfl,rfl,.inl ⟨s.heap.objs.size,_,0,order,by simp,?_,?_,Heap.get?_push_of_some _ (Heap.get?_push_size _ rfl),rfl,Vr,X3⟩⟩,?_,by simp,?_⟩ X4 ?_ ?_ ?_
  ·rw[Heap.size_push];exact Nat.ne_of_lt (Nat.lt_succ_self _)
  ·simp[rawInt]
  ·rw[Heap.size_push];simp
  ·rw[Heap.size_push];exact Nat.ne_of_lt (Nat.lt_succ_of_lt iM)
  ·rw[Heap.size_push];exact Nat.le_succ _
  ·intro b hb
   rw[Heap.size_push,Heap.size_push]
   simp only[List.mem_cons,List.not_mem_nil,or_false] at hb
   rcases hb with rfl|rfl|rfl
   ·exact Nat.lt_succ_self _
   ·exact Nat.lt_succ_of_lt (Nat.lt_succ_of_lt iM)
   ·exact Nat.lt_succ_of_lt (Nat.lt_succ_self _)
  ·intro b hb
   simp only[List.mem_cons,List.not_mem_nil,or_false] at hb
   rcases hb with rfl|rfl|rfl
   ·exact .inr (Nat.le_succ _)
   ·exact .inl rfl
   ·exact .inr (Nat.le_refl _)
 ·have z:¬(!w.params.followText "set-order" && (!t.plain&&decide (es.size > 1)))=true:=z
  refine wpAny_bind (wpAny_pure ?_)
  refine wpAny_bind (wpAny_setEpoch_of lS oh hf ?_)
  refine wpAny_bind (wpAny_newObj_type (wpAny_pure ⟨_,rfl, "set_iterator",_,⟨_,Heap.get?_push_size _ rfl,rfl⟩,SF.next.lookup,?_⟩))
  cases v_:w.params.followText "set-order" with
  |true=>
   refine h _ [s.heap.objs.size,a] ((pickOrder (w.params.setOrder a ep) es).toList.map (·.2)) _ s.drawn (fun b o e=>Heap.get?_push_of_some _ e) ⟨⟨oa,t,Heap.get?_push_of_some _ lS,hex,oh,v9,hb,hf,hm⟩,?_,⟨_,Heap.get?_push_size _ rfl,rfl,.inr (.inl ⟨0,v_,?_,rfl⟩)⟩,by simp,by simp,Nat.ne_of_lt iM⟩ ((tX _ _).map _) (Nat.le_refl _) ?_ ?_
   ·have:=(tX (w.params.setOrder a ep) es).length_eq
    simpa using this
   ·simp[rawInt]
   ·intro b hb
    rw[Heap.size_push]
    simp only[List.mem_cons,List.not_mem_nil,or_false] at hb
    rcases hb with rfl|rfl
    ·exact Nat.lt_succ_self _
    ·exact Nat.lt_succ_of_lt iM
   ·intro b hb
    simp only[List.mem_cons,List.not_mem_nil,or_false] at hb
    rcases hb with rfl|rfl
    ·exact .inr (Nat.le_refl _)
    ·exact .inl rfl
  |false=>
   rw[v_] at z
   have hsz:es.size<=1:=by
    rcases hm.2 with e|e
    ·omega
    ·rw[e] at z;simp at z;exact z
   refine h _ [s.heap.objs.size,a] (es.toList.map (·.2)) _ s.drawn (fun b o e=>Heap.get?_push_of_some _ e) ⟨⟨oa,t,Heap.get?_push_of_some _ lS,hex,oh,v9,hb,hf,hm⟩,by simp,⟨_,Heap.get?_push_size _ rfl,rfl,.inr (.inr ⟨0,oa,t,v_,hsz,?_,Heap.get?_push_of_some _ lS,oh,fun _=>rfl,fun z=>by omega,rfl⟩)⟩,by simp,by simp,Nat.ne_of_lt iM⟩ (List.Perm.refl _) (Nat.le_refl _) ?_ ?_
   ·simp[rawInt]
   ·intro b hb
    rw[Heap.size_push]
    simp only[List.mem_cons,List.not_mem_nil,or_false] at hb
    rcases hb with rfl|rfl
    ·exact Nat.lt_succ_self _
    ·exact Nat.lt_succ_of_lt iM
   ·intro b hb
    simp only[List.mem_cons,List.not_mem_nil,or_false] at hb
    rcases hb with rfl|rfl
    ·exact .inr (Nat.le_refl _)
    ·exact .inl rfl
theorem Dz{Q:Bool->Shared->Prop}(hT:s.TypeIs (.ref a) "set")(h:Q false s):wpAny (model prog w) A (Builtin.List.listLengthHint (.ref a)) Q E s:=by
 unfold Builtin.List.listLengthHint
 refine wpAny_bind (wpAny_specialOf hT PySem.F.slot_set_len.lookup ?_)
 generalize VN:("set.__len__":String)=XO
 wp_delta
 rw[show splitId XO=some ("set", "__len__") from by subst VN;decide +kernel]
 subst VN
 refine wpAny_bind (wpAny_isInstance (T := "set") (b:=true) hT (by rw[isSubtype_type];kernel_rfl) ?_)
 refine wpAny_ite_split (fun MS=>absurd MS (by decide)) (fun _=>?_)
 refine wpAny_ite_split (fun _=>?_) (fun MS=>absurd (by decide +kernel) MS)
 exact wpAny_bind (wpAny_typeOf hT (wpAny_pure h))
theorem wN{R:List Value->Shared->Prop}(hh:A.handled=none)(x:FU Tb w s.heap a es ep)
  (h:∀(h':Heap) (d:Drawn) (tk:Nat) (vs:List Value),(∀b o,s.heap.get? b=some o->h'.get? b=some o)->s.heap.objs.size<=h'.objs.size->vs.Perm (es.toList.map (·.2))->R vs {s with heap:=h',drawn:=d,toks:=tk}) :
  wpAny (model prog w) A (collect (.ref a)) R E s:=by
 obtain⟨oa,t,lS,hex,oh,v9,hb,hf,hm⟩:=x.ex
 have iM:a<s.heap.objs.size:=Heap.lt_size lS
 unfold collect
 refine wpAny_bind (wpAny_runValue (codeAny_builtin entry_proto_collect' ?_))
 rw[Around.under_plainId PySem.F.plain_proto_collect _]
 show wpAny _ A.in1 (newList [] >>= fun l=>again (.builtin "list.__iadd__" ⟨[l,.ref a],[]⟩)) _ _ s
 refine wpAny_bind (wpAny_newObj_type ?_)
 refine wpAny_pure ⟨plainId_quiet PySem.F.plain_list_iadd _,codeAny_builtin entry_list_iadd' ?_⟩
 rw[Around.under_plainId PySem.F.plain_list_iadd _]
 have rq:(s.heap.push {cls:=.type "list",data:=.seq ([]:List Value).toArray}).get? s.heap.objs.size=some {cls:=.type "list",data:=.seq #[]}:=Heap.get?_push_size _ rfl
 have x1:FU Tb w (s.heap.push {cls:=.type "list",data:=.seq ([]:List Value).toArray}) a es ep:=x.at fun o e=>Heap.get?_push_of_some _ e
 show wpAny _ A.in1 (Builtin.List.listExtendWith (.ref s.heap.objs.size) (.ref a) (.ref s.heap.objs.size)) _ _ _
 unfold Builtin.List.listExtendWith
 refine wpAny_bind (wpAny_typeOf (T := "set") x1.typeIs ?_)
 have h1:Builtin.List.listSameRef (.ref s.heap.objs.size) (.ref a)=false:=by simp[Builtin.List.listSameRef,Nat.ne_of_gt iM]
 have n1:(Value.type "set" == Value.type "list")=false:=by decide
 have n2:(Value.type "set" == Value.type "tuple")=false:=by decide
 simp only[h1,n1,n2,Bool.or_false,Bool.false_eq_true,if_false]
 refine wpAny_bind (Dy (s:={s with heap:=s.heap.push {cls:=.type "list",data:=.seq ([]:List Value).toArray}}) x1 fun I fp vs h' d kp it hp hI Tv YL=>?_)
 have rp:=kp _ _ rq
 have E6:s.heap.objs.size∉fp:=fun z=>by
  rcases YL _ z with e|e
  ·exact Nat.ne_of_gt iM e
  ·rw[Heap.size_push] at e;exact Nat.lt_irrefl _ e
 refine wpAny_bind (wpAny_holding (Dz (s:={s with heap:=h',drawn:=d}) it.sg.typeIs ?_))
 have W:=By (Tb:=Tb) (prog:=prog) (w:=w) (A:=A.in1) (a:=a) (es:=es) (ep:=ep) (vs:=vs) hh it.hI
 have hn:vs.length<=sizeLine:=by rw[it.len];exact fits_of_scanBound hb
 have key:∀(h2:Heap) (c₁ tk:Nat),ye Tb w I a fp es ep vs 0 h2->(∀b o,s.heap.get? b=some o->h2.get? b=some o)->h2.get? s.heap.objs.size=some {cls:=.type "list",data:=.seq #[] c₁} ->
   codeAny (model prog w) A (.builtin "list.extend.loop" ⟨[.ref s.heap.objs.size,.ref I,.ref s.heap.objs.size],[]⟩) (fun q s'=>∃(h':Heap) (tk:Nat) (f9:Array Value) (c':Nat),q=.ok (.ret (.ref s.heap.objs.size))/\s'={s with heap:=h',drawn:=d,toks:=tk}/\(∀b o,s.heap.get? b=some o->h'.get? b=some o)/\h'.get? s.heap.objs.size=some {cls:=.type "list",dict:=none,data:=.seq f9 c',slots:=#[]}/\f9.toList=vs) {s with heap:=h2,drawn:=d,toks:=tk}:=by
  intro h2 c₁ tk zi hk rq
  refine codeAny_extend_loopS W.toS hn s.heap.objs.size E6 (.ref s.heap.objs.size) vs.length 0 _ #[] c₁ rfl (Nat.zero_le _) zi rq (ItemsOf.nil _) fun s' f9 c' hm B8 kY=>?_
  rw[Moved.eq_with hm]
  refine⟨s'.heap,s'.toks,f9,c',rfl,rfl,fun b o e=>hm.heap b o (fun kX=>?_) (hk b o e),B8,?_⟩
  ·rcases List.mem_cons.mp kX with e'|kX
   ·exact absurd (Heap.lt_size e) (by rw[e'];exact Nat.lt_irrefl _)
   ·have:=List.mem_singleton.mp kX
    have h3:=Heap.lt_size e
    rw[this] at h3
    rw[Heap.size_push] at hI
    exact Nat.lt_irrefl _ (Nat.lt_trans h3 hI)
  ·apply List.ext_getElem?
   intro j
   by_cases hj:j<vs.length
   ·have VJ:j<f9.size:=by rw[kY.1];exact hj
    obtain⟨_,e⟩:=kY.2 j f9[j] (Array.getElem?_eq_getElem VJ)
    rw[Array.getElem?_toList,Array.getElem?_eq_getElem VJ,e,List.getElem?_eq_getElem hj]
   ·rw[Array.getElem?_toList,Array.getElem?_eq_none (by rw[kY.1];omega),List.getElem?_eq_none (by omega)]
 have fin:∀(h2:Heap) (c₁ tk:Nat),ye Tb w I a fp es ep vs 0 h2->(∀b o,s.heap.get? b=some o->h2.get? b=some o)->h2.get? s.heap.objs.size=some {cls:=.type "list",data:=.seq #[] c₁} ->
   codeAny (model prog w) A (.builtin "list.extend.loop" ⟨[.ref s.heap.objs.size,.ref I,.ref s.heap.objs.size],[]⟩) (fun r s'=>match r with
    | .ok (.ret v)=>wpAny (model prog w) A (match v with
      | .ref a=>do match (<-load a).data with | .seq xs _=>pure xs.toList|_=>unsupported "internal:collect"
      |_=>unsupported "internal:collect") R E s'
    | .ok _=>False
    | .error e=>E e s') {s with heap:=h2,drawn:=d,toks:=tk}:=fun h2 c₁ tk i1 i2 i3=>codeAny_mono (key h2 c₁ tk i1 i2 i3) fun q s2 y=>by
  obtain⟨h3,W9,f9,c',rfl,rfl,hk,B8,kY⟩:=y
  show wpAny _ A (load s.heap.objs.size >>= _) _ _ _
  refine wpAny_bind (wpAny_load B8 ?_)
  exact wpAny_pure (kY ▸ h h3 d W9 f9.toList hk (Nat.le_of_lt (Heap.lt_size B8)) (kY ▸ hp))
 have MI:∀b o,s.heap.get? b=some o->h'.get? b=some o:=fun b o e=>kp b o (Heap.get?_push_of_some _ e)
 refine wpAny_ite_split (fun _=>?_) (fun _=>wpAny_pure ⟨plainId_quiet PySem.F.plain_extend_loop _,fin _ _ _ it MI rp⟩)
 refine wpAny_bind (wpAny_rule ?_)
 refine wpAny_bind ?_
 show wpAny _ _ (updateSeq s.heap.objs.size (·.push .none) >>= fun _=>updateSeq s.heap.objs.size (·.pop)) _ _ _
 refine wpAny_bind (wpAny_updateSeq rp rfl ?_)
 have xK:=Heap.get?_update_self (Obj.mapSeq (·.push Value.none)) rp rfl
 refine wpAny_updateSeq (hz:=by seq_fits) xK rfl ?_
 have Aq:=Heap.get?_update_self (Obj.mapSeq (·.pop)) xK rfl
 have nb:∀b o,b≠s.heap.objs.size->h'.get? b=some o->((h'.update s.heap.objs.size (Obj.mapSeq (·.push Value.none))).update s.heap.objs.size (Obj.mapSeq (·.pop))).get? b=some o:=fun b o hb e=>(Heap.get?_update_other _ _ (Ne.symm hb)).trans ((Heap.get?_update_other _ _ (Ne.symm hb)).trans e)
 refine wpAny_pure ⟨plainId_quiet PySem.F.plain_extend_loop _,fin _ _ _ (it.at fun b hb o e=>nb b o (fun z=>E6 (z ▸ hb)) e) (fun b o e=>nb b o (Nat.ne_of_lt (Heap.lt_size e)) (MI b o e)) Aq⟩
end
end L2
end
section
namespace L2
open PySem PySem.Spec PyProof.Rows
def slt(x y:Str):Prop:=x.cps.toList<y.cps.toList
instance:DecidableRel slt:=fun x y=>inferInstanceAs (Decidable (x.cps.toList<y.cps.toList))
theorem yJ(x:Str):¬slt x x:=List.lt_irrefl _
theorem Bx{x y z:Str}(h:slt x y)(h':slt y z):slt x z:=List.lt_trans h h'
theorem J2{x y:Str}(h:slt x y):x≠y:=fun e=>yJ x (by rw[<-e] at h;exact h)
theorem zZ(x y:Str):slt x y\/x=y\/slt y x:=by
 by_cases h:x.cps.toList<y.cps.toList
 ·exact .inl h
 ·by_cases h':y.cps.toList<x.cps.toList
  ·exact .inr (.inr h')
  ·refine .inr (.inl ?_)
   have:=List.le_antisymm (List.not_lt.mp h') (List.not_lt.mp h)
   cases x;cases y
   simpa[Array.toList_inj] using this
theorem tT:∀(l:List Str) (p:Str),risingS p l=true->(∀x∈l,¬slt x p)/\l.Pairwise fun a b=>¬slt b a
 | [],p,_=>by simp
 |x::r,p,h=>by
  simp only[risingS,Bool.and_eq_true,Bool.not_eq_true',ltCps_eq,decide_eq_false_iff_not] at h
  obtain⟨h1,h2⟩:=tT r x h.2
  have hx:¬slt x p:=h.1
  refine⟨fun y hy=>?_,List.pairwise_cons.mpr ⟨h1,h2⟩⟩
  rcases List.mem_cons.mp hy with rfl|hy
  ·exact hx
  ·intro z
   rcases zZ x y with q|q|q
   ·exact hx (Bx q z)
   ·rw[q] at hx;exact hx z
   ·exact h1 y hy q
theorem k9{l:List Str}(h:sortedS l=true)(hn:l.Nodup):l.Pairwise slt:=by
 have hw:l.Pairwise fun a b=>¬slt b a:=by
  cases l with
  |nil=>simp
  |cons x r=>obtain⟨h1,h2⟩:=tT r x h;exact List.pairwise_cons.mpr ⟨h1,h2⟩
 exact(hw.and hn).imp fun⟨q,n⟩=>(zZ _ _).resolve_right fun z=>z.elim n q
section
variable {prog:Program}{w:World}{A:Around}{E:Value->Shared->Prop}{s:Shared}
theorem tQ{vs:List Value}{ss:List Str}{Q:Value->Shared->Prop}(hS:StrsAre vs ss)(E7:vs.length<64)
  (h:∀(h':Heap) (out:Array Value) (ys:List Str) (e:Nat) (p:Addr),(∀b o,s.heap.get? b=some o->h'.get? b=some o)->s.heap.objs.size<=p->h'.get? p=some (seqObj "list" out e)->StrsAre out.toList ys->ys.Perm ss->sortedS ys=true->Q (.ref p) {s with heap:=h'}) :
  wpAny (model prog w) A (do let l <-newList vs;let _ <-holding [l] (call (.builtin "list.sort") [l] []);ret l) (fun fin s'=>∃r,fin=.done (.ret r)/\Q r s') E s:=by
 refine wpAny_bind (wpAny_newList ?_)
 have OA:(s.heap.push (seqObj "list" vs.toArray 0)).get? s.heap.objs.size=some (seqObj "list" vs.toArray 0):=Heap.get?_push_size _ rfl
 refine wpAny_bind (wpAny_holding (wpAny_call_entry slot_list_sort ⟨_,OA,rfl⟩ entry_list_sort (list_sort_treeK (s:={s with heap:=s.heap.push (seqObj "list" vs.toArray 0)}) strKind_oneLt OA hS.keysOf (fun W3 W2 rest e=>keyKind_strs (by rw[<-e];exact hS)) E7 fun Co a1 a2=>⟨_,rfl,?_⟩) (args_list_sort _)))
 obtain⟨Xu,h1,h2,h3⟩:=sorted_out_str hS a1 a2
 obtain⟨e,he⟩:=sortedHeap_at (out:=(arrOf Co).map (·.2)) OA
 refine wpAny_pure ⟨_,rfl,h _ _ Xu e _ (fun b o q=>?_) (Nat.le_refl _) he h1 h2 h3⟩
 have hb:=Heap.lt_size q
 rw[sortedHeap_old (Nat.ne_of_lt hb) (by rw[Heap.size_push];exact Nat.lt_succ_of_lt hb)]
 exact Heap.get?_push_of_some _ q
theorem k8:∀{vs:List Value},(∀v∈vs,∃t,v=.str (strOf v) t)->StrsAre vs (vs.map strOf)
 | [],_=>.nil
 |v::vs,h=>by
  obtain⟨t,e⟩:=h v (.head _)
  rw[e]
  exact .cons _ t (k8 fun v hv=>h v (.tail _ hv))
theorem yB{a:Addr}{es:Array (Int×Value)}{ep:Nat}{xs:List Str}{Q:Value->Shared->Prop}(hh:A.handled=none)(x:SG prog w s.heap a es ep)(hz:Kz es xs)(E7:es.size<64)
  (h:∀(h':Heap) (d:Drawn) (tk:Nat) (out:Array Value) (ys:List Str) (e:Nat) (p:Addr),(∀b o,s.heap.get? b=some o->h'.get? b=some o)->s.heap.objs.size<=p->h'.get? p=some (seqObj "list" out e)->StrsAre out.toList ys->ys.Pairwise slt->(∀x,x∈ys↔x∈xs)->Q (.ref p) {s with heap:=h',drawn:=d,toks:=tk}) :
  wpAny (model prog w) A (call (.builtin "sorted") [.ref a]) Q E s:=by
 refine Calls.call_function_entry kind_sorted plain_sorted entry_sorted (args_sorted1 _) ?_
 unfold Builtin.«sorted»
 refine wpAny_bind (m:=checkCount "sorted" 1 1 _) (wpAny_pure ?_)
 refine wpAny_bind (wN hh x fun h1 d tk vs k1 XR hp=>?_)
 have v9:=x.elems
 have Cq:StrsAre vs (vs.map strOf):=k8 fun v hv=>by
  obtain⟨e,he,rfl⟩:=List.mem_map.mp (hp.mem_iff.mp hv)
  exact xN v9 he
 have lb:(vs.map strOf).Perm (es.toList.map fun e=>strOf e.2):=by
  have:=hp.map strOf
  rwa [List.map_map] at this
 have hlen:vs.length<64:=by rw[hp.length_eq];simpa using E7
 refine tQ (s:={s with heap:=h1,drawn:=d,toks:=tk}) Cq hlen fun h' out ys e p k2 S7 EY EU B2 MK=>?_
 refine h h' d tk out ys e p (fun b o q=>k2 b o (k1 b o q)) (Nat.le_trans XR S7) EY EU (k9 MK ((B2.trans lb).nodup_iff.mpr hz.1)) fun x=>?_
 rw[(B2.trans lb).mem_iff]
 exact hz.2 x
end
section
variable {X:Cx}{pins:List (Addr×Obj)}{σ:St}{H:Hp}{s:Shared}
theorem Inv.N8{h':Heap}{a:Addr}{o:HO}{t':Nat}{d':Drawn}(I:Inv X pins σ H s)(k:∀b u,s.heap.get? b=some u->h'.get? b=some u)(hp:s.heap.objs.size<=a)(new:d8 X.prog X.w (upd H a o) h' a o):Inv X pins σ (upd H a o) {s with heap:=h',drawn:=d',toks:=t'}:=
 I.call (g':=s.gens) (ch:=[]) (Un.laid k hp (I.cb.fresh hp)) (I.cb.laid k hp new) I.bare fun _ z=>nomatch z
def wO(X:Cx)(p:Addr)(xs:List Str):HO:=.ext fun h=>∃es ep,SG X.prog X.w h p es ep/\Kz es xs
theorem GA{xs:List Str}:∀{its:List Value},Vals (xs.map V.str) its->StrsAre its xs:=by
 induction xs with
 |nil=>intro its h;cases h;exact .nil
 |cons x xs ih=>
  intro its h
  cases h with
  |cons r t=>obtain⟨tk,rfl⟩:=r;exact .cons x tk (ih t)
theorem zJ{its:List Value}{xs:List Str}(h:StrsAre its xs):Vals (xs.map V.str) its:=by
 induction h with
 |nil=>exact .nil
 |cons y t _ ih=>exact .cons ⟨t,rfl⟩ ih
theorem Ci(hh:X.A.handled=none):gT X (.type "set") (fun vs H Q=>∃(l:Addr) (xs:List Str),vs=[.ref l]/\je X.K H l (xs.map V.str)/\xs.length<=4000/\∀p,H p=none->Q (.ref p) (upd H p (wO X p xs))):=by
 intro pins s σ H vs us Q I r ⟨l,xs,e,hl,hx,q⟩
 subst e
 obtain⟨u,rfl,ru⟩:=vals1 r
 cases ru
 obtain⟨its,rel,pl,_⟩:=I.list hl
 have hlen:=rel.length
 rw[List.length_map] at hlen
 have hb:its.toArray.size+1<scanBound:=by rw[List.size_toArray,<-hlen];show _<4096;omega
 refine s9 (prog:=X.prog) (w:=X.w) hh pl.isList (GA rel) hb fun h' tk hS k=>?_
 refine⟨.ref s.heap.objs.size,_,I.laid (t':=tk) (o:=wO X s.heap.objs.size xs) (fun b o e=>k b o (Heap.lt_size e) e) (Nat.le_refl _) ?_,rfl,q _ I.fresh⟩
 refine⟨hS,?_,fun h1 h2 ⟨es,ep,q1,q2⟩ kk=>⟨es,ep,q1.at kk,q2⟩⟩
 obtain⟨es,ep,q1,_⟩:=hS
 obtain⟨o,_,ho,_⟩:=q1.ex
 exact⟨o,ho⟩
theorem zA(hh:X.A.handled=none):gT X (.builtin "sorted") (fun vs H Q=>∃(a:Addr) (xs:List Str),vs=[.ref a]/\H a=some (wO X a xs)/\xs.length<=4000/\(∀zs:List Str,zs.Nodup->(∀z∈zs,z∈xs)->zs.length<64)/\∀(p:Addr) (ys:List Str),H p=none->ys.Pairwise slt->(∀x,x∈ys↔x∈xs)->Q (.ref p) (upd H p (.lst (ys.map V.str)))):=by
 intro pins s σ H vs us Q I r ⟨a,xs,e,ha,hx,E7,q⟩
 subst e
 obtain⟨u,rfl,ru⟩:=vals1 r
 cases ru
 obtain⟨⟨es,ep,hS,hz⟩,_⟩:=I.cb a _ ha
 have TY:es.size<64:=by
  have:=E7 _ hz.1 fun z SK=>(hz.2 z).mp SK
  simpa using this
 refine yB hh hS hz TY fun h' d tk out ys e p k hp EY EU MK kX=>?_
 have XT:ys.length<=4000:=Nat.le_trans (gL ys xs (MK.imp fun z=>J2 z) fun x hx=>(kX x).mp hx) hx
 refine⟨.ref p,_,I.N8 (t':=tk) (d':=d) (o:=.lst (ys.map V.str)) k hp ?_,rfl,q p ys (I.cb.fresh hp) MK kX⟩
 have SX:(4000:Nat)<=sizeLine:=by rw[sizeLine_eq];omega
 exact⟨by rw[List.length_map];omega,out.toList,e,zJ EU,by rw[Array.toArray_toList];exact EY⟩
end
end L2
end
section
namespace VS
open PySem L2
def iY(ua:UB):UB:=fun env Q=>ua env fun r e=>∃(o:Bool) (xs:List Str),r.at e=some (.lst o (xs.map D.str))/\xs.length<=4000/\(∀zs:List Str,zs.Nodup->(∀z∈zs,z∈xs)->zs.length<64)/\∀ys:List Str,ys.Pairwise slt->(∀x,x∈ys↔x∈xs)->Q (.a8 (.lst true (ys.map D.str))) e
theorem tY{Z:Set}{H:Hp}{F:Set}:∀{xs:List Str}{vs:List V},ar Z H (xs.map D.str) vs F->vs=xs.map V.str
 | [],vs,h=>ba.mp h
 |x::xs,vs,h=>by
  obtain⟨v,r,F1,F2,rfl,h1,h2,_⟩:=aF.mp h
  rw[dN.mp h1,tY h2];rfl
theorem ny{Z:Set}{H:Hp}:∀{xs:List Str},ar Z H (xs.map D.str) (xs.map V.str) cE
 | []=>ba.mpr rfl
 |x::xs=>aF.mpr ⟨_,_,cE,cE,rfl,dN.mpr rfl,ny,fun _ z=>z,fun _ z=>z,fun _ z=>z.elim⟩
abbrev ND(X:Cx):List V->Hp->VK->Prop:=fun vs H Q=>∃(l:Addr) (xs:List Str),vs=[.ref l]/\je X.K H l (xs.map V.str)/\xs.length<=4000/\∀p,H p=none->Q (.ref p) (upd H p (wO X p xs))
abbrev Kd(X:Cx):List V->Hp->VK->Prop:=fun vs H Q=>∃(a:Addr) (xs:List Str),vs=[.ref a]/\H a=some (wO X a xs)/\xs.length<=4000/\(∀zs:List Str,zs.Nodup->(∀z∈zs,z∈xs)->zs.length<64)/\∀(p:Addr) (ys:List Str),H p=none->ys.Pairwise slt->(∀x,x∈ys↔x∈xs)->Q (.ref p) (upd H p (.lst (ys.map V.str)))
theorem wH{X:Cx}{t:TE}{u:UB}(h:aY t u):aY (Gx (Kd X) (k7 (Gx (ND X) (k7 t wF)) wF)) (iY u):=by
 intro σ env Z H φ Q R O q k
 refine h σ env Z H φ _ _ O q fun r aL v Z1 H1 bI G1 ⟨o,xs,e,hx,E7,q1⟩ O1 r1 jh=>?_
 obtain⟨F,ho⟩:=eh O1 jh e
 obtain⟨a,vs,rfl,hr,hl⟩:=fF ho
 refine⟨a,xs,rfl,.inl (by rw[<-tY hl];exact hr),hx,fun p hp=>?_⟩
 refine⟨p,xs,rfl,aB,hx,E7,fun p2 ys ET hs hm=>?_⟩
 have s1:=cf.upd (H:=H1) (o:=wO X p xs) hp
 have s2:=cf.upd (H:=upd H1 p (wO X p xs)) (o:=.lst (ys.map V.str)) ET
 have yL:cf H1 (upd (upd H1 p (wO X p xs)) p2 (.lst (ys.map V.str))):=fun b o e=>s2 b o (s1 b o e)
 have Ta:H1 p2=none:=by
  cases e:H1 p2 with
  |none=>rfl
  |some y=>rw[s1 p2 y e] at ET;cases ET
 have n:=iV.lst (Z:=Z1) Ta yL aB (ny (Z:=Z1) (H:=H1) (xs:=ys))
 exact k (.a8 _) aL _ Z1 _ bI _ (q1 ys hs hm) (O1.grow yL) (n.res O1 r1.drop) n.own
section
variable {X:Cx}{e:Expr}{ua:UB}{p p2 pos Ko:Pos}
theorem yk(hh:X.A.handled=none)(hg:Gl X "sorted")(hm:X.mg "sorted" = none)(Ts:Gl X "set")(Cr:X.mg "set" = none)(h:VE X e ua)(h1:aH e=true:=by rfl) :
  VE X (.Call (.Name "sorted" p) [.Call (.Name "set" p2) [e] [] Ko] [] pos) (iY ua):=
 let ⟨_,q,s⟩:=h.ex;⟨_,vT (zA hh) hg hm PyProof.Rows.boot_sorted (IZ (AF (Ci hh) Ts Cr (by decide +kernel) (IZ q lD h1) (by decide) (by decide) h1 rfl) lD rfl) (by decide) (by decide) rfl rfl,wH s⟩
end
end VS
end
section
namespace VS
open PySem L2
def RK(i j:Nat)(ua:UA):US:=fun E env=>ua env fun rs e=>∃d1 d2,rs=[.a8 d1,.a8 d2]/\bare d1=true/\bare d2=true/\i<e.length/\j<e.length/\E.nx ((e.set i (some d1)).set j (some d2))
section
variable {I:Nat->Bool}{X:Cx}{a b:Expr}{wa:UA}{x y:Str}{i j:Nat}{px py pt pos:Pos}{kt k2 ZU}
end
end VS
end
section
namespace VS
open PySem L2
section
variable {env:ai}{Q:Ref->ai->Prop}{QI:List D->ai->Prop}{E:cV}{ua ub uk:UB}{wa:UA}{ul uh:UO}{i j:Nat}{ms:List Bool}{P:D->Prop}{d d1:D}{o b:Bool}{ks:List DK}{ds:List D}
end
end VS
end
section
namespace VS
open PySem L2
class Wk (P:Prop) (Q:outParam Prop):Prop where
 go:Q->P
instance Rx {env:ai}{Q:List Ref->ai->Prop}:Wk (ao  env Q) (Q [] env):=⟨id⟩
instance Ql {u:UB}{w:UA}{env:ai}{Q:List Ref->ai->Prop}:Wk (ae u w env Q) (u env fun r e=>w e fun rs e2=>Q (r::rs) e2):=⟨id⟩
instance Qj {i:Nat}{env:ai}{Q:Ref->ai->Prop}:Wk (a7 i env Q) (∃d,env[i]? = some (some d)/\bare d=true/\Q (.a8 d) env):=⟨id⟩
instance P' {i:Nat}{env:ai}{Q:Ref->ai->Prop}:Wk (eZ i env Q) (∃d,env[i]? = some (some d)/\Q (.a8 d) (env.set i none)):=⟨id⟩
instance W0 {d:D}{env:ai}{Q:Ref->ai->Prop}:Wk (uC d env Q) (Q (.a8 d) env):=⟨id⟩
instance MA {i:Nat}{env:ai}{Q:Ref->ai->Prop}:Wk (aa i env Q) (∃d,env[i]? = some (some d)/\Q (.var i) env):=⟨id⟩
instance Qb {ua ub uc:UB}{env:ai}{Q:Ref->ai->Prop}:Wk (wC ua ub uc env Q) (ua env fun r1 e1=>(∃o t ks ds,r1.at e1=some (.cy o t ks ds))/\ub e1 fun r2 e2=>uc e2 fun r3 e3=>∃d1 d2 d3,r1.at e3=some d1/\r2.at e3=some d2/\r3.at e3=some d3/\zq [d1,d2,d3] fun d=>Q (.a8 d) e3):=⟨id⟩
instance Rm {ua:UA}{env:ai}{Q:Ref->ai->Prop}:Wk (gf ua env Q) (ua env fun rs e=>∃ds,uV rs=some ds/\ds.length<=1000000/\Q (.a8 (.tup ds)) e):=⟨id⟩
instance Rz {ua:UA}{env:ai}{Q:Ref->ai->Prop}:Wk (cW ua env Q) (ua env fun rs e=>∃ds,uV rs=some ds/\ds.length<=1000000/\Q (.a8 (.lst true ds)) e):=⟨id⟩
instance PR {ua:UB}{env:ai}{Q:Bool->ai->Prop}:Wk (aN ua env Q) (ua env fun r e=>∃b,r=.a8 (.bl b)/\Q b e):=⟨id⟩
instance Rw {t:UT}{env:ai}{Q:Bool->ai->Prop}:Wk (ym t env Q) (t env fun b e=>Q (!b) e):=⟨id⟩
instance RI {t u:UT}{env:ai}{Q:Bool->ai->Prop}:Wk (qb t u env Q) (t env fun b e=>if b=true then u e Q else Q false e):=⟨id⟩
instance Ux {t u:UT}{env:ai}{Q:Bool->ai->Prop}:Wk (W7 t u env Q) (t env fun b e=>if b=true then Q true e else u e Q):=⟨id⟩
instance Nb {ua:UB}{env:ai}{Q:Bool->ai->Prop}:Wk (lx ua env Q) (ua env fun r e=>∃d b,r.at e=some d/\RQ d=some b/\Q b e):=⟨id⟩
instance Qo {ua ub:UB}{env:ai}{Q:Ref->ai->Prop}:Wk (zN ua ub env Q) (ua env fun r e=>∃c,r=.a8 (.bl c)/\if c=true then ub e Q else Q (.a8 (.bl false)) e):=⟨id⟩
instance Rv {ua ub:UB}{env:ai}{Q:Ref->ai->Prop}:Wk (RL ua ub env Q) (ua env fun r e=>∃c,r=.a8 (.bl c)/\if c=true then Q (.a8 (.bl true)) e else ub e Q):=⟨id⟩
instance P0 {ua:UB}{env:ai}{Q:Ref->ai->Prop}:Wk (Nn ua env Q) (ua env fun r e=>∃c,r=.a8 (.bl c)/\Q (.a8 (.bl (!c))) e):=⟨id⟩
instance Uy {t:UT}{ua ub:UB}{env:ai}{Q:Ref->ai->Prop}:Wk (zK t ua ub env Q) (t env fun b e=>if b=true then ua e Q else ub e Q):=⟨id⟩
instance Rq {a b:US}{D:cV}{env:ai}:Wk (aC a b D env) (a {D with nx:=b D} env):=⟨id⟩
instance P_ {D:cV}{env:ai}:Wk (cg  D env) (D.nx env):=⟨id⟩
instance RF {D:cV}{env:ai}:Wk (RM  D env) (D.bk env):=⟨id⟩
instance Qk {D:cV}{env:ai}:Wk (zM  D env) (D.ct env):=⟨id⟩
instance Rr {ua:UB}{D:cV}{env:ai}:Wk (bO ua D env) (ua env fun r e=>∃d,r=.a8 d/\D.rt d e):=⟨id⟩
instance PY {D:cV}{env:ai}:Wk (Nm  D env) (D.rt .bJ env):=⟨id⟩
instance Qf {ua:UB}{D:cV}{env:ai}:Wk (zL ua D env) (ua env fun _ e=>D.nx e):=⟨id⟩
instance RB {t:UT}{a b:US}{D:cV}{env:ai}:Wk (di t a b D env) (t env fun c e=>if c=true then a D e else b D e):=⟨id⟩
instance Qd {ds:List D}{env:ai}{k:ai->Prop}:Wk (fO  ds env k) (ds=[]/\k env):=⟨id⟩
instance Nc {g:UG}{gs:Cu}{ds:List D}{env:ai}{k:ai->Prop}:Wk (bC g gs ds env k) (∃d r,ds=d::r/\g d env fun e=>gs r e k):=⟨id⟩
instance Qc {n:Nat}{gs:Cu}{d:D}{env:ai}{k:ai->Prop}:Wk (fN n gs d env k) (∃ds,d=.tup ds/\ds.length=n/\gs ds env k):=⟨id⟩
instance RH {ua:UB}{g:UG}{E:cV}{env:ai}:Wk (aX ua g E env) (ua env fun r e=>∃d,r=.a8 d/\g d e E.nx):=⟨id⟩
instance RG {i:Nat}{f:Int->Int->Int}{ua:UB}{E:cV}{env:ai}:Wk (CW i f ua E env) (∃a,env[i]? = some (some (.int a))/\ua env fun r e=>∃b,r=.a8 (.int b)/\i<e.length/\E.nx (e.set i (some (.int (f a b))))):=⟨id⟩
instance Ng {p q:Int->Int->Bool}{ua ub uc:UB}{env:ai}{Q:Ref->ai->Prop}:Wk (nj p q ua ub uc env Q) (ua env fun r1 e1=>ub e1 fun r2 e2=>∃i j,r1=.a8 (.int i)/\r2=.a8 (.int j)/\if p i j=true then uc e2 fun r3 e3=>∃k,r3=.a8 (.int k)/\Q (.a8 (.bl (q j k))) e3 else Q (.a8 (.bl false)) e2):=⟨id⟩
instance RC {ui:UI}{ug:UG}{ub:US}{E:cV}{env:ai}:Wk (eC ui ug ub E env) (ui env fun items e=>pL ug ub E items e):=⟨id⟩
instance PX {ua:UA}{env:ai}{Q:List D->ai->Prop}:Wk (fw ua env Q) (ua env fun rs e=>∃n:Int,rs=[.a8 (.int n)]/\-(2 ^ 62)<=n/\n<2 ^ 62/\Q (ff 0 n.toNat) e):=⟨id⟩
instance MD {i:Nat}{ua:UA}{E:cV}{env:ai}:Wk (cB i ua E env) ((∃ds,env[i]? = some (some (.lst true ds)))/\ua env fun rs e=>∃d ds,rs=[.a8 d]/\e[i]? = some (some (.lst true ds))/\ds.length<=1000000/\E.nx (e.set i (some (.lst true (ds++[d]))))):=⟨id⟩
instance Qn {ms:List Bool}{m:fH}{ua:UA}{env:ai}{Q:Ref->ai->Prop}:Wk (aA ms m ua env Q) (ua env fun rs e=>∃ds,pass ms e rs=some ds/\iU (cx ms rs)=true/\apart (cx ms rs) ms rs=true/\m ds fun d es=>eJ d=true/\sU es=true/\Q (.a8 d) (fg ms rs es e)):=⟨id⟩
instance Rk {env:ai}{Q:Bool->ai->Prop}:Wk (lu  env Q) (Q true env):=⟨id⟩
instance Qg {i:Nat}{uy uv:UB}{E:cV}{env:ai}:Wk (iZ i uy uv E env) (uv env fun r1 e1=>(∃d0,e1[i]? = some (some d0))/\uy e1 fun r2 e2=>∃d kd t ks ds k,r1=.a8 d/\r2.at e2=some kd/\e2[i]? = some (some (.cy true t ks ds))/\keyOf t kd=some k/\ds.length<=1000000/\E.nx (e2.set i (some (.cy true t (dput ks ds k d).1 (dput ks ds k d).2)))):=⟨id⟩
instance PU {i:Nat}{uk uv:UB}{E:cV}{env:ai}:Wk (tK i uk uv E env) (uv env fun r1 e1=>(∃d0,e1[i]? = some (some d0))/\uk e1 fun r2 e2=>∃d k j ds,r1=.a8 d/\r2=.a8 (.int k)/\e2[i]? = some (some (.lst true ds))/\xy ds.length k=some j/\E.nx (e2.set i (some (.lst true (ds.set j d))))):=⟨id⟩
instance Rt {i:Nat}{env:ai}{Q:Ref->ai->Prop}:Wk (CV i env Q) (∃ds d,env[i]? = some (some (.lst true ds))/\ds[ds.length-1]? = some d/\bare d=true/\Q (.a8 d) (env.set i (some (.lst true ds.dropLast)))):=⟨id⟩
instance JE {i:Nat}{E:cV}{env:ai}:Wk (jX i E env) (∃ds,env[i]? = some (some (.lst true ds))/\E.nx (env.set i (some (.lst true ds.reverse)))):=⟨id⟩
instance MC {i:Nat}{ua:UA}{E:cV}{env:ai}:Wk (iH i ua E env) ((∃ds,env[i]? = some (some (.lst true ds)))/\ua env fun rs e=>∃xs ds,rs=[.a8 (.lst true xs)]/\a9 xs=true/\e[i]? = some (some (.lst true ds))/\ds.length+xs.length<=1000000/\E.nx (e.set i (some (.lst true (ds++xs))))):=⟨id⟩
instance MB {env:ai}{Q:Option Int->ai->Prop}:Wk (hE  env Q) (Q none env):=⟨id⟩
instance PZ {u:UB}{env:ai}{Q:Option Int->ai->Prop}:Wk (l0 u env Q) (u env fun r e=>∃i,r=.a8 (.int i)/\Q (some i) e):=⟨id⟩
instance Uw {ua:UB}{ul uh:UO}{env:ai}{Q:Ref->ai->Prop}:Wk (Nk ua ul uh env Q) (ua env fun r e1=>ul e1 fun lo e2=>uh e2 fun hi e3=>∃o ds,r.at e3=some (.lst o ds)/\a9 ds=true/\Q (.a8 (.lst true (eA ds lo hi))) e3):=⟨id⟩
instance Qi {t:Bool}{env:ai}{Q:Ref->ai->Prop}:Wk (wD t env Q) (Q (.a8 (.cy true t [] [])) env):=⟨id⟩
instance Nd {uk uv:UB}{env:ai}{Q:Ref->ai->Prop}:Wk (nh uk uv env Q) (uk env fun r1 e1=>uv e1 fun r2 e2=>∃kd k d,r1=.a8 kd/\DH kd=some k/\r2=.a8 d/\Q (.a8 (.cy true false [.s k] [d])) e2):=⟨id⟩
instance Uz {f:List D->(D->Prop)->Prop}{ua:UA}{env:ai}{Q:Ref->ai->Prop}:Wk (pR f ua env Q) (ua env fun rs e=>∃ds,r_ e rs=some ds/\f ds fun d=>Q (.a8 d) e):=⟨id⟩
instance RE {f:D->(D->Prop)->Prop}{ua:UB}{env:ai}{Q:Ref->ai->Prop}:Wk (pb f ua env Q) (ua env fun r1 e1=>∃d1,r1.at e1=some d1/\f d1 fun d=>Q (.a8 d) e1):=⟨id⟩
instance RD {f:D->D->(D->Prop)->Prop}{ua ub:UB}{env:ai}{Q:Ref->ai->Prop}:Wk (aj f ua ub env Q) (ua env fun r1 e1=>ub e1 fun r2 e2=>∃d1 d2,r1.at e2=some d1/\r2.at e2=some d2/\f d1 d2 fun d=>Q (.a8 d) e2):=⟨id⟩
instance Rn {f:ai->Ref->Option (List D)}{ua:UB}{env:ai}{Q:List D->ai->Prop}:Wk (dI f ua env Q) (ua env fun r e=>∃ds,f e r=some ds/\Q ds e):=⟨id⟩
instance Qe {f:ai->Ref->Option (List D)}{ua:UB}{env:ai}{Q:List D->ai->Prop}:Wk (oD f ua env Q) (ua env fun r e=>∃ds,f e r=some ds/\Q (ck 0 ds) e):=⟨id⟩
instance Qm {n:Nat}{ui:UI}{ug:UG}{ut:UT}{ul:UL (List D)}{env:ai}{Q:Ref->ai->Prop}:Wk (fP n ui ug ut ul env Q) (ui env fun items e=>ef ug ut ul (fun acc e'=>Q (.a8 (.lst true acc)) (e'.drop n)) items [] (List.replicate n none++e)):=⟨id⟩
instance Nf {t:Bool}{n:Nat}{ui:UI}{ug:UG}{ut:UT}{ul:UL (pO t)}{env:ai}{Q:Ref->ai->Prop}:Wk (ni t n ui ug ut ul env Q) (ui env fun items e=>ef ug ut ul (fun acc e'=>Q (.a8 (.cy true t acc.ks acc.ds)) (e'.drop n)) items ⟨[],[]⟩ (List.replicate n none++e)):=⟨id⟩
instance PQ {ue:UB}{acc:List D}{e:ai}{k:List D->ai->Prop}:Wk (fE ue acc e k) (ue e fun r e4=>∃d,r=.a8 d/\acc.length<=1000000/\k (acc++[d]) e4):=⟨id⟩
instance Na {t:Bool}{uk uv:UB}{acc:pO t}{e:ai}{k:pO t->ai->Prop}:Wk (kf uk uv acc e k) (uk e fun r1 e1=>uv e1 fun r2 e2=>∃kd kk d,r1=.a8 kd/\keyOf t kd=some kk/\r2=.a8 d/\acc.ds.length<=1000000/\k ⟨(dput acc.ks acc.ds kk d).1,(dput acc.ks acc.ds kk d).2⟩ e2):=⟨id⟩
instance Nh {ms:List Bool}{m:fH}{ua:UA}{env:ai}{Q:Ref->ai->Prop}:Wk (p' ms m ua env Q) (ua env fun rs e=>∃ds,mq e rs=some ds/\ds.length=ms.length/\m ds fun d es=>Q (.a8 d) e):=⟨id⟩
instance Rp {L:Addr->List Int->Prop}{ua:UB}{ul uh:UO}{env:ai}{Q:Ref->ai->Prop}:Wk (Gq L ua ul uh env Q) (ua env fun r e1=>ul e1 fun lo e2=>uh e2 fun hi e3=>(∃o ds,r.at e3=some (.lst o ds)/\a9 ds=true/\Q (.a8 (.lst true (eA ds lo hi))) e3)\/∃a ns,r.at e3=some (.fn a)/\L a ns/\Q (.a8 (.lst true (eA (ns.map .int) lo hi))) e3):=⟨id⟩
instance JD {ua:UB}{env:ai}{Q:Ref->ai->Prop}:Wk (iY ua env Q) (ua env fun r e=>∃(o:Bool) (xs:List Str),r.at e=some (.lst o (xs.map D.str))/\xs.length<=4000/\(∀zs:List Str,zs.Nodup->(∀z∈zs,z∈xs)->zs.length<64)/\∀ys:List Str,ys.Pairwise slt->(∀x,x∈ys↔x∈xs)->Q (.a8 (.lst true (ys.map D.str))) e):=⟨id⟩
section
variable {o o' t:Bool}{ds xs ys:List D}{ks:List DK}{i j k:Int}{x y:Str}{b c:Bool}{P:D->Prop}{d d1 d2:D}{a:Addr}{g:Int->Int->D}{C:Int->Int->Prop}{h1:Int->D}
instance PL :Wk (fI C g (.int i) (.int j) P) ((C i j/\P (g i j))):=⟨id⟩
instance M7 :Wk (kZ g (.int i) (.int j) P) (P (g i j)):=⟨id⟩
instance PJ :Wk (fU h1 (.int i) P) (P (h1 i)):=⟨id⟩
instance M8 :Wk (kc b d d1 P) ((∃k,sY d d1=some k/\P (.bl (if b then !k else k)))):=⟨id⟩
instance Mw :Wk (Fd b d P) (P (.bl (if b then !xA d else xA d))):=⟨id⟩
instance M4 :Wk (dz (.lst o ds) (.int k) P) ((∃d,g_ ds k=some d/\bare d=true/\P d)):=⟨id⟩
instance M0 :Wk (bc (.tup ds) (.int k) P) ((∃d,g_ ds k=some d/\bare d=true/\P d)):=⟨id⟩
instance M3 :Wk (zp (.str x) (.int k) P) ((x.length<=1000000/\∃c,g_ x.cps.toList k=some c/\P (.str ⟨#[c]⟩))):=⟨id⟩
instance Mx :Wk (oR (.cy o t ks ds) d P) ((∃k d',keyOf t d=some k/\bQ ks ds k=some d'/\bare d'=true/\P d')):=⟨id⟩
instance M_ :Wk (jy b d (.cy o t ks ds) P) ((∃k,keyOf t d=some k/\P (.bl (if b then !(bQ ks ds k).isSome else(bQ ks ds k).isSome)))):=⟨id⟩
instance JB :Wk (zq [.cy o t ks ds,d,d1] P) ((∃k,keyOf t d=some k/\bare ((bQ ks ds k).getD d1)=true/\P ((bQ ks ds k).getD d1))):=⟨id⟩
instance Mt :Wk (jU [.lst o ds] P) (P (.int ds.length)):=⟨id⟩
instance Ms :Wk (jU [.tup ds] P) (P (.int ds.length)):=⟨id⟩
instance Mr :Wk (OX [.str x] P) ((x.length<=1000000/\P (.int x.length))):=⟨id⟩
instance Mq :Wk (Fb (.str x) (.int k) P) ((0<=k/\k<=1000/\x.length<=1000/\P (.str (Txt.mul x k)))):=⟨id⟩
instance Mz :Wk (uu (.str x) (.str y) P) ((x.length+y.length<=1000000/\P (.str (x++y)))):=⟨id⟩
instance M' :Wk (Ca (.lst true xs) (.lst true ys) P) ((a9 xs=true/\a9 ys=true/\xs.length+ys.length<=1000000/\P (.lst true (xs++ys)))):=⟨id⟩
instance MZ :Wk (kM [.lst o ds] P) ((a9 ds=true/\P (.lst true ds))):=⟨id⟩
instance MY :Wk (kM [.tup ds] P) ((a9 ds=true/\P (.lst true ds))):=⟨id⟩
instance M6 :Wk (Im b d (.lst o ds) P) ((flat d=true/\ds.all flat=true/\P (.bl (if b then !(ds.any fun x=>oj x d) else ds.any fun x=>oj x d)))):=⟨id⟩
instance M5 :Wk (Im b d (.tup ds) P) ((flat d=true/\ds.all flat=true/\P (.bl (if b then !(ds.any fun x=>oj x d) else ds.any fun x=>oj x d)))):=⟨id⟩
instance Mv :Wk (OY [.int i] P) (P (.int i)):=⟨id⟩
instance Mu :Wk (OY [.bl b] P) (P (.int (if b then 1 else 0))):=⟨id⟩
instance PM :Wk (pZ [.cy o false ks ds] P) ((a9 ds=true/\P (.cy true false ks ds))):=⟨id⟩
end
section
variable {env:ai}{Q:Ref->ai->Prop}{QI:List D->ai->Prop}{E:cV}{ua ub uk:UB}{wa:UA}{ul uh:UO}{i j:Nat}{ms:List Bool}{P:D->Prop}{d d1:D}{o b:Bool}{ks:List DK}{ds:List D}
instance RA {t:FC}:Wk (yn t ua env Q) (ua env fun r e=>∃d b,r.at e=some d/\Lj t d=some b/\Q (.a8 (.bl b)) e):=⟨id⟩
instance Ro :Wk (AZ ua ul uh env Q) (ua env fun r e1=>ul e1 fun lo e2=>uh e2 fun hi e3=>∃ds,r.at e3=some (.tup ds)/\a9 ds=true/\¬(HT.eQ ds.length 0 lo=0/\HT.eQ ds.length ds.length hi=ds.length)/\Q (.a8 (.tup (eA ds lo hi))) e3):=⟨id⟩
instance PV :Wk (Nl wa env QI) (wa env fun rs e=>∃i j:Int,rs=[.a8 (.int i),.a8 (.int j)]/\-(2 ^ 62)<=i/\i<2 ^ 62/\-(2 ^ 62)<=j/\j<2 ^ 62/\QI (ff i (j-i).toNat) e):=⟨id⟩
instance Ry {neg:Bool}{ks:List Str}:Wk (wA neg ks ua env Q) (ua env fun r e=>∃x,r.at e=some (.str x)/\Q (.a8 (.bl (if neg then !ks.contains x else ks.contains x))) e):=⟨id⟩
instance Qa {A:List (Str×Addr)}:Wk (wB A ua env Q) (ua env fun r e=>∃x a,r.at e=some (.str x)/\A.lookup x=some a/\Q (.a8 (.fn a)) e):=⟨id⟩
instance Ni {S:Addr->fH->Prop}:Wk (qa i S ms wa env Q) (∃a m,env[i]? = some (some (.fn a))/\S a m/\aA ms m wa env Q):=⟨id⟩
instance Qh :Wk (Np i uk env Q) ((∃o t ks ds,env[i]? = some (some (.cy o t ks ds)))/\uk env fun r e=>∃kd k ks ds d,r.at e=some kd/\DH kd=some k/\e[i]? = some (some (.cy true false ks ds))/\bQ ks ds (.s k)=some d/\bare d=true/\Q (.a8 d) (e.set i (some (.cy true false (gR ks ds (.s k)).1 (gR ks ds (.s k)).2)))):=⟨id⟩
instance Ru :Wk (RK i j wa E env) (wa env fun rs e=>∃d1 d2,rs=[.a8 d1,.a8 d2]/\bare d1=true/\bare d2=true/\i<e.length/\j<e.length/\E.nx ((e.set i (some d1)).set j (some d2))):=⟨id⟩
instance M9 :Wk (Fe b d d1 P) (eR 60 d=true/\eR 60 d1=true/\P (.bl (if b then !eqT d d1 else eqT d d1))):=⟨id⟩
instance JC :Wk (vM (.cy o false ks ds) P) (a9 ds=true/\P (.cy true false ks ds)):=⟨id⟩
end
end VS
end
section
namespace VS
open PySem L2
def DC:D->Bool
 | .bJ | .bl _ | .int _ | .str _=>true
 |_=>false
def sX(env:ai):ai:=env.map fun o=>o.map aT
theorem Ok.all{Z:Set}{H:Hp}{env:ai}{σ:St}{φ:Nat->Set}(O:Ok Z H env σ φ):Ok (fun a=>Z a\/cQ φ a) H (sX env) σ (fun _ _=>False):=by
 refine⟨fun i d e=>?_,fun _ _ _ z=>z.elim,fun _ _ z=>z.elim,fun _ _ z=>z.elim,fun a z=>z.elim (O.zh a) fun⟨i,z⟩=>(O.fm i a z).ne,by simp[sX,O.len]⟩
 simp only[sX,List.getElem?_map,Option.map_eq_some_iff] at e
 obtain⟨o,e1,o',rfl,rfl⟩:=e
 obtain⟨v,hv,ho⟩:=O.own i _ e1
 exact⟨v,hv,((Own.aT _ ho).ig fun a z=>z.imp id fun z=>⟨i,z⟩).mono fun _ z=>z.elim⟩
theorem DP{Z Z':Set}{H H':Hp}{F' G:Set}(r:Res Z H (cQ fun _ _=>False) Z' H' F' G):cf H H':=fun a o e=>r.k a o e fun⟨_,z⟩=>z
def UE(u:UB):UB:=fun env Q=>u (sX env) fun r _=>∃d,r=.a8 d/\DC d=true/\Q (.a8 d) env
def uU(u:UT):UT:=fun env Q=>u (sX env) fun b _=>Q b env
theorem Bh{t:TT}{u:UT}(h:gS t u):gS t (uU u):=by
 intro σ env Z H φ Q R O q k
 refine h σ (sX env) _ H _ _ _ O.all q fun b aL Z1 H1 bI q1 O1 r1=>?_
 have s:=DP r1
 exact k b env Z H1 φ q1 (O.grow s) (Res.same s)
section
variable {X:Cx}{e:Expr}{ue:UB}{ut:UT}
theorem F3(h:VT X e ut):VT X e (uU ut):=let ⟨_,q,s⟩:=h.ex;⟨_,q,Bh s⟩
end
theorem H_{u:UT}{env:ai}{Q:Bool->ai->Prop}(h:u (sX env) fun b _=>Q b env):uU u env Q:=h
theorem kb{d:D}{env:ai}:sX (some d::env)=some (aT d)::sX env:=rfl
end VS
end
section
namespace L2
open PySem PySem.Spec PyProof.Rows
def IC(X:Cx)(t:TL):TL:=fun k τ H=>t (fun iD H'=>∃kQ,FT X H' kQ/\k iD kQ) τ H
theorem Kq{X:Cx}{inner:Sem Unit}{t:TL}(h:PN X inner t):PN X inner (IC X t):=by
 intro pins s τ H k I q
 refine cq (h pins s τ H _ I q) fun u s' hh=>?_
 obtain⟨iD,H',I',kQ,th,q'⟩:=hh
 exact⟨iD,kQ,I'.JT th,q'⟩
end L2
namespace VS
open PySem L2
section
variable {Z Z1 Z2:Set}{H H1 H2:Hp}{F F1 F2 G G1 G2:Set}
theorem Res.into(r1:Res Z H F Z1 H1 F1 G1)(r2:Res Z1 H1 (fun a=>F1 a\/G1 a) Z2 H2 F2 G2):Res Z H F Z2 H2 F2 G2:=by
 have kn:∀{a},(F1 a\/G1 a)\/H1 a=none->F a\/H a=none:=fun{a} h=>by
  rcases h with(h|h)|h
  ·exact r1.f a h
  ·exact r1.g a h
  ·exact r1.kn (.inr h)
 refine⟨fun a z=>r2.z a (r1.z a z),fun a z=>?_,fun a o e n=>?_,fun a z=>kn (r2.f a z),fun a z=>kn (r2.g a z),r2.d,r2.gz,r2.gm⟩
 ·rcases r2.zn a z with z|z|z
  ·exact r1.zn a z
  ·exact .inr (kn (.inl z))
  ·exact .inr (kn (.inr z))
 ·have e1:=r1.k a o e n
  refine r2.k a o e1 fun z=>?_
  rcases kn (.inl z) with z|z
  ·exact n z
  ·rw[z] at e;cases e
end
theorem oB.sw{Z Z':Set}{H H2 H' kQ:Hp}{a:Addr}{aw:List (Key×V)}(s1:Sw Z H H2 a aw)(k:oB Z H2 Z' H')(s2:Sw Z' H' kQ a aw)(ea:kQ a=H a):oB Z H Z' kQ:=by
 refine⟨k.z,fun b o e z=>?_,fun b vs e=>?_⟩
 ·by_cases q:b=a
  ·subst q;rw[ea];exact e
  ·rw[s2.k b q];exact k.k b o (by rw[s1.k b q];exact e) z
 ·by_cases q:b=a
  ·subst q;rw[ea];exact e
  ·rw[s2.k b q];exact k.t b vs (by rw[s1.k b q];exact e)
theorem wJ{α:Type} [Acc α] {I:Nat->Bool}{X:Cx}{p:Addr}{t:TE}{u:UB}{g:TG}{ug:UG}{tt:TT}{ut:UT}{tl:TL}{ul:UL α} (h:aY t u) (hg:jD I g ug) (ht:gS tt ut) (hl:mX I p tl ul):mX I p (IC X (pS (rh X t) g tt tl)) (hX (dI du u) ug ut ul):=by
 intro Z1 H1 F1 rZ acc e τ H Z φ A vs k K c q kk
 show pS (rh X t) g tt tl (fun iD H'=>∃kQ,FT X H' kQ/\K iD kQ) τ H
 refine xR h c.ok q fun items e1 Z' H' cJ a ob aw H2 q1 O1 r1 sw nf h2 cc w=>?_
 have c1:=c.next O1 r1 Kp.refl
 obtain⟨u0,X8,Y7⟩:=c1.at_
 have S7:¬Z' p:=c1.res.gz p (.inr rfl)
 have QX:p≠a:=fun z=>S7 (by rw[z];exact sw.z)
 have nA:¬A a:=fun z=>c1.res.gz a (.inl z) sw.z
 have O2:=O1.sw sw
 have base:Res Z' H2 (fun b=>cQ cJ b\/(A b\/b=p)) Z' H2 (cQ cJ) (fun b=>A b\/b=p):=by
  refine⟨fun _ z=>z,fun _ z=>.inl z,fun _ _ e _=>e,fun _ z=>.inl (.inl z),fun _ z=>.inl (.inr z),c1.res.d,c1.res.gz,fun b z=>?_⟩
  have YV:b≠a:=fun y=>by
   rcases z with z|z
   ·exact nA (by rw[<-y];exact z)
   ·exact QX (by rw[<-z,y])
  rw[sw.k b YV];exact c1.res.gm b z
 have c2:CS I Z' H2 (fun b=>cQ cJ b\/(A b\/b=p)) rZ p acc e1 τ H2 Z' cJ A vs:=⟨O2,base,⟨u0,by rw[sw.k p QX];exact X8,Y7⟩,ar.sw sw _ nA c1.own,c1.np,c1.kp⟩
 refine nC hg ht hl c2 w q1 fun f9 e' iD H3 Z3 yf A3 W5 kq c3 ke=>?_
 have nF:¬(cQ cJ a\/(A a\/a=p)):=fun z=>by
  rcases z with z|z|z
  ·exact nf z
  ·exact nA z
  ·exact QX z.symm
 obtain⟨H4,th,s2,ea⟩:=uW sw nF h2 cc c3.res
 refine⟨H4,th,kk f9 e' iD H4 Z3 yf A3 W5 kq ⟨c3.ok.sw s2,c1.res.into (c3.res.sw sw nF s2 ea),?_,?_,c3.np,c3.kp⟩ (((r1.Cp c.ok).trans (oB.sw sw ke s2 ea)))⟩
 ·obtain⟨u3,SR,Y6⟩:=c3.at_
  exact⟨u3,by rw[s2.k p QX];exact SR,Y6⟩
 ·exact ar.sw s2 _ (fun z=>c3.res.gz a (.inl z) s2.z) c3.own
end VS
end
section
namespace VS
open PySem L2
section
variable {α:Type} [Acc α] {I:Nat->Bool}{X:Cx}{e elt iter tg:Expr}{ifs:List Expr}{rest:List Comprehension}{d:Nat}{inner:Value->PySem.Env->Sem Unit}{ui:UI}{ue:UB}{ug uT:UG}{ut:UT}{ul:UL α}{sc:Scope}{pos jm py:Pos}{ks N2:List Str}{y:Str}
theorem AU(hl:VL I X inner ul)(hi:VI X tg iter ui)(hg:VG I X tg ug)(ht:AI X ifs ut)(hh:X.A.handled=none)(ce:oZ e)(vI:(clausesOf e)[d]? = some ⟨tg,iter,ifs,0⟩:=by rfl)
  (fX:∀p it,compTurn e d (.ref it) (.ref p) X.env=gi ⟨tg,iter,ifs,0⟩ (inner (.ref p) X.env) e d (.ref it) (.ref p) X.env:=by intro _ _;rfl) (hc:X.calm=true:=by rfl) (Lr:X.xe=fun _ _=>False:=by rfl) (hs:∀x,foldedSetIterable iter X.env x=pure x:=by intro _;rfl) :
  VL I X (fun acc env=>do
   let x <-eval iter env
   standAt iter.pos
   let x <-foldedSetIterable iter env x
   let _ <-runOwn (.compStart e d (<-holding [x] (pyIter x)) acc env) env) (hX ui ug ut ul):=⟨fun p=>
 let ⟨_,q1,s1⟩:=hi.ex;let ⟨_,q2,s2⟩:=hg.ex;let ⟨_,q3,s3⟩:=ht.ex;let ⟨_,q4,s4⟩:=hl.ex p;⟨_,tV ce vI (fX p) q1 q2 q3 q4 hc Lr hh hs,yH s1 s2 s3 s4⟩⟩
theorem yi(hl:VL I X inner ul)(hi:VE X iter ue)(hg:VG I X tg ug)(ht:AI X ifs ut)(hh:X.A.handled=none)(ce:oZ e)(vI:(clausesOf e)[d]? = some ⟨tg,iter,ifs,0⟩:=by rfl)
  (fX:∀p it,compTurn e d (.ref it) (.ref p) X.env=gi ⟨tg,iter,ifs,0⟩ (inner (.ref p) X.env) e d (.ref it) (.ref p) X.env:=by intro _ _;rfl) (hc:X.calm=true:=by rfl) (Lr:X.xe=fun _ _=>False:=by rfl) (hs:∀x,foldedSetIterable iter X.env x=pure x:=by intro _;rfl) :
  VL I X (fun acc env=>do
   let x <-eval iter env
   standAt iter.pos
   let x <-foldedSetIterable iter env x
   let _ <-runOwn (.compStart e d (<-holding [x] (pyIter x)) acc env) env) (hX (dI du ue) ug ut ul):=⟨fun p=>
 let ⟨_,q1,s1⟩:=hi.ex;let ⟨_,q2,s2⟩:=hg.ex;let ⟨_,q3,s3⟩:=ht.ex;let ⟨_,q4,s4⟩:=hl.ex p;⟨_,Kq (tV ce vI (fX p) (vk q1) q2 q3 q4 hc Lr hh hs),wJ s1 s2 s3 s4⟩⟩
end
section
variable {I:Nat->Bool}{X:Cx}{e elt iter tg:Expr}{ifs:List Expr}{rest:List Comprehension}{inner:Value->PySem.Env->Sem Unit}{ui:UI}{ue:UB}{ug uT:UG}{ut:UT}{ul:UL (List D)}{sc:Scope}{pos jm py:Pos}{ks N2:List Str}{y:Str}
theorem oC(hI:VG I X (.Name y py) uT)(S:vZ X sc ks N2)(hi:VI X tg iter ui)(hg:∀C s H fp pins,VG (outs ks.length) (dA X sc (ks++N2) C s H fp pins) tg ug)(ht:∀C s H fp pins,AI (dA X sc (ks++N2) C s H fp pins) ifs ut)(hl:∀C s H fp pins,VL (outs ks.length) (dA X sc (ks++N2) C s H fp pins) inner ul)(hc:X.calm=true:=by rfl)
  (fX:∀D it env,compTurn (.ListComp elt (⟨tg,iter,ifs,0⟩::rest) sc pos) 0 (.ref it) (.ref D) env=gi ⟨tg,iter,ifs,0⟩ (inner (.ref D) env) (.ListComp elt (⟨tg,iter,ifs,0⟩::rest) sc pos) 0 (.ref it) (.ref D) env:=by intro _ _ _;rfl)
  (B1:swapsWith (.ListComp elt (⟨tg,iter,ifs,0⟩::rest) sc pos) (some (.Name y py)) jm.line X.env=pure true:=by rfl) (hs:∀x,foldedSetIterable iter X.env x=pure x:=by intro _;rfl) :
  kr I X (.Assign [.Name y py] (.ListComp elt (⟨tg,iter,ifs,0⟩::rest) sc pos) jm) (aX (fP ks.length ui ug ut ul) uT):=let ⟨_,q,s⟩:=hi.ex;let ⟨_,q',s'⟩:=hI.ex;⟨_,qG (inner:=inner) S hc q fX q' B1 hs,l7 (ql s (rA hg ht hl)) s'⟩
end
theorem xF{α:Type}{ui:UI}{ug:UG}{ut:UT}{inner:UL α}{acc:α}{e:ai}{k:α->ai->Prop}(h:ui e fun items e1=>ef ug ut inner k items acc e1):hX ui ug ut inner acc e k:=h
end VS
end
section
namespace L2
open PySem PySem.Spec PyProof.Rows
theorem BW{P:Program}{w:World}{vs:List (Key×Value)}{xs:List Str}(h:vs.map (·.1)=xs.map Sum.inr){acc:Array Value}(kY:ItemsOf (fun i v=>∃k x,vs[i]? = some (k,x)/\(bA P w).is k v=true) acc vs.length):StrsAre acc.toList xs:=by
 have hl:xs.length=vs.length:=by have:=congrArg List.length h;simpa using this.symm
 have:∀(xs:List Str) (l:List Value) (n:Nat),l.length=xs.length->(∀(j:Nat) (v:Value),l[j]? = some v->∃(x:Str) (t:Tok),xs[j]? = some x/\v=Value.str x t)->StrsAre l xs:=by
  intro xs
  induction xs with
  |nil=>intro l n e _;rw[List.eq_nil_of_length_eq_zero e];exact .nil
  |cons x xs ih=>
   intro l n e q
   cases l with
   |nil=>simp at e
   |cons v l=>
    obtain⟨x',t,e1,rfl⟩:=q 0 v rfl
    cases (show some x=some x' from e1)
    exact .cons x t (ih l n (by simpa using e) fun j v hv=>q (j+1) v hv)
 refine this xs acc.toList 0 (by rw[Array.length_toList,kY.1,hl]) fun j v hv=>?_
 rw[Array.getElem?_toList] at hv
 obtain⟨k,x,e1,e2⟩:=kY.2 j v hv
 have e3:(vs.map (·.1))[j]? = some k:=by rw[List.getElem?_map,e1];rfl
 rw[h,List.getElem?_map] at e3
 cases e4:xs[j]? with
 |none=>rw[e4] at e3;cases e3
 |some y=>
  rw[e4] at e3
  cases (show some (Sum.inr y)=some k from e3)
  rcases cF (show oN (Sum.inr y) v=true from e2) with⟨i,t,q,_⟩|⟨z,t,q,rfl⟩
  ·cases q
  ·cases q;exact⟨y,t,rfl,rfl⟩
section
variable {prog:Program}{w:World}{A:Around}{E:Value->Shared->Prop}{s:Shared}{a:Addr}
theorem vO{aw:List (Key×Value)}{ep:Nat}{R:List Value->Shared->Prop}(hh:A.handled=none)(my:(a==sysModules)=false)(x:s.heap.DictAt (bA prog w) a aw ep)(hb:aw.length<=sizeLine)
  (h:∀(h':Heap) (tk:Nat) (acc:Array Value),(∀b o,s.heap.get? b=some o->h'.get? b=some o)->s.heap.objs.size<=h'.objs.size->ItemsOf (fun i v=>∃k x,aw[i]? = some (k,x)/\(bA prog w).is k v=true) acc aw.length->R acc.toList {s with heap:=h',toks:=tk}) :
  wpAny (model prog w) A (collect (.ref a)) R E s:=by
 obtain⟨oa,es,lS,_⟩:=id x
 have iM:a<s.heap.objs.size:=Heap.lt_size lS
 unfold collect
 refine wpAny_bind (wpAny_runValue (codeAny_builtin entry_proto_collect' ?_))
 rw[Around.under_plainId PySem.F.plain_proto_collect _]
 show wpAny _ A.in1 (newList [] >>= fun l=>again (.builtin "list.__iadd__" ⟨[l,.ref a],[]⟩)) _ _ s
 refine wpAny_bind (wpAny_newObj_type ?_)
 refine wpAny_pure ⟨plainId_quiet PySem.F.plain_list_iadd _,codeAny_builtin entry_list_iadd' ?_⟩
 rw[Around.under_plainId PySem.F.plain_list_iadd _]
 have rq:(s.heap.push {cls:=.type "list",data:=.seq ([]:List Value).toArray}).get? s.heap.objs.size=some {cls:=.type "list",data:=.seq #[]}:=Heap.get?_push_size _ rfl
 have x1:(s.heap.push {cls:=.type "list",data:=.seq ([]:List Value).toArray}).DictAt (bA prog w) a aw ep:=x.at' fun o e=>Heap.get?_push_of_some _ e
 show wpAny _ A.in1 (Builtin.List.listExtendWith (.ref s.heap.objs.size) (.ref a) (.ref s.heap.objs.size)) _ _ _
 unfold Builtin.List.listExtendWith
 refine wpAny_bind (wpAny_typeOf (T := "dict") x1.dictOf.typeIs ?_)
 have h1:Builtin.List.listSameRef (.ref s.heap.objs.size) (.ref a)=false:=by simp[Builtin.List.listSameRef,Nat.ne_of_gt iM]
 have n1:(Value.type "dict" == Value.type "list")=false:=by decide
 have n2:(Value.type "dict" == Value.type "tuple")=false:=by decide
 simp only[h1,n1,n2,Bool.or_false,Bool.false_eq_true,if_false]
 refine wpAny_bind (wpAny_pyIter_dict (s:={s with heap:=s.heap.push {cls:=.type "list",data:=.seq ([]:List Value).toArray}}) my x1 ?_)
 generalize Wa:(s.heap.push {cls:=.type "list",data:=.seq ([]:List Value).toArray}).objs.size=I
 have S2:I=s.heap.objs.size+1:=by rw[<-Wa,Heap.size_push]
 have rp:=Heap.get?_push_of_some {cls:=.type "dict_keyiterator",data:=.fields #[.ref a,.int 0 0,.int aw.length 0,.int ep 0]} rq
 have NA:(((s.heap.push {cls:=.type "list",data:=.seq ([]:List Value).toArray}).push {cls:=.type "dict_keyiterator",data:=.fields #[.ref a,.int 0 0,.int aw.length 0,.int ep 0]}).IsKeyIter I a 0 aw.length ep/\((s.heap.push {cls:=.type "list",data:=.seq ([]:List Value).toArray}).push {cls:=.type "dict_keyiterator",data:=.fields #[.ref a,.int 0 0,.int aw.length 0,.int ep 0]}).DictAt (bA prog w) a aw ep):=⟨⟨_,by rw[<-Wa];exact Heap.get?_push_size _ rfl,rfl,rfl⟩,x1.at' fun o e=>Heap.get?_push_of_some _ e⟩
 have Y5:a≠I:=by rw[S2];exact Nat.ne_of_lt (Nat.lt_succ_of_lt iM)
 have E6:s.heap.objs.size∉[I,a]:=fun z=>by
  rcases List.mem_cons.mp z with e|e
  ·rw[S2] at e;exact Nat.ne_of_lt (Nat.lt_succ_self _) e
  ·exact Nat.ne_of_gt iM (List.mem_singleton.mp e)
 refine wpAny_bind (wpAny_holding (PySem.W.kdl_hint_dict (NA.2.dictOf.typeIs (s:={s with heap:=(s.heap.push {cls:=.type "list",data:=.seq ([]:List Value).toArray}).push {cls:=.type "dict_keyiterator",data:=.fields #[.ref a,.int 0 0,.int aw.length 0,.int ep 0]}})) ?_))
 have W:=Walks.dictKeys (prog:=prog) (w:=w) (knd:=bA prog w) (A:=A.in1) hh I a Y5 aw ep
 have fin:∀(h2:Heap) (c₁ tk:Nat),(h2.IsKeyIter I a 0 aw.length ep/\h2.DictAt (bA prog w) a aw ep)->(∀b o,s.heap.get? b=some o->h2.get? b=some o)->h2.get? s.heap.objs.size=some {cls:=.type "list",data:=.seq #[] c₁} ->
   codeAny (model prog w) A (.builtin "list.extend.loop" ⟨[.ref s.heap.objs.size,.ref I,.ref s.heap.objs.size],[]⟩) (fun r s'=>match r with
    | .ok (.ret v)=>wpAny (model prog w) A (match v with
      | .ref a=>do match (<-load a).data with | .seq xs _=>pure xs.toList|_=>unsupported "internal:collect"
      |_=>unsupported "internal:collect") R E s'
    | .ok _=>False
    | .error e=>E e s') {s with heap:=h2,toks:=tk}:=by
  intro h2 c₁ tk zi hk rq
  refine codeAny_extend_loopS W.toS hb s.heap.objs.size E6 (.ref s.heap.objs.size) aw.length 0 _ #[] c₁ rfl (Nat.zero_le _) zi rq (ItemsOf.nil _) fun s' f9 c' hm B8 kY=>?_
  rw[Moved.eq_with hm]
  show wpAny _ A (load s.heap.objs.size >>= _) _ _ _
  refine wpAny_bind (wpAny_load B8 ?_)
  refine wpAny_pure (h s'.heap s'.toks f9 (fun b o e=>hm.heap b o (fun kX=>?_) (hk b o e)) (Nat.le_of_lt (Heap.lt_size B8)) kY)
  rcases List.mem_cons.mp kX with e'|kX
  ·exact absurd (Heap.lt_size e) (by rw[e'];exact Nat.lt_irrefl _)
  ·have h3:=Heap.lt_size e
   rw[List.mem_singleton.mp kX,S2] at h3
   exact Nat.lt_irrefl _ (Nat.lt_trans h3 (Nat.lt_succ_self _))
 have MI:∀b o,s.heap.get? b=some o->((s.heap.push {cls:=.type "list",data:=.seq ([]:List Value).toArray}).push {cls:=.type "dict_keyiterator",data:=.fields #[.ref a,.int 0 0,.int aw.length 0,.int ep 0]}).get? b=some o:=fun b o e=>Heap.get?_push_of_some _ (Heap.get?_push_of_some _ e)
 refine wpAny_ite_split (fun _=>?_) (fun _=>wpAny_pure ⟨plainId_quiet PySem.F.plain_extend_loop _,fin _ _ _ NA MI rp⟩)
 refine wpAny_bind (wpAny_rule ?_)
 refine wpAny_bind ?_
 show wpAny _ _ (updateSeq s.heap.objs.size (·.push .none) >>= fun _=>updateSeq s.heap.objs.size (·.pop)) _ _ _
 refine wpAny_bind (wpAny_updateSeq rp rfl ?_)
 have xK:=Heap.get?_update_self (Obj.mapSeq (·.push Value.none)) rp rfl
 refine wpAny_updateSeq (hz:=by seq_fits) xK rfl ?_
 have Aq:=Heap.get?_update_self (Obj.mapSeq (·.pop)) xK rfl
 generalize ((s.heap.push {cls:=.type "list",data:=.seq ([]:List Value).toArray}).push {cls:=.type "dict_keyiterator",data:=.fields #[.ref a,.int 0 0,.int aw.length 0,.int ep 0]})=h' at NA MI Aq ⊢
 have nb:∀b o,b≠s.heap.objs.size->h'.get? b=some o->((h'.update s.heap.objs.size (Obj.mapSeq (·.push Value.none))).update s.heap.objs.size (Obj.mapSeq (·.pop))).get? b=some o:=fun b o hb e=>(Heap.get?_update_other _ _ (Ne.symm hb)).trans ((Heap.get?_update_other _ _ (Ne.symm hb)).trans e)
 exact wpAny_pure ⟨plainId_quiet PySem.F.plain_extend_loop _,fin _ _ _ ⟨NA.1.at fun o e=>nb I o (fun z=>E6 (by rw[<-z];simp)) e,NA.2.at' fun o e=>nb a o (fun z=>E6 (by rw[<-z];simp)) e⟩ (fun b o e=>nb b o (Nat.ne_of_lt (Heap.lt_size e)) (MI b o e)) Aq⟩
end
section
variable {X:Cx}
theorem xX(hh:X.A.handled=none):gT X (.builtin "sorted") (fun vs H Q=>∃(a:Addr) (aw:List (Key×V)) (xs:List Str),vs=[.ref a]/\Rd H a (.dK aw)/\aw.map (·.1)=xs.map Sum.inr/\xs.Nodup/\xs.length<64/\∀(p:Addr) (ys:List Str),H p=none->ys.Pairwise slt->(∀x,x∈ys↔x∈xs)->Q (.ref p) (upd H p (.lst (ys.map V.str)))):=by
 intro pins s σ H us ws Q I r ⟨a,aw,xs,e,ha,hk,hn,E7,q⟩
 subst e
 obtain⟨u,rfl,ru⟩:=vals1 r
 cases ru
 obtain⟨hz,my,vs,rel,dd⟩:=lh I.cb ha
 obtain⟨ob,es,ep,ho,hc,OL,S4⟩:=id dd
 have da:=kN ho OL dd
 have YA:vs.map (·.1)=xs.map Sum.inr:=by
  rw[<-hk]
  clear hk hz dd ho hc OL da q S4 ha
  induction rel with
  |nil=>rfl
  |cons h _ ih=>rw[List.map_cons,List.map_cons,ih,h.1]
 refine Calls.call_function_entry kind_sorted plain_sorted entry_sorted (args_sorted1 _) ?_
 unfold Builtin.«sorted»
 refine wpAny_bind (m:=checkCount "sorted" 1 1 _) (wpAny_pure ?_)
 refine wpAny_bind (vO (by simpa using hh) my da (by rw[<-rel.length];exact hz) fun h' tk acc kp Ly kY=>?_)
 have hS:=BW YA kY
 have hl:acc.toList.length=xs.length:=by have:=hS.length;omega
 refine tQ (s:={s with heap:=h',toks:=tk}) hS (by omega) fun h2 out ys e p k2 hp EY EU B2 MK=>?_
 have hs:=k9 MK (B2.nodup_iff.mpr hn)
 have XT:ys.length=xs.length:=B2.length_eq
 have XM:∀b o,s.heap.get? b=some o->h2.get? b=some o:=fun b o e=>k2 b o (kp b o e)
 have hsz:s.heap.objs.size<=p:=Nat.le_trans Ly hp
 refine⟨.ref p,_,I.laid (t':=tk) (o:=.lst (ys.map V.str)) XM hsz ?_,rfl,q p ys (I.cb.fresh hsz) hs fun x=>B2.mem_iff⟩
 have SX:(64:Nat)<=sizeLine:=by rw[sizeLine_eq];omega
 exact⟨by rw[List.length_map];omega,out.toList,e,zJ EU,by rw[Array.toArray_toList];exact EY⟩
end
end L2
end
section
namespace L2
open PySem PySem.Spec PyProof.Rows
open AutoSeq1 (wpAny_loadPart')
open MeetsSeq MeetsSeq2 MeetsSeq3
section
variable {prog:Program}{w:World}{A:Around}{E:Value->Shared->Prop}{s:Shared}
def WU(prog:Program)(w:World)(A:Around)(s:Shared)(y x:Value):Prop:=∀(E:Value->Shared->Prop) (Q:Bool->Shared->Prop),Q true s->wpAny (model prog w) A (eqBool y x) Q E s
theorem WU.refs{l b:Addr}(h:∀(E:Value->Shared->Prop) (Q:Value->Shared->Prop),Q (.bool true) s->wpAny (model prog w) A (compareOp .Eq (.ref l) (.ref b)) Q E s):WU prog w A s (.ref l) (.ref b):=fun E Q hq=>by
 by_cases my:l=b
 ·subst my;exact SeqAt.EqAt.same _ prog w E Q hq
 unfold eqBool
 refine wpAny_holding ?_
 refine wpAny_ite_split (fun MS=>absurd (by have:=eq_of_beq MS;injection this) my) (fun _=>?_)
 exact wpAny_bind (h E _ (wpAny_truthy_bool hq))
end
def Jc(ks:List Key)(ns:List Int):List (Key×V):=ks.zip (ns.map V.int)
def LD(H:Hp):List V->List (List Key×List Int)->Prop
 | [],[]=>True
 |v::vs,r::rs=>((∃a,v=.ref a/\Rd H a (.dK (Jc r.1 r.2)))/\r.1.length=r.2.length/\r.1.Nodup)/\LD H vs rs
 |_,_=>False
theorem LD.get{H:Hp}:∀{vs:List V}{us:List Value}{rs:List (List Key×List Int)},LD H vs rs->Vals vs us->us.length=rs.length/\∀(j:Nat) (u:Value),us[j]? = some u->∃a r,u=.ref a/\rs[j]? = some r/\Rd H a (.dK (Jc r.1 r.2))/\r.1.length=r.2.length/\r.1.Nodup
 | [],us,[],_,q=>by cases q;simp
 | [],_,_::_,h,_=>h.elim
 |_::_,_,[],h,_=>h.elim
 |v::vs,us,r::rs,h,q=>by
  cases q with
  |cons h1 h2=>
   obtain⟨⟨⟨a,rfl,hr⟩,e1,e2⟩,hl⟩:=h
   obtain⟨g1,g2⟩:=LD.get hl h2
   refine⟨by simp[g1],fun j u hu=>?_⟩
   cases j with
   |zero=>
    cases (show some _=some u from hu)
    exact⟨a,r,h1,rfl,hr,e1,e2⟩
   |succ j=>exact g2 j u hu
def U6:R2:=fun x y H Q=>∃a b va vb rows,x=.ref a/\y=.ref b/\Rd H a (.lst va)/\Rd H b (.lst vb)/\LD H va rows/\LD H vb rows/\Q (.bl false) H
end L2
namespace VS
open PySem L2
def O8(r:List Key×List Int):D:=.cy false false (r.1.map .s) (r.2.map .int)
def WJ:D->D->(D->Prop)->Prop:=fun d1 d2 P=>∃(o1 o2:Bool) (rows:List (List Key×List Int)),d1=.lst o1 (rows.map O8)/\d2=.lst o2 (rows.map O8)/\P (.bl false)
theorem xt:∀{a b:List Key},a.map DK.s=b.map DK.s->a=b
 | [],[],_=>rfl
 | [],_::_,h=>by simp at h
 |_::_,[],h=>by simp at h
 |a::as,b::bs,h=>by
  simp only[List.map_cons,List.cons.injEq,DK.s.injEq] at h
  rw[h.1,xt h.2]
end VS
end
section
namespace L2
open PySem PySem.Spec PyProof.Rows
open AutoSeq1 (wpAny_loadPart')
open MeetsSeq MeetsSeq2 MeetsSeq3 SeqRoads2
section
variable {prog:Program}{w:World}{A:Around}{E:Value->Shared->Prop}{s:Shared}
theorem rK(l:Addr)(items:Array Value)(n:Nat)(dd:Option Addr)(sl:Array (Option Value))(x:Value)(e:Nat->Bool)(k:Nat) :
  ∀i:Nat,items.size-i=k->Meets (Builtin.«list.__contains__.loop» ⟨[.ref l,x,rawInt i],[]⟩)
   (fun A R s=>s.heap.get? l=some {cls:=.type "list",dict:=dd,data:=.seq items n,slots:=sl}/\(∀j (h:j<items.size),SeqAt.EqAt A.in1 s items[j] x (e j))/\R (.ok (.ret (.bool (((List.range items.size).drop i).any e)))) s):=by
 induction k with
 |zero=>
  intro i hk prog w A R s h
  obtain⟨hp,g,d,tk,os⟩:=s;obtain⟨hl,he,h⟩:=h
  wp_walk using wpAny_loadPart' hl
  have hi:items[((i:Nat):Int).toNat]? = none:=by simp;omega
  have hd:(List.range items.size).drop i=[]:=by simp;omega
  rw[hd] at h
  rw[hi]
  wp_walk
  exact h
 |succ k ih=>
  intro i hk prog w A R s h
  obtain⟨hp,g,d,tk,os⟩:=s;obtain⟨hl,he,h⟩:=h
  wp_walk using wpAny_loadPart' hl
  have iM:i<items.size:=by omega
  have hi:items[((i:Nat):Int).toNat]? = some items[i]:=by simp[iM]
  have hd:(List.range items.size).drop i=i::(List.range items.size).drop (i+1):=by simp[List.drop_eq_getElem_cons,iM]
  rw[hd,List.any_cons] at h
  rw[hi]
  refine wpAny_bind (he i iM prog w _ _ ?_)
  cases hb:e i with
  |true=>
   rw[hb] at h
   wp_walk
   exact h
  |false=>
   rw[hb] at h
   have hc:((i:Int)+1)=((i+1:Nat):Int):=by push_cast;rfl
   wp_walk
   rw[hc]
   exact⟨plainId_quiet plain_contains_loop _,codeAny_builtin entry_contains_loop (by
    rw[Around.under_plainId plain_contains_loop _]
    exact ih (i+1) (by omega) prog w A R _ ⟨hl,he,by simpa using h⟩)⟩
theorem qW(l:Addr)(items:Array Value)(n:Nat)(dd:Option Addr)(sl:Array (Option Value))(x:Value)(e:Nat->Bool) :
  Meets (Builtin.«list.__contains__» ⟨[.ref l,x],[]⟩)
   (fun A R s=>s.heap.get? l=some {cls:=.type "list",dict:=dd,data:=.seq items n,slots:=sl}/\(∀j (h:j<items.size),SeqAt.EqAt A.in1 s items[j] x (e j))/\R (.ok (.ret (.bool ((List.range items.size).any e)))) s):=by
 intro prog w A R s h
 obtain⟨hp,g,d,tk,os⟩:=s;obtain⟨hl,he,h⟩:=h
 wp_walk using wpAny_loadPart' hl
 exact⟨plainId_quiet plain_contains_loop _,codeAny_builtin entry_contains_loop (by
  rw[Around.under_plainId plain_contains_loop _]
  exact rK l items n dd sl x e _ 0 rfl prog w A R _ ⟨hl,he,by simpa using h⟩)⟩
theorem EH{l:Addr}{items:Array Value}{x:Value}{Q:Value->Shared->Prop}(e:Nat->Bool)(hl:s.heap.IsList l items)(he:∀j (h:j<items.size),SeqAt.EqAt A.in1 s items[j] x (e j))
  (h:Q (.bool ((List.range items.size).any e)) s):wpAny (model prog w) A (compareOp .In x (.ref l)) Q E s:=by
 obtain⟨⟨cls,dd,data,sl⟩,ho,hc,n,hd⟩:=id hl
 simp only at hc hd
 subst hc hd
 exact in_meets ⟨_,ho,rfl⟩ F.slot_list_contains F.entry_list_contains (F.args_list_contains_2 _ _) (qW l items n dd sl x e) ⟨ho,he,_,rfl,h⟩
end
section
variable {X:Cx}
def NH(K:PySem.W.Frag):R2:=fun x y H Q=>∃dx p xs ds,y=.ref p/\Rd H p (.lst xs)/\DA K H dx x/\rY K H ds xs/\(PyData.canLay0 dx=true/\PyData.depth dx<=60)/\(∀d∈ds,PyData.canLay0 d=true)/\Q (.bl (ds.any fun d=>PyData.eqv d dx)) H
theorem rY.at{K:PySem.W.Frag}{H:Hp}:∀{ds:List PyData}{xs:List V}{us:List Value},rY K H ds xs->Vals xs us->us.length=ds.length/\∀(j:Nat) (u:Value),us[j]? = some u->∃d x,ds[j]? = some d/\DA K H d x/\RelV x u
 | [],xs,us,h,r=>by
  have h:xs=[]:=by simpa only [rY] using h
  subst h;cases r;simp
 |d::ds,xs,us,h,r=>by
  have h:∃x r,xs=x::r/\DA K H d x/\rY K H ds r:=by simpa only [rY] using h
  obtain⟨x,ys,rfl,h1,h2⟩:=h
  cases r with
  |cons rx ry=>
   obtain⟨g1,g2⟩:=rY.at h2 ry
   refine⟨by simp[g1],fun j u hu=>?_⟩
   cases j with
   |zero=>cases (show some _=some u from hu);exact⟨d,x,rfl,h1,rx⟩
   |succ j=>exact g2 j u hu
theorem any_range{α:Type}(f:α->Bool):∀(l:List α),((List.range l.length).any fun j=>(l[j]?.map f).getD false)=l.any f:=by
 intro l
 rw[Bool.eq_iff_iff]
 simp only[List.any_eq_true,List.mem_range]
 constructor
 ·rintro⟨j,hj,h⟩
  rw[List.getElem?_eq_getElem hj] at h
  exact⟨_,List.getElem_mem hj,h⟩
 ·rintro⟨a,ha,h⟩
  obtain⟨j,hj,e⟩:=List.getElem_of_mem ha
  exact⟨j,hj,by rw[List.getElem?_eq_getElem hj,e];exact h⟩
theorem KQ(hu:X.A.units+64<cLine):jf X (compareOp .In) (NH X.K):=by
 intro pins s σ H x y v u Q I rx ry ⟨dx,p,xs,ds,e,hp,hx,MO,sx,sd,q⟩
 subst e
 cases ry
 obtain⟨_,its,n,r,g⟩:=(show d8 X.prog X.w H s.heap p (.lst xs) from DR I.cb hp)
 obtain⟨as,ra⟩:=DA.reads I dx hx rx
 obtain⟨hl,lT⟩:=MO.at r
 refine EH (items:=its.toArray) (fun j=>(ds[j]?.map fun d=>PyData.eqv d dx).getD false) ⟨_,g,rfl,_,rfl⟩ (fun j hj=>?_) ⟨.bl _,H,I,rfl,?_⟩
 ·obtain⟨d,z,e1,hd,rz⟩:=lT j _ (List.getElem?_eq_getElem (by simpa using hj))
  obtain⟨bs,rb⟩:=DA.reads I d hd rz
  have hs:=sd d (List.mem_of_getElem? e1)
  simp only[List.getElem_toArray,e1,Option.map_some,Option.getD_some]
  exact SeqAt.eqAt_reads d dx X.A.in1 s _ _ bs as rb ra hs sx.1 (by have:=sx.2;simp only[Around.in1_units];omega)
 ·rw[show its.toArray.size=ds.length by simp[hl],any_range];exact q
end
end L2
namespace VS
open PySem L2
def L4:D->D->(D->Prop)->Prop
 |d,.lst _ ds,P=>eR 60 d=true/\eW 60 ds=true/\P (.bl (ds.any fun x=>eqT x d))
 |_,_,_=>False
theorem nq:∀ds:List D,fA ds=ds.map toPy
 | []=>by simp[fA]
 |d::ds=>by simp[fA,nq ds]
theorem L1{K:PySem.W.Frag}:iG (NH K) L4:=fun Z H d1 d2 v1 v2 F1 F2 P R h1 h2 hf k=>by
 cases d2 with
 |lst o ds=>
  obtain⟨o1,o2,p⟩:=hf
  obtain⟨a,vs,rfl,hr,hl⟩:=fF h2
  refine⟨toPy d1,a,vs,fA ds,rfl,hr,eR.da 60 d1 o1 h1,eW.da 60 ds o2 hl,eR.shape 60 d1 o1,fun d hd=>?_,?_⟩
  ·rw[nq] at hd
   obtain⟨z,hz,rfl⟩:=List.mem_map.mp hd
   exact(eR.shape 60 z (qQ.mp o2 z hz)).1
  ·rw[nq,List.any_map]
   exact k _ _ _ _ p (iV.refl (c_.mpr rfl))
 |_=>exact hf.elim
def lZ(ua:UB):UB:=fun env Q=>ua env fun r e=>∃(o:Bool) (xs:List Str) (ds:List D),r.at e=some (.cy o false (xs.map fun x=>.s (.inr x)) ds)/\xs.length<64/\∀ys:List Str,ys.Pairwise slt->(∀x,x∈ys↔x∈xs)->Q (.a8 (.lst true (ys.map D.str))) e
abbrev G5:List V->Hp->VK->Prop:=fun vs H Q=>∃(a:Addr) (aw:List (Key×V)) (xs:List Str),vs=[.ref a]/\Rd H a (.dK aw)/\aw.map (·.1)=xs.map Sum.inr/\xs.Nodup/\xs.length<64/\∀(p:Addr) (ys:List Str),H p=none->ys.Pairwise slt->(∀x,x∈ys↔x∈xs)->Q (.ref p) (upd H p (.lst (ys.map V.str)))
theorem yC{t:TE}{u:UB}(h:aY t u):aY (Gx G5 (k7 t wF)) (lZ u):=by
 intro σ env Z H φ Q R O q k
 refine h σ env Z H φ _ _ O q fun r aL v Z1 H1 bI G1 ⟨o,xs,ds,e,E7,q1⟩ O1 r1 jh=>?_
 obtain⟨F,ho⟩:=eh O1 jh e
 obtain⟨a,vs,w,rfl,hr,⟨kl,ek,rn,zj,rfl⟩,hl⟩:=gJ ho
 have ek:kl=xs.map Sum.inr:=xt (by rw[<-ek,List.map_map];rfl)
 refine⟨a,_,xs,rfl,hr,by rw[List.map_fst_zip (by omega),ek],?_,E7,fun p ys hp hs hm=>?_⟩
 ·rw[ek] at zj
  exact(List.pairwise_map.mp zj).imp fun h e=>h (by rw[e])
 have s1:=cf.upd (H:=H1) (o:=.lst (ys.map V.str)) hp
 have n:=iV.lst (Z:=Z1) hp s1 aB (ny (Z:=Z1) (H:=H1) (xs:=ys))
 exact k (.a8 _) aL _ Z1 _ bI _ (q1 ys hs hm) (O1.grow s1) (n.res O1 r1.drop) n.own
section
variable {X:Cx}{e:Expr}{ua:UB}{p pos:Pos}{k:Nat}
theorem AV(hh:X.A.handled=none)(hg:Gl X "sorted")(hm:X.mg "sorted" = none)(h:VE X e ua)(h1:aH e=true:=by rfl) :
  VE X (.Call (.Name "sorted" p) [e] [] pos) (lZ ua):=
 let ⟨_,q,s⟩:=h.ex;⟨_,vT (xX hh) hg hm PyProof.Rows.boot_sorted (IZ q lD h1) (by decide) (by decide) h1 rfl,yC s⟩
end
end VS
end
section
namespace VS
open PySem L2
abbrev Lk(s:Stmt)(x:Str):Prop:=(ax s).names.lookup x=some .local\/(ax s).names.lookup x=some .cell
abbrev Ln(s:Stmt)(x:Str):Prop:=(ax s).names.lookup x=some .local
abbrev Gk(s:Stmt)(x:Str):Prop:=(ax s).names.lookup x=some .globalImplicit
abbrev XX(q:List Str)(n:Str)(st:Stmt)(P:Program)(w:World)(K:PySem.W.Frag)(mg:Str->Option Value)(base:Heap)(f:Addr)(dZ:Value)(A:Around)(outer:List PySem.Env)(s:Shared)(H:Hp)(E:XK):Cx:=(zx ie P w K mg base q n (ax st) f dZ A outer s H E).yc
section
variable {P:Program}{w:World}{K:PySem.W.Frag}{mg:Str->Option Value}{base:Heap}{f:Addr}{fd:FuncData}{dZ:Value}{A:Around}{outer:List PySem.Env}{s:Shared}{H:Hp}{E:XK}{q:List Str}{n x:Str}{st:Stmt}
theorem v7(h:Lk st x):Loc (XX q n st P w K mg base f dZ A outer s H E).env.scope x:=h
theorem wc(h:Gk st x):Gl (XX q n st P w K mg base f dZ A outer s H E) x:=h
theorem oo{sc:Scope}{ks N2:List Str}(h:L' sc (ax st) ks N2 q=true):vZ (XX q n st P w K mg base f dZ A outer s H E) sc ks N2:=L_ rfl rfl h
theorem N3(h:nX q=true):(XX q n st P w K mg base f dZ A outer s H E).N.Nodup:=kH h
theorem N4{X:Cx}{sc:Scope}{N:List Str}{C:Addr}{fp:List Addr}{pins:List (Addr×Obj)}(h:nX N=true):(dA X sc N C s H fp pins).N.Nodup:=kH h
end
section
variable {I:Nat->Bool}{X:Cx}{a b c e o v:Expr}{es:List Expr}{ua ub uc ue uk uv:UB}{wa:UA}{x y name:Str}{p pos pos' apos bR px py pt p2 Ko:Pos}{i j n k:Nat}
theorem pP(hN:X.N[i]? = some x:=by rfl)(hv:ko X.env.scope x:=by walk_at "a")(hd:(x==("__debug__":Str))=false:=by decide)(fB:(x==("__classdict__":Str))=false:=by decide):VE X (.Name x pos) (aa i):=CI hN hv hd fB
theorem pC(hN:X.N[i]? = some x:=by rfl)(hv:ko X.env.scope x:=by walk_at "a")(hd:(x==("__debug__":Str))=false:=by decide)(fB:(x==("__classdict__":Str))=false:=by decide):VE X (.Name x pos) (a7 i):=Gi hN hv hd fB
theorem pM(hN:X.N[i]? = some x:=by rfl)(hv:ko X.env.scope x:=by walk_at "a")(hd:(x==("__debug__":Str))=false:=by decide)(fB:(x==("__classdict__":Str))=false:=by decide):VE X (.Name x pos) (eZ i):=Gd hN hv hd fB
theorem PH(hN:X.N[i]? = some x:=by rfl)(hv:ko X.env.scope x:=by walk_at "a")(hd:(x==("__debug__":Str))=false:=by decide)(fB:(x==("__classdict__":Str))=false:=by decide):VX X (.Name x pos) (lV i):=FZ hN hv hd fB
theorem pG{j:Int}(hm:∃t,X.mg x=some (.int j t))(hg:Gl X x:=by walk_at "b")(hd:(x==("__debug__":Str))=false:=by decide):VE X (.Name x p) (uC (.int j)):=let ⟨_,h⟩:=hm;Gf h hg hd
theorem gN(hI:I i=false:=by rfl)(hN:X.N.Nodup:=by walk_at "d")(hi:X.N[i]? = some x:=by rfl)(hx:Loc X.env.scope x:=by walk_at "c")(hf:X.fn x=true\/X.env.scope.names.lookup x=some .local:=by first|exact .inl rfl|exact .inr (jC (by decide +kernel))):VG I X (.Name x pos) (au i):=F_ hI hN hi hx hf
theorem gF(hI:I i=false:=by rfl)(hN:X.N.Nodup:=by walk_at "d")(hi:X.N[i]? = some x:=by rfl)(hx:Loc X.env.scope x:=by walk_at "c")(hf:X.fn x=true\/X.env.scope.names.lookup x=some .local:=by first|exact .inl rfl|exact .inr (jC (by decide +kernel))):VG I X (.Name x pos) (bB i):=CH hI hN hi hx hf
theorem sO(he:VE X e ue)(hI:I i=false:=by rfl)(hN:X.N.Nodup:=by walk_at "d")(hi:X.N[i]? = some x:=by rfl)(hx:Loc X.env.scope x:=by walk_at "c")(hf:X.fn x=true\/X.env.scope.names.lookup x=some .local:=by first|exact .inl rfl|exact .inr (jC (by decide +kernel)))(hs:swapsWith e (some (.Name x pos')) pos.line X.env=pure false:=by rfl):kr I X (.Assign [.Name x pos'] e pos) (aX ue (au i)):=JF hI hN hi hx he hf hs
theorem sF(he:VE X e ue)(hI:I i=false:=by rfl)(hN:X.N.Nodup:=by walk_at "d")(hi:X.N[i]? = some x:=by rfl)(hx:Loc X.env.scope x:=by walk_at "c")(hf:X.fn x=true\/X.env.scope.names.lookup x=some .local:=by first|exact .inl rfl|exact .inr (jC (by decide +kernel)))(hs:swapsWith e (some (.Name x pos')) pos.line X.env=pure false:=by rfl):kr I X (.Assign [.Name x pos'] e pos) (aX ue (bB i)):=F5 hI hN hi hx he hf hs
theorem uA(he:VE X e ue)(hI:I i=false:=by rfl)(hN:X.N.Nodup:=by walk_at "d")(hi:X.N[i]? = some x:=by rfl)(hx:Loc X.env.scope x:=by walk_at "c")(hf:X.fn x=true\/X.env.scope.names.lookup x=some .local:=by first|exact .inl rfl|exact .inr (jC (by decide +kernel))):kr I X (.AugAssign (.Name x pos') .Add e pos) (CW i (fun i j=>i+j) ue):=JG hI hN hi hx he Ll hf
theorem mA(ha:VA X (e::es) wa)(hN:X.N[i]? = some x:=by rfl)(hv:ko X.env.scope x:=by walk_at "a")(hd:(x==("__debug__":Str))=false:=by decide)(fB:(x==("__classdict__":Str))=false:=by decide)(dX:attributeBase (.Name x p) "append" X.env (eval (.Name x p) X.env)=eval (.Name x p) X.env:=by rfl)(hlen:(e::es).length<30:=by simp)(dW:(apos.endLine==bR.line)=true:=by rfl)(h1:aH e=true:=by rfl)(h2:es.all aH=true:=by rfl)(hs:swapsWith (.Call (.Attribute (.Name x p) "append" apos) (e::es) [] bR) none pos.line X.env=pure false:=by rfl):kr I X (.Expr (.Call (.Attribute (.Name x p) "append" apos) (e::es) [] bR) pos) (cB i wa):=AS hN hv ha hd fB dX hlen dW h1 h2 hs
theorem mE(ha:VA X (e::es) wa)(hN:X.N[i]? = some x:=by rfl)(hv:ko X.env.scope x:=by walk_at "a")(hd:(x==("__debug__":Str))=false:=by decide)(fB:(x==("__classdict__":Str))=false:=by decide)(dX:attributeBase (.Name x p) "extend" X.env (eval (.Name x p) X.env)=eval (.Name x p) X.env:=by rfl)(hlen:(e::es).length<30:=by simp)(dW:(apos.endLine==bR.line)=true:=by rfl)(h1:aH e=true:=by rfl)(h2:es.all aH=true:=by rfl)(hs:swapsWith (.Call (.Attribute (.Name x p) "extend" apos) (e::es) [] bR) none pos.line X.env=pure false:=by rfl):kr I X (.Expr (.Call (.Attribute (.Name x p) "extend" apos) (e::es) [] bR) pos) (iH i wa):=AQ hN hv ha hd fB dX hlen dW h1 h2 hs
theorem mR(hN:X.N[i]? = some x:=by rfl)(hv:ko X.env.scope x:=by walk_at "a")(hd:(x==("__debug__":Str))=false:=by decide)(fB:(x==("__classdict__":Str))=false:=by decide)(dX:attributeBase (.Name x p) "reverse" X.env (eval (.Name x p) X.env)=eval (.Name x p) X.env:=by rfl)(dW:(apos.endLine==bR.line)=true:=by rfl)(hs:swapsWith (.Call (.Attribute (.Name x p) "reverse" apos) [] [] bR) none pos.line X.env=pure false:=by rfl):kr I X (.Expr (.Call (.Attribute (.Name x p) "reverse" apos) [] [] bR) pos) (jX i):=yh hN hv hd fB dX dW hs
theorem mP(hN:X.N[i]? = some x:=by rfl)(hv:ko X.env.scope x:=by walk_at "a")(hd:(x==("__debug__":Str))=false:=by decide)(fB:(x==("__classdict__":Str))=false:=by decide)(dX:attributeBase (.Name x p) "pop" X.env (eval (.Name x p) X.env)=eval (.Name x p) X.env:=by rfl)(dW:(apos.endLine==bR.line)=true:=by rfl):VE X (.Call (.Attribute (.Name x p) "pop" apos) [] [] bR) (CV i):=JI hN hv hd fB dX dW
theorem dP(hk:VE X b uk)(zg:VE X v uv)(hu:X.A.units+1<cLine:=by assumption)(hN:X.N[i]? = some x:=by rfl)(hv:ko X.env.scope x:=by walk_at "a")(hd:(x==("__debug__":Str))=false:=by decide)(fB:(x==("__classdict__":Str))=false:=by decide)(hs:swapsWith v (some (.Subscript (.Name x p) b pos')) pos.line X.env=pure false:=by rfl):kr I X (.Assign [.Subscript (.Name x p) b pos'] v pos) (iZ i uk uv):=F7 hu hN hv hk zg hd fB hs
theorem lP(hk:VE X b uk)(zg:VE X v uv)(hN:X.N[i]? = some x:=by rfl)(hv:ko X.env.scope x:=by walk_at "a")(hd:(x==("__debug__":Str))=false:=by decide)(fB:(x==("__classdict__":Str))=false:=by decide)(ha:∀v,assign (.Subscript (.Name x p) b pos') X.env v=(do let ov <-holding [v] (eval (.Name x p) X.env);let iv <-holding [v,ov] (eval b X.env);standAt pos';holding [v,ov,iv] (setItem ov iv v);release [v,ov,iv] []):=by intro _;rfl)(hs:swapsWithSole [.Subscript (.Name x p) b pos'] v pos.line X.env=pure false:=by rfl)(hw:swappedStores [.Subscript (.Name x p) b pos'] v X.env=pure none:=by rfl)(h1:(assignEach [.Subscript (.Name x p) b pos'] X.env).map (·.2)=[assign (.Subscript (.Name x p) b pos') X.env]:=by rfl):kr I X (.Assign [.Subscript (.Name x p) b pos'] v pos) (tK i uk uv):=F4 hN hv hk zg hd fB ha hs hw h1
theorem tD{uk:UX}(hk:VX X b uk)(hu:X.A.units+1<cLine:=by assumption)(hN:X.N[i]? = some x:=by rfl)(hv:ko X.env.scope x:=by walk_at "a")(hs:vY b:=by exact fun _ _=>rfl)(hd:(x==("__debug__":Str))=false:=by decide)(fB:(x==("__classdict__":Str))=false:=by decide):Me X .cy i (.Subscript (.Name x p) b pos) uk:=Gn hu hN hv hk hs hd fB
theorem tL{uk:UX}(hk:VX X b uk)(hN:X.N[i]? = some x:=by rfl)(hv:ko X.env.scope x:=by walk_at "a")(hs:jE b:=by exact fun _ _=>rfl)(hd:(x==("__debug__":Str))=false:=by decide)(fB:(x==("__classdict__":Str))=false:=by decide):Me X .lst i (.Subscript (.Name x p) b pos) uk:=Gm hN hv hk hs hd fB
theorem aP{sl:Sel}{uj uk uv:UX}(hc:Me X sl i o uj)(hk:VX X b uk)(hv:VX X v uv)(hu:X.A.units+1<cLine:=by assumption)(hs:swapsWith v (some (.Subscript o b pos')) pos.line X.env=pure false:=by rfl):kr I X (.Assign [.Subscript o b pos'] v pos) (l4 sl i uj uk uv):=AR hu hc hk hv hs
theorem eG(ha:VE X a ua)(hb:VE X b ub)(hu:X.A.units+1<cLine:=by assumption)(hs:vY b:=by exact fun _ _=>rfl):VE X (.Subscript a b pos) (aj oR ua ub):=Gh hu ha hb hs
theorem eL(ha:VE X a ua)(hb:VE X b ub)(hs:jE b:=by exact fun _ _=>rfl):VE X (.Subscript a b pos) (aj dz ua ub):=CK Ak L0 ha hb hs
theorem eT(ha:VE X a ua)(hb:VE X b ub)(hs:jE b:=by exact fun _ _=>rfl):VE X (.Subscript a b pos) (aj bc ua ub):=CK Le LY ha hb hs
theorem eS(ha:VE X a ua)(hb:VE X b ub)(hs:jE b:=by exact fun _ _=>rfl):VE X (.Subscript a b pos) (aj zp ua ub):=CK Lf LZ ha hb hs
theorem g2(ho:VE X o ua)(ha:VE X a ub)(hb:VE X b uc)(hu:X.A.units+1<cLine:=by assumption)(m:M2 X o "get" apos a b bR:=by exact⟨rfl,rfl,rfl,rfl⟩):VE X (.Call (.Attribute o "get" apos) [a,b] [] bR) (wC ua ub uc):=Gg hu ho ha hb m
theorem cI(ha:VE X a ua)(hb:VE X b ub)(hu:X.A.units+1<cLine:=by assumption):VC X .In a b (aj (jy false) ua ub):=JN hu ha hb
theorem cO(ha:VE X a ua)(hb:VE X b ub)(hu:X.A.units+1<cLine:=by assumption):VC X .NotIn a b (aj (jy true) ua ub):=AY hu ha hb
theorem cl{ms:List Bool}{m:fH}(O:L2.Own X.prog X.w X.K X.mg X.base x k (gb ms m))(ha:VA X (e::es) wa)(hr:eB k X.A:=by walk_at "e")(hg:Gl X x:=by walk_at "b")(i_:(x==("__debug__":Str))=false:=by decide)(h1:aH e=true:=by rfl)(h2:es.all aH=true:=by rfl):VE X (.Call (.Name x p) (e::es) [] pos) (aA ms m wa):=Gj O hr ha hg i_ h1 h2
theorem cz{ms:List Bool}{m:fH}(O:L2.Own X.prog X.w X.K X.mg X.base x k (gb ms m))(ha:VA X (e::es) wa)(Q4:∀i:Nat,ms[i]? = some true->False:=by exact Sr rfl)(hr:eB k X.A:=by walk_at "e")(hg:Gl X x:=by walk_at "b")(i_:(x==("__debug__":Str))=false:=by decide)(h1:aH e=true:=by rfl)(h2:es.all aH=true:=by rfl):VE X (.Call (.Name x p) (e::es) [] pos) (p' ms m wa):=CO Q4 O hr ha hg i_ h1 h2
theorem cL{ms:List Bool}{S:Addr->fH->Prop}(hS:∀a m,S a m->oY X.prog X.w X.K X.mg X.base a k (gb ms m))(ha:VA X (e::es) wa)(hr:eB k X.A:=by walk_at "e")(hN:X.N[i]? = some x:=by rfl)(hv:ko X.env.scope x:=by walk_at "a")(i_:(x==("__debug__":Str))=false:=by decide)(fB:(x==("__classdict__":Str))=false:=by decide)(h1:aH e=true:=by rfl)(h2:es.all aH=true:=by rfl):VE X (.Call (.Name x p) (e::es) [] pos) (qa i S ms wa):=CP hS hr hN hv ha i_ fB h1 h2
theorem nL(hm:X.mg "len" = none)(ha:VA X (e::es) wa)(hg:Gl X "len":=by walk_at "b")(h1:aH e=true:=by rfl)(h2:es.all aH=true:=by rfl):VE X (.Call (.Name "len" p) (e::es) [] pos) (pR jU wa):=CQ vR LX hg hm PySem.boot_len ha (by decide) (by decide) h1 h2
theorem nD(hm:X.mg "dict" = none)(ha:VA X (e::es) wa)(hg:Gl X "dict":=by walk_at "b")(h1:aH e=true:=by rfl)(h2:es.all aH=true:=by rfl):VE X (.Call (.Name "dict" p) (e::es) [] pos) (pR pZ wa):=tI vS B' hg hm PyProof.Rows.boot_dict ha (by decide) (by decide) h1 h2
theorem nT(hm:X.mg "list" = none)(ha:VA X (e::es) wa)(hg:Gl X "list":=by walk_at "b")(h1:aH e=true:=by rfl)(h2:es.all aH=true:=by rfl):VE X (.Call (.Name "list" p) (e::es) [] pos) (pR kM wa):=tI vQ B_ hg hm PyProof.Rows.boot_list ha (by decide) (by decide) h1 h2
theorem iR{tg:Expr}(hm:X.mg "range" = none)(h:VA X [a] wa)(hg:Gl X "range":=by walk_at "b")(hp:aH a=true:=by rfl):VI X tg (.Call (.Name "range" p) [a] [] pos) (fw wa):=F8 hg hm h hp
theorem iE{elts:List Expr}{kk:Nat}{yq:Pos}(hm:X.mg "enumerate" = none)(h:VE X a ue)(hg:Gl X "enumerate":=by walk_at "b")(hp:aH a=true:=by rfl):VI X (.Tuple elts kk yq) (.Call (.Name "enumerate" p) [a] [] pos) (oD bx ue):=F9 hg hm h hp
theorem vF(hm:X.mg "isinstance" = none)(OM:X.mg "str" = none)(h:VE X e ua)(hg:Gl X "isinstance":=by walk_at "b")(hc:Gl X "str":=by walk_at "b")(h1:aH e=true:=by rfl):VE X (.Call (.Name "isinstance" p) [e,.Name "str" p2] [] pos) (yn .str ua):=CL (t:=.str) hg hm hc OM (by decide +kernel) h (by decide) (by decide) h1
theorem is_tup(hm:X.mg "isinstance" = none)(OM:X.mg "tuple" = none)(h:VE X e ua)(hg:Gl X "isinstance":=by walk_at "b")(hc:Gl X "tuple":=by walk_at "b")(h1:aH e=true:=by rfl):VE X (.Call (.Name "isinstance" p) [e,.Name "tuple" p2] [] pos) (yn .tup ua):=CL (t:=.tup) hg hm hc OM (by decide +kernel) h (by decide) (by decide) h1
theorem UZ(hm:X.mg "sorted" = none)(Cr:X.mg "set" = none)(h:VE X e ua)(hr:eB k X.A:=by walk_at "e")(hg:Gl X "sorted":=by walk_at "b")(Ts:Gl X "set":=by walk_at "b")(h1:aH e=true:=by rfl):VE X (.Call (.Name "sorted" p) [.Call (.Name "set" p2) [e] [] Ko] [] pos) (iY ua):=yk hr.hd hg hm Ts Cr h h1
theorem oI{aO:Addr}{A:List (Str×Addr)}{ks:List Str}(hm:X.mg x=some (.ref aO))(hD:mZ X.prog X.w X.base aO (mr A))(h:VE X a ua)(hk:A.map (·.1)=ks:=by rfl)(hg:Gl X x:=by walk_at "b")(hd:(x==("__debug__":Str))=false:=by decide):VC X .In a (.Name x p) (wA false ks ua):=by subst hk;exact JM hm hg hD h hd
theorem oO{aO:Addr}{A:List (Str×Addr)}{ks:List Str}(hm:X.mg x=some (.ref aO))(hD:mZ X.prog X.w X.base aO (mr A))(h:VE X a ua)(hk:A.map (·.1)=ks:=by rfl)(hg:Gl X x:=by walk_at "b")(hd:(x==("__debug__":Str))=false:=by decide):VC X .NotIn a (.Name x p) (wA true ks ua):=by subst hk;exact AX hm hg hD h hd
theorem oG{aO:Addr}{A:List (Str×Addr)}(hm:X.mg x=some (.ref aO))(hD:mZ X.prog X.w X.base aO (mr A))(h:VE X b ub)(hg:Gl X x:=by walk_at "b")(hs:vY b:=by exact fun _ _=>rfl)(hd:(x==("__debug__":Str))=false:=by decide):VE X (.Subscript (.Name x p) b pos) (wB A ub):=Ge hm hg hD h hs hd
end
structure Ent where
 nm:Str
 lv:Nat
 ms:List Bool
 m:fH
def Gs(P:Program)(w:World)(K:PySem.W.Frag)(mg:Str->Option Value)(base:Heap)(sig:List Ent)(n:Nat):Prop:=∀j e,j<n->sig[j]? = some e->L2.Own P w K mg base e.nm e.lv (gb e.ms e.m)
def Ur(ms:List Bool)(i:Nat):Bool:=(ms[i]?).getD false
theorem Mh{ms:List Bool}(i:Nat)(h:ms[i]? = some true):Ur ms i=true:=by rw[Ur,h];rfl
section
variable {P:Program}{w:World}{K:PySem.W.Frag}{mg:Str->Option Value}{base:Heap}{sig:List Ent}{n:Nat}
theorem Gs.at(G:Gs P w K mg base sig n)(j:Nat){x:Str}{k:Nat}{ms:List Bool}{m:fH}(e:sig[j]? = some ⟨x,k,ms,m⟩:=by rfl)(h:j<n:=by decide):L2.Own P w K mg base x k (gb ms m):=G j _ h e
theorem Gs.zero:Gs P w K mg base sig 0:=fun _ _ h=>absurd h (Nat.not_lt_zero _)
theorem Gs.snoc(G:Gs P w K mg base sig n){x:Str}{k:Nat}{ms:List Bool}{m:fH}(e:sig[n]? = some ⟨x,k,ms,m⟩)(O:L2.Own P w K mg base x k (gb ms m)):Gs P w K mg base sig (n+1):=fun j e' hj q=>by
 rcases Nat.lt_or_ge j n with z|z
 ·exact G j e' z q
 ·have:j=n:=by omega
  subst this
  rw[e] at q
  cases q
  exact O
theorem ju{x qual:Str}{st:Stmt}{f:Addr}{fd:FuncData}{N ps:List Str}{k:Nat}{ms:List Bool}{m:fH}{u:US}(F:ic K x qual st f fd)(S:aK N ps (ax st))(hl:ms.length=ps.length)(hN:ms.length<=N.length)(pu:∀ds P,ds.length=ms.length->m ds P->u (bF ms P) (ay (N.length-ms.length) ds))
  (d:∀(dZ:Value) (A:Around) (outer:List PySem.Env) (s:Shared) (H:Hp) (E:XK),eB k (XX N qual st P w K mg base f dZ A outer s H E).A->(XX N qual st P w K mg base f dZ A outer s H E).A.units+1<cLine->(XX N qual st P w K mg base f dZ A outer s H E).A.units+64<cLine->FR (Ur ms) (XX N qual st P w K mg base f dZ A outer s H E) (fG st) u):cA P w K mg base ie (k+1) f fd ps (gb ms m):=by
 refine F.ok S (fun vs H Q E h=>h.1.trans hl) (fun dZ A outer s H vs Q E hr h=>?_)
 obtain⟨tt,q,sn⟩:=(d dZ A outer s H E hr (Oi hr) hr.units).ex
 exact⟨tt,q,Ir (N:=N) sn Mh hN pu h⟩
structure FD(K:PySem.W.Frag)(x:Str)(st:Stmt)(f:Addr):Prop where
 ex:∃(oc:Value) (od an:Option Addr) (sl:Array (Option Value)) (kV dc pm cd ct:Value),PySem.W.nsIn K mainGlobals x=some (some (.ref f))/\K.lookup f=some ⟨oc,od,.func (PySem.W.fnOf x x (f6 st) (fG st) (ax st) .none kV dc pm an cd ct),sl⟩/\PySem.W.codeIn K cd x=true/\PySem.W.keepIn K (.ref f)=true
theorem FD.fun{x:Str}{st:Stmt}{f:Addr}{h:Heap}(D:FD K x st f)(X:K.In h)(G:h.Ns mainGlobals mg):∃fd,(∃(kV dc pm:Value) (an:Option Addr) (cd ct:Value),fd=PySem.W.fnOf x x (f6 st) (fG st) (ax st) .none kV dc pm an cd ct)/\ic K x x st f fd/\mg x=some (.ref f)/\PySem.W.keepIn K (.ref f)=true:=by
 obtain⟨oc,od,an,sl,kV,dc,pm,cd,ct,a,l,c,k⟩:=D.ex
 exact⟨_,⟨kV,dc,pm,an,cd,ct,rfl⟩,LQ l c k,PySem.W.mg_of X G a,k⟩
theorem KI{x:Str}{f:Addr}{fd:FuncData}{k:Nat}{ps:List Str}{sp:Sp}(hm:mg x=some (.ref f))(F:cA P w K mg base ie k f fd ps sp)(kp:PySem.W.keepIn K (.ref f)=true)(b:Binds K fd ps []):L2.Own P w K mg base x k sp:=⟨f,hm,⟨fd,ps,F,kp,b⟩⟩
theorem HJ{a:Addr}(rows:List (Str×Tok×Addr)){n:Nat}(hg:base.get? a=some {cls:=.type "dict",data:=.dict (rows.map fun r=>({hash:=PyData.keyHash w.params r.1,key:=.str r.1 r.2.1,val:=.ref r.2.2}:DictEntry)).toArray n})
  (nd:((rows.map fun r=>((Sum.inr r.1:Key),V.ref r.2.2)).map (·.1)).Nodup) (ne:(a==sysModules)=false):mZ P w base a (rows.map fun r=>((Sum.inr r.1:Key),V.ref r.2.2)):=by
 refine⟨ne,rows.map fun r=>((Sum.inr r.1:Key),Value.ref r.2.2),?_,_,_,_,hg,⟨rfl,rfl,rfl⟩,rfl,?_,?_,?_⟩
 ·clear hg nd
  induction rows with
  |nil=>exact .nil
  |cons r rows ih=>exact .cons ⟨rfl,rfl⟩ ih
 ·intro e he
  obtain⟨x,t,b,_,rfl⟩:∃x t b,(x,t,b)∈rows/\({hash:=PyData.keyHash w.params x,key:=.str x t,val:=.ref b}:DictEntry)=e:=by simpa using he
  exact⟨Sum.inr x,n8 x t,rfl⟩
 ·clear hg nd
  show PySem.Pairs _ (rows.map _) _
  induction rows with
  |nil=>exact .nil
  |cons r rows ih=>exact .cons (n8 r.1 r.2.1) rfl ih
 ·have e:((rows.map fun r=>((Sum.inr r.1:Key),Value.ref r.2.2)).map (·.1))=((rows.map fun r=>((Sum.inr r.1:Key),V.ref r.2.2)).map (·.1)):=by rw[List.map_map,List.map_map];rfl
  rw[e]
  exact nd
end
end VS
end
section
namespace VS
open PySem L2
theorem IA{elt iter tg gP A5:Expr}{ifs pH:List Expr}{sc:Scope}{pos:Pos}{it acc:Value}{env:PySem.Env}:compTurn (.ListComp elt [⟨tg,iter,ifs,0⟩,⟨A5,gP,pH,0⟩] sc pos) 0 it acc env=gi ⟨tg,iter,ifs,0⟩ (do
   let x <-eval gP env
   standAt gP.pos
   let x <-foldedSetIterable gP env x
   let _ <-runOwn (.compStart (.ListComp elt [⟨tg,iter,ifs,0⟩,⟨A5,gP,pH,0⟩] sc pos) 1 (<-holding [x] (pyIter x)) acc env) env) (.ListComp elt [⟨tg,iter,ifs,0⟩,⟨A5,gP,pH,0⟩] sc pos) 0 it acc env:=by
 simp only[compTurn,gi,bind_assoc,List.getElem?_cons_zero]
 rfl
section
variable {I:Nat->Bool}{X:Cx}{elt iter tg gP A5 e:Expr}{ifs pH:List Expr}{ui UD:UI}{ue u1 ua:UB}{ug Qr uT:UG}{ut Qq:UT}{sc:Scope}{pos jm py p:Pos}{ks N2:List Str}{y:Str}{k:Nat}
theorem wg(hI:VG I X (.Name y py) uT)(S:vZ X sc ks N2)(hc:X.calm=true)(hi:VI X tg iter ui)(hg:∀C s H fp pins,VG (outs ks.length) (dA X sc (ks++N2) C s H fp pins) tg ug)(ht:∀C s H fp pins,AI (dA X sc (ks++N2) C s H fp pins) ifs ut)(Tq:∀C s H fp pins,VI (dA X sc (ks++N2) C s H fp pins) A5 gP UD)(Tt:∀C s H fp pins,VG (outs ks.length) (dA X sc (ks++N2) C s H fp pins) A5 Qr)(SV:∀C s H fp pins,AI (dA X sc (ks++N2) C s H fp pins) pH Qq)(he:∀C s H fp pins,VE (dA X sc (ks++N2) C s H fp pins) elt ue)(hh:X.A.handled=none)(B1:swapsWith (.ListComp elt [⟨tg,iter,ifs,0⟩,⟨A5,gP,pH,0⟩] sc pos) (some (.Name y py)) jm.line X.env=pure true)(MP:∀C s H fp pins,(dA X sc (ks++N2) C s H fp pins).calm=true:=by intros;rfl)(SO:∀C s H fp pins,(dA X sc (ks++N2) C s H fp pins).xe=(fun _ _=>False):=by intros;rfl)(hs:∀x,foldedSetIterable iter X.env x=pure x:=by intro _;rfl)(S3:∀C s H fp pins x,foldedSetIterable gP (dA X sc (ks++N2) C s H fp pins).env x=pure x:=by intros;rfl):kr I X (.Assign [.Name y py] (.ListComp elt [⟨tg,iter,ifs,0⟩,⟨A5,gP,pH,0⟩] sc pos) jm) (aX (fP ks.length ui ug ut (hX UD Qr Qq (fE ue))) uT):=oC hI S hi hg ht (fun C s H fp pins=>AU (e:=(.ListComp elt [⟨tg,iter,ifs,0⟩,⟨A5,gP,pH,0⟩] sc pos)) (d:=1) (pQ (he C s H fp pins)) (Tq C s H fp pins) (Tt C s H fp pins) (SV C s H fp pins) hh jB rfl (fun _ _=>rfl) (MP C s H fp pins) (SO C s H fp pins) (S3 C s H fp pins)) hc (fun _ _ _=>IA) B1 hs
theorem uQ(hI:VG I X (.Name y py) uT)(S:vZ X sc ks N2)(hc:X.calm=true)(hi:VI X tg iter ui)(hg:∀C s H fp pins,VG (outs ks.length) (dA X sc (ks++N2) C s H fp pins) tg ug)(ht:∀C s H fp pins,AI (dA X sc (ks++N2) C s H fp pins) ifs ut)(Tq:∀C s H fp pins,VE (dA X sc (ks++N2) C s H fp pins) gP u1)(Tt:∀C s H fp pins,VG (outs ks.length) (dA X sc (ks++N2) C s H fp pins) A5 Qr)(SV:∀C s H fp pins,AI (dA X sc (ks++N2) C s H fp pins) pH Qq)(he:∀C s H fp pins,VE (dA X sc (ks++N2) C s H fp pins) elt ue)(hh:X.A.handled=none)(B1:swapsWith (.ListComp elt [⟨tg,iter,ifs,0⟩,⟨A5,gP,pH,0⟩] sc pos) (some (.Name y py)) jm.line X.env=pure true)(MP:∀C s H fp pins,(dA X sc (ks++N2) C s H fp pins).calm=true:=by intros;rfl)(SO:∀C s H fp pins,(dA X sc (ks++N2) C s H fp pins).xe=(fun _ _=>False):=by intros;rfl)(hs:∀x,foldedSetIterable iter X.env x=pure x:=by intro _;rfl)(S3:∀C s H fp pins x,foldedSetIterable gP (dA X sc (ks++N2) C s H fp pins).env x=pure x:=by intros;rfl):kr I X (.Assign [.Name y py] (.ListComp elt [⟨tg,iter,ifs,0⟩,⟨A5,gP,pH,0⟩] sc pos) jm) (aX (fP ks.length ui ug ut (hX (dI du u1) Qr Qq (fE ue))) uT):=oC hI S hi hg ht (fun C s H fp pins=>yi (e:=(.ListComp elt [⟨tg,iter,ifs,0⟩,⟨A5,gP,pH,0⟩] sc pos)) (d:=1) (pQ (he C s H fp pins)) (Tq C s H fp pins) (Tt C s H fp pins) (SV C s H fp pins) hh jB rfl (fun _ _=>rfl) (MP C s H fp pins) (SO C s H fp pins) (S3 C s H fp pins)) hc (fun _ _ _=>IA) B1 hs
theorem Xv(hm:X.mg "sorted" = none)(h:VE X e ua)(hr:eB k X.A:=by walk_at "e")(hg:Gl X "sorted":=by walk_at "b")(h1:aH e=true:=by rfl):VE X (.Call (.Name "sorted" p) [e] [] pos) (lZ ua):=AV hr.hd hg hm h h1
end
end VS
end
section
namespace VS
open PySem L2
section
variable {X:Cx}{iter tg kx vx:Expr}{ifs:List Expr}{ui:UI}{uk uv:UB}{ug:UG}{ut:UT}{sc:Scope}{pos:Pos}{ks N2:List Str}
theorem CN(t:Bool)(hu:X.A.units+1<cLine)(S:vZ X sc ks N2)(hc:X.calm=true)(hi:VI X tg iter ui)(hg:∀C s H fp pins,VG (outs ks.length) (dA X sc (ks++N2) C s H fp pins) tg ug)(ht:∀C s H fp pins,AI (dA X sc (ks++N2) C s H fp pins) ifs ut)(hk:∀C s H fp pins,VE (dA X sc (ks++N2) C s H fp pins) kx uk)(hv:∀C s H fp pins,VE (dA X sc (ks++N2) C s H fp pins) vx uv)(hs:∀x,foldedSetIterable iter X.env x=pure x:=by intro _;rfl) :
  VE X (.DictComp kx vx [⟨tg,iter,ifs,0⟩] sc pos) (ni t ks.length ui ug ut (kf uk uv)):=by
 obtain⟨_,q,s⟩:=hi.ex
 exact⟨_,Ee t (inner:=fun acc env=>do
    let kv <-eval kx env
    let vv <-holding [kv] (eval vx env)
    match acc with
    | .ref d=>do
     standAt {kx.pos with endLine:=vx.pos.endLine,endCol:=vx.pos.endCol}
     holding [kv,vv] (dictSet d kv vv)
    |_=>unsupported "internal:dictcomp") S hc q (fun _ _ _=>rfl) hs,Br s (rA hg ht fun C s H fp pins=>wq hu (hk C s H fp pins) (hv C s H fp pins))⟩
end
end VS
end
section
set_option maxHeartbeats 4000000
namespace VS
open PySem L2 PySem.W PyProof.Rows
def run(st:SharedT->Thread->Option (SharedT×Thread))(ok:Thread->Bool):Nat->SharedT->Thread->Option SharedT
 |0,_,_=>none
 |n+1,s,t=>match through t with
  |true=>some s
  |false=>match ok t with
   |false=>none
   |true=>match st s t with
    |some (s',t')=>run st ok n s' t'
    |none=>none
theorem DN{tb:String->Option Builtin}{p:Program}{w:World}{m:Nat}{ann:Option Value}:∀{n:Nat}{s s':SharedT}{t:Thread},run (stepT (denote tb) p w) (stepOk m ann) n s t=some s'->topRun tb p w m ann n s.abs t=some s'.abs
 |0,_,_,_,h=>by cases h
 |n+1,s,s',t,h=>by
  unfold run at h
  unfold topRun
  cases he:through t with
  |true=>rw[he] at h;cases h;rfl
  |false=>
   rw[he] at h
   cases hk:stepOk m ann t with
   |false=>rw[hk] at h;cases h
   |true=>
    rw[hk] at h
    cases hs:stepT (denote tb) p w s t with
    |none=>rw[hs] at h;cases h
    |some r=>obtain⟨s2,t2⟩:=r;rw[hs] at h;rw[stepT_spec hs];exact DN h
def bt(l:List Obj):Nat->Nat->Nat->BT
 |0,_,_=>.nil
 |f+1,a,b=>match l[b]? with
  |some o=>.node o (bt l f (2 * a) (a+b)) (bt l f (2 * a) (2 * a+b))
  |none=>.nil
noncomputable def boot (P:Params) (os:OsState):SharedT:=⟨bt (boot_heap P).objs.toList 4 1 0,11,(boot_heap P).life,#[],boot_drawn,boot_toks,os⟩
theorem boot_abs(P:Params)(os:OsState):(boot P os).abs=⟨boot_heap P,#[],boot_drawn,boot_toks,os⟩:=by kernel_rfl
theorem Cj(P:Params):((boot_heap P).isNs mainGlobals&&(#[]:Array GenState).size==0,(boot_heap P).objs.size,(boot_heap P).nsMap mainGlobals "__annotations__")=(true,11,some (.ref 6)):=by kernel_rfl
noncomputable abbrev fast (p:Program) (w:World):=run (Fast.tw10156331382660048174 (Fast.tw11892475500146522536 Fast.tw14364793385576792824) p w) (Fast.tw6613529449190102663 11 (some (.ref 6)))
noncomputable abbrev xu (p:Program) (w:World) (s:Shared):Bool:=staticsOk (importedModules p.main.body) (boot_heap w.params) s.heap&&namesBound p s.heap&&gensDone s&&laidKept (boot_heap w.params) s.heap
noncomputable abbrev sees (q:Program) (loose:List Str) (p:Program) (_:World) (s:Shared):=Fast.tw4187177175401517315 q loose (importedModules p.main.body) (fun s=>xlAt q [] s&&recOk [] s) true s
noncomputable def JQ (p:Program) (N:Nat) {α:Type} (Y:Program->World->Shared->α) (w:World) (os:OsState):Option α:=(fast p w N (boot w.params os) (topStub p)).map fun s=>Y p w s.abs
abbrev x9(b:Bool)(p:Program)(N:Nat){α:Type}(Y:Program->World->Shared->α)(Z:World->α):Prop:=∀w:World,JQ p N Y (w.withFollow "special-get-raises" b)=fun _=>some (Z (w.withFollow "special-get-raises" b))
abbrev Tops(p:Program)(N:Nat){α:Type}(Y:Program->World->Shared->α)(Z:World->α):Prop:=x9 false p N Y Z/\x9 true p N Y Z
theorem yr{p:Program}{N:Nat}{α:Type}{Y:Program->World->Shared->α}{Z:World->α}(h:Tops p N Y Z)(w:World)(os:OsState):(run (stepT (denote treeTable) p w) (stepOk 11 (some (.ref 6))) N (boot w.params os) (topStub p)).map (fun s=>Y p w s.abs)=some (Z w):=by
 have:=congrFun (byRow2 "special-get-raises" (P:=fun w=>JQ p N Y w=fun _=>some (Z w)) h.1 h.2 w) os
 unfold JQ fast at this
 rwa [<-Fast.te10156331382660048174,<-Fast.te11892475500146522536,<-Fast.te14364793385576792824,<-Fast.te6613529449190102663] at this
theorem left{p q:Program}{loose:List Str}{α:Type}{Yf:Shared->α}{Ya:World->α}{N:Nat}
  (e:opening p=plainProg p.main.scope.names) (hN:Nat.ble 600 N=true) (f:∀s,fenceModules? p s=some s)
  (hA:Tops p N xu fun _=>true) (hB:Tops p N (sees q loose) fun _=>openGood q loose) (hC:Tops p N (fun _ _=>Yf) Ya):LeftO p q loose (fun s=>xlAt q [] s&&recOk [] s) Yf Ya N true:=fun w=>by
 obtain⟨⟨h',gs,d,k,os⟩,e1,e2⟩:=Option.map_eq_some_iff.mp (boot_open e hN f w)
 obtain⟨rfl,rfl,rfl,rfl⟩:h'=boot_heap w.params/\gs = #[]/\d=boot_drawn/\k=boot_toks:=by simpa using e2
 obtain⟨s,hs,l1⟩:=Option.map_eq_some_iff.mp (yr hA w os)
 have l2:=yr hB w os
 have l3:=yr hC w os
 rw[hs] at l2 l3
 have r:=DN hs
 rw[boot_abs] at r
 unfold sees at l2
 rw[<-Fast.te4187177175401517315] at l2
 obtain⟨z1,z2,z3⟩:_/\_/\_:=by simpa only [Prod.mk.injEq] using Cj w.params
 have t:topFrom treeTable p w N ⟨boot_heap w.params,#[],boot_drawn,boot_toks,os⟩=some s.abs:=by
  unfold topFrom
  dsimp only
  rw[z1,z2,z3,r]
  show(match xu p w s.abs with|true=>_|false=>_)=_
  rw[l1]
 unfold openEnds
 rw[e1]
 show(topFrom treeTable p w N _).map _=_
 rw[t]
 exact congrArg some (Prod.ext (Option.some.inj l2) (Option.some.inj l3))
def KH(h:Heap):Frag:=(List.range h.objs.size).filterMap fun a=>(h.get? a).map (a,·)
theorem Pw(h:Heap):(KH h).In h:=by
 intro a o
 unfold KH
 generalize List.range h.objs.size=L
 induction L with
 |nil=>intro e;cases e
 |cons b L ih=>
  rw[List.filterMap_cons]
  cases e:h.get? b with
  |none=>exact ih
  |some o'=>
   show List.lookup a ((b,o')::_)=_->_
   rw[List.lookup_cons]
   by_cases q:a=b
   ·subst q;rw[beq_self_eq_true];exact fun z=>e.trans z
   ·rw[beq_false_of_ne q];exact ih
theorem hold{l:OpenLaw}{q:Program}{loose:List Str}{N:Nat}{d:DefRec}{α:Type}{Yc:Frag->α}{Ya:World->α}(ok:l.wellSaid=true)
  (e:opening l.prog=plainProg l.prog.main.scope.names) (hN:Nat.ble 600 N=true) (f:∀s,fenceModules? l.prog s=some s)
  (hA:Tops l.prog N xu fun _=>true) (hB:Tops l.prog N (sees q loose) fun _=>openGood q loose) (hC:Tops l.prog N (fun _ _ s=>Yc (KH s.heap)) Ya)
  (TF:defOf q l.name=some (d,[])) (hp:l.prog.theDef l.name=some (d.params,d.body,d.scope)) (hk:kwWritten? d.params.kwonlyargs d.params.kw_defaults=some [])
  (nV:(chainsOk q&&opensWell l.prog&&(frees l.row.toRowW&&true))=true) (hb:l.prog.bare) (hw:l.row.toRowW.promised)
  (walk:WalkO q loose (XL q []) (fun w h=>∃K:Frag,K.In h/\Yc K=Ya w) l.row.toRowW d [] fun f vs=>PySem.call f vs) (ZY:l.writes=false):l.Holds:=
 holds_law ok fun R4=>holds_open (r:=l.row) (q:=q) (loose:=loose) (Xt:=fun s=>xlAt q [] s&&recOk [] s) (XP:=XL q []) (Yf:=fun s=>Yc (KH s.heap)) (Ya:=Ya) (N:=N) (left e hN f hA hB hC) (fun w s y=>⟨_,Pw _,y⟩)
  (fun w h h' y k=>let ⟨K,a,b⟩:=y;⟨K,fun x o z=>k x o (a x o z),b⟩) (fun s e=>xl_of s (Bool.and_eq_true_iff.mp e).1) XL.keeps TF hp hk (fun s e=>recFacts_of (Bool.and_eq_true_iff.mp e).2) (by simp[OpenLaw.row]) R4 nV hb hw walk
def T6(K:Frag)(x:Str):Option (Arguments×List Stmt×Scope):=match nsIn K mainGlobals x with
 |some (some (.ref f))=>(match K.lookup f with
  |some ⟨_,_,.func d,_⟩=>(match d.body,d.closure,d.defaults with
   | .stmts b,[],.none=>if d.name=x/\d.qualname=x/\d.globals=mainGlobals/\d.builtins=builtinsNs/\codeIn K d.code x=true then some (d.params,b,d.scope) else none
   |_,_,_=>none)
  |_=>none)
 |_=>none
theorem OW{K:Frag}{x:Str}{st:Stmt}(h:T6 K x=some (f6 st,fG st,ax st)):∃f,FD K x st f:=by
 unfold T6 at h
 split at h
 ·rename_i f hf
  split at h
  ·rename_i c o d sl hl
   split at h
   ·rename_i b hb hc hd
    split at h
    ·rename_i q
     obtain⟨q1,q2,q3,q4,q5⟩:=q
     obtain⟨n,qn,ps,bo,sc,g,cl,df,kd,dc,pm,an,cd,ct,bu⟩:=d
     dsimp only at *
     subst q1 q2 q3 q4 hb hc hd
     cases h
     exact⟨f,⟨_,_,_,_,_,_,_,_,_,hf,hl,q5,by simp only[keepIn,hl]⟩⟩
    ·cases h
   ·cases h
  ·cases h
 ·cases h
def O_(K:Frag)(c:Str):Option Int:=match nsIn K mainGlobals c with
 |some (some (.int i _))=>some i
 |_=>none
def ent(K:Frag)(e:DictEntry):Option (Int×Str):=match e.key,e.val with
 | .str x _,.ref f=>(match nsIn K mainGlobals x with
  |some (some (.ref g))=>if f=g then some (e.hash,x) else none
  |_=>none)
 |_,_=>none
def NP(K:Frag):Option (Value×Option Addr×Array (Option Value)×List (Option (Int×Str))):=match nsIn K mainGlobals "OPS" with
 |some (some (.ref a))=>(match K.lookup a with
  |some ⟨c,d,.dict es _,sl⟩=>if a=sysModules then none else some (c,d,sl,es.toList.map (ent K))
  |_=>none)
 |_=>none
theorem Fh{K:Frag}{P:Params}:∀{es:List DictEntry}{os:List Str},es.map (ent K)=os.map (fun x=>some (PyData.keyHash P x,x)) ->
  ∃rows:List (Str×Tok×Addr),es=rows.map (fun r=>{hash:=PyData.keyHash P r.1,key:=.str r.1 r.2.1,val:=.ref r.2.2})/\rows.map (·.1)=os/\∀r∈rows,nsIn K mainGlobals r.1=some (some (.ref r.2.2))
 | [],[],_=>⟨[],rfl,rfl,fun _ h=>nomatch h⟩
 | [],_::_,h=>nomatch h
 |_::_,[],h=>nomatch h
 |e::es,x::os,h=>by
  obtain⟨h1,h2⟩:=List.cons.inj h
  obtain⟨rows,e1,e2,e3⟩:=Fh h2
  obtain⟨hs,ky,vl⟩:=e
  unfold ent at h1
  dsimp only at h1
  split at h1
  ·split at h1
   ·split at h1
    ·rename_i f _ g hg q
     cases h1
     subst q
     refine⟨(x,_,f)::rows,by rw[e1];rfl,by rw[<-e2];rfl,fun r hr=>?_⟩
     cases hr with
     |head=>exact hg
     |tail _ hr=>exact e3 r hr
    ·cases h1
   ·cases h1
  ·cases h1
abbrev Rows:=List (String×Nat)
abbrev Ck:=List (Option (Arguments×List Stmt×Scope))×List (Option (Option Value))×List (Option Int)×Option (Value×Option Addr×Array (Option Value)×List (Option (Int×Str)))
def Cf(L:Rows)(B:List Str)(C:List (Str×Int))(o:Bool)(K:Frag):Ck:=(L.map fun x=>T6 K x.1,B.map (nsIn K mainGlobals),C.map fun c=>O_ K c.1,if o then NP K else none)
def Cm(tp:Nat->Stmt)(L:Rows)(B:List Str)(C:List (Str×Int))(o:Bool)(w:World):Ck:=
 (L.map fun x=>some (f6 (tp x.2),fG (tp x.2),ax (tp x.2)),B.map fun _=>some none,C.map fun c=>some c.2,if o then some (.type "dict",none,#[],(["plus", "less", "times", "below", "same"]:List Str).map fun x=>some (PyData.keyHash w.params x,x)) else none)
section
variable {P:Program}{w:World}{K:Frag}{mg:Str->Option Value}{base:Heap}{tp:Nat->Stmt}{L:Rows}{B:List Str}{C:List (Str×Int)}{o:Bool}
theorem b9(e:Cf L B C o K=Cm tp L B C o w)(i:Nat){x:String×Nat}(h:L[i]? = some x):∃f,FD K x.1 (tp x.2) f:=by
 have:=congrArg (fun z:Ck=>z.1[i]?) e
 simp only[Cf,Cm,List.getElem?_map,h,Option.map_some] at this
 exact OW (Option.some.inj this)
theorem lj(e:Cf L B C o K=Cm tp L B C o w)(N:K.In base)(G:base.Ns mainGlobals mg)(i:Nat){x:Str}(h:B[i]? = some x):mg x=none:=by
 have:=congrArg (fun z:Ck=>z.2.1[i]?) e
 simp only[Cf,Cm,List.getElem?_map,h,Option.map_some] at this
 exact mg_none_of N G (Option.some.inj this)
theorem Mb(e:Cf L B C o K=Cm tp L B C o w)(N:K.In base)(G:base.Ns mainGlobals mg)(i:Nat){c:Str×Int}(h:C[i]? = some c):∃t,mg c.1=some (.int c.2 t):=by
 have:=congrArg (fun z:Ck=>z.2.2.1[i]?) e
 simp only[Cf,Cm,List.getElem?_map,h,Option.map_some] at this
 have:=Option.some.inj this
 unfold O_ at this
 split at this
 ·rename_i q;cases this;exact⟨_,mg_of N G q⟩
 ·cases this
theorem Fs(e:Cf L B C true K=Cm tp L B C true w)(N:K.In base)(G:base.Ns mainGlobals mg):∃a f1 f2 f3 f4 f5,mg "OPS" = some (.ref a)/\mZ P w base a (mr [("plus",f1),("less",f2),("times",f3),("below",f4),("same",f5)])/\mg "plus" = some (.ref f1)/\mg "less" = some (.ref f2)/\mg "times" = some (.ref f3)/\mg "below" = some (.ref f4)/\mg "same" = some (.ref f5):=by
 have:=congrArg (fun z:Ck=>z.2.2.2) e
 simp only[Cf,Cm,if_true] at this
 unfold NP at this
 split at this
 ·rename_i a ha
  split at this
  ·rename_i c d es n sl hl
   split at this
   ·cases this
   ·rename_i na
    simp only[Option.some.injEq,Prod.mk.injEq] at this
    obtain⟨rfl,rfl,rfl,h⟩:=this
    obtain⟨rows,e1,e2,e3⟩:=Fh h
    match rows,e2 with
    | [(_,t1,f1),(_,t2,f2),(_,t3,f3),(_,t4,f4),(_,t5,f5)],e2=>
     simp only[List.map_cons,List.map_nil,List.cons.injEq,and_true] at e2
     obtain⟨rfl,rfl,rfl,rfl,rfl⟩:=e2
     have hg:=N _ _ hl
     rw[show es=es.toList.toArray from rfl,e1] at hg
     refine⟨a,f1,f2,f3,f4,f5,mg_of N G ha,HJ [("plus",t1,f1),("less",t2,f2),("times",t3,f3),("below",t4,f4),("same",t5,f5)] hg (show([Sum.inr "plus",Sum.inr "less",Sum.inr "times",Sum.inr "below",Sum.inr "same"]:List Key).Nodup by decide +kernel) (beq_false_of_ne na),?_,?_,?_,?_,?_⟩
     ·exact mg_of N G (e3 _ (.head _))
     ·exact mg_of N G (e3 _ (.tail _ (.head _)))
     ·exact mg_of N G (e3 _ (.tail _ (.tail _ (.head _))))
     ·exact mg_of N G (e3 _ (.tail _ (.tail _ (.tail _ (.head _)))))
     ·exact mg_of N G (e3 _ (.tail _ (.tail _ (.tail _ (.tail _ (.head _))))))
  ·cases this
 ·cases this
theorem _root_.L2.Own.to{x:Str}{k:Nat}{sp:Sp}{f:Addr}(O:L2.Own P w K mg base x k sp)(h:mg x=some (.ref f)):oY P w K mg base f k sp:=by
 obtain⟨g,hg,o⟩:=O.ex
 cases h.symm.trans hg
 exact o
theorem bf{x:String×Nat}{k:Nat}{ps:List Str}{sp:Sp}(D:∃f,FD K x.1 (tp x.2) f)(N:K.In base)(G:base.Ns mainGlobals mg)
  (hb:∀(kV doc pm:Value) (an:Option Addr) (dZ ct:Value) (us:List Value),us.length=ps.length->bindArgs (fnOf x.1 x.1 (f6 (tp x.2)) (fG (tp x.2)) (ax (tp x.2)) .none kV doc pm an dZ ct) ⟨us,[]⟩=pure (ps.zip us))
  (F:∀{f fd},ic K x.1 x.1 (tp x.2) f fd->cA P w K mg base ie k f fd ps sp):L2.Own P w K mg base x.1 k sp:=by
 obtain⟨f,D⟩:=D
 obtain⟨fd,-,F1,m1,k1⟩:=D.fun N G
 exact KI m1 (F F1) k1 (F1.binds hb)
end
def dr(st:Stmt):DefRec:=match st with
 | .FunctionDef n a b _ _ _ s _ _ q=>⟨n,a,b,s,q⟩
 |_=>⟨"",f6 st,[],ax st,⟨0,0,0,0⟩⟩
theorem FY{l:OpenLaw}{n k:Nat}{q:Program}{loose:List Str}{XP:(Str->Option Value)->Heap->Prop}{d:DefRec}{sp:Frag->Sp}{tp:Nat->Stmt}{L:Rows}{B:List Str}{C:List (Str×Int)}{o:Bool}{i j:Nat}
  (hn:l.most=some n) (Q2:n<=sizeLine) (sW:d.params.defaults=[]) (hr:eB k callerA) (hd:d.name = "law") (hL:L[i]? = some ("law",j))
  (hb:∀(kV doc pm:Value) (an:Option Addr) (dZ ct:Value) (s:Shared) (v:Value),BindsTo s (fnOf "law" "law" (f6 (tp j)) (fG (tp j)) (ax (tp j)) .none kV doc pm an dZ ct) ⟨[v],[]⟩ [("_law_script",v)])
  (F:∀{w:World}{mg:Str->Option Value}{K:Frag}{base:Heap}{f:Addr}{fd:FuncData},Cf L B C o K=Cm tp L B C o w->K.In base->base.Ns mainGlobals mg->ic K "law" "law" (tp j) f fd->cA l.prog w K mg base ie k f fd ["_law_script"] (sp K))
  (Jh:∀(K:Frag) (H:Hp) (a:Addr) (ns:List Int),ns.length<=n->je K H a (ns.map V.int)->sp K [.ref a] H (fun v _=>v=.bl true) fun _ _ _=>False) :
  WalkO q loose XP (fun w h=>∃K:Frag,K.In h/\Cf L B C o K=Cm tp L B C o w) l.row.toRowW d [] (fun f vs=>PySem.call f vs):=by
 refine WW.xY hn sW fun w gW cG mg mb fa o pm cd doc a vs ns G Y ho pJ fB Q5 LC hints hlen hg=>?_
 obtain⟨K,KX,e⟩:=Y
 rw[hd] at Q5
 obtain⟨f,D⟩:=b9 e i hL
 obtain⟨_,⟨kV,dc,pm,an,cd,ct,rfl⟩,F1,m1,k1⟩:=D.fun KX G.T.g
 cases Q5.symm.trans m1
 exact EC KX G.T.g G.T.b G.T.builtins G.T.nolimit hg LC hints (Nat.le_trans hlen Q2) hr (fun base N B=>F e N B F1) (hb kV dc pm an cd ct) (fun H hO hS=>Jh K H a ns hlen hS) fun H e s' z=>z
end VS
end
section
set_option maxHeartbeats 4000000
namespace ON
open PySem L2 VS
theorem Mm{i j:Int}(h:-(2 ^ 64)<i)(h2:i<2 ^ 64):jV i j:=.inl ⟨h,h2⟩
theorem Ml{i j:Int}(h:-(2 ^ 64)<j)(h2:j<2 ^ 64):jV i j:=.inr ⟨h,h2⟩
abbrev purse(x y:Int):D:=.lst true [.int x,.int y]
local macro_rules | `(tactic| walk_at "side") => `(tactic| first | ((with_reducible refine Eq.trans ?_ rfl); exact rfl) | (with_reducible exact trivial) | ((with_reducible apply Exists.intro); exact rfl) | (exact ⟨_, _, _, _, rfl⟩) | (with_reducible assumption) | omega | (simp only [bM, d7, eU, gM, jr, yP, NI, Kh, DW, Sg, Sf, pf, w5, G_, G9, G8, Se, Sd, sU, Bool.and_self, Bool.not_false, Bool.and_true, Bool.true_and]; done) | (simp only [List.length_cons, List.length_nil]; omega) | (refine Mm ?_ ?_ <;> omega) | (refine Ml ?_ ?_ <;> omega) | (refine Ub ?_ ?_ <;> omega))
local macro_rules | `(tactic| walk_at "u") => `(tactic| first
 |(simp only[fg,List.set_cons_zero,List.set_cons_succ,Int.reduceToNat,if_true,if_false,List.replicate,List.cons_append,List.nil_append,List.drop_succ_cons,List.drop_zero])
 |with_reducible refine VS.Wk.go ?_
 |((with_reducible apply And.intro);(walk_at "side"))
 |with_reducible apply Exists.intro
 |((with_reducible refine Lp ?_);refine And.intro (by simp only[List.length_cons,List.length_nil];omega) ?_;skip)
 |((with_reducible refine Ia ?_);refine And.intro (by simp only[List.length_cons,List.length_nil];omega) ?_;skip)
 |((with_reducible refine Od ?_);skip)
 |((with_reducible refine Ob ?_);skip)
 |((with_reducible refine Oe ?_ ?_);exact rfl)
 |((with_reducible refine Of ?_ ?_);exact rfl)
 )
abbrev cD:List Bool:=[false,false]
def ez:fH:=fun ds P=>∃c k,ds=[.int c,.int k]/\-(2 ^ 60)<k/\k<2 ^ 60/\∀r,0<=r->r<2147483563->P (.int r) [none,none]
def mU:US:=
 (aC (aX (aj (fI (fun _ j=>0<j) fun i j=>.int (i % j)) (aa 0) (uC (.int 2147483629))) (au 0))
 (aC (aX (aj (fI (fun _ j=>0<j) fun i j=>.int (i % j)) (aj (fI jV fun i j=>.int (i * j)) (aj (kZ fun i j=>.int (i+j)) (aj (kZ fun i j=>.int (i+j)) (aj (kZ fun i j=>.int (i+j)) (aj (fI jV fun i j=>.int (i * j)) (aa 0) (aa 0)) (aj (fI jV fun i j=>.int (i * j)) (uC (.int 3)) (aa 0))) (aj (fI jV fun i j=>.int (i * j)) (uC (.int 7919)) (aa 1))) (uC (.int 1))) (uC (.int 48271))) (uC (.int 2147483629))) (au 2))
 (aC (aX (aj (fI (fun _ j=>0<j) fun i j=>.int (i % j)) (aj (kZ fun i j=>.int (i+j)) (aj (fI jV fun i j=>.int (i * j)) (aa 2) (aa 2)) (uC (.int 7))) (uC (.int 2147483587))) (au 2))
 (bO (aj (fI (fun _ j=>0<j) fun i j=>.int (i % j)) (aj (fI jV fun i j=>.int (i * j)) (aa 2) (aj (kZ fun i j=>.int (i+j)) (aa 2) (uC (.int 69621)))) (uC (.int 2147483563)))))))
theorem pz:∀ds P,ds.length=cD.length->ez ds P->mU (bF cD P) (ay (3-cD.length) ds):=by
 rintro ds P - ⟨c,k,rfl,h1,h2,k⟩
 simp only[ay,cD,List.map_cons,List.map_nil,List.length_cons,List.length_nil,Nat.reduceAdd,Nat.reduceSub,List.replicate,List.cons_append,List.nil_append]
 unfold mU
 repeat walk_at "u"
 exact k _ (by omega) (by omega)
abbrev aq:List Bool:=[true,false]
def av:fH:=fun ds P=>∃x y n,ds=[purse x y,.int n]/\0<n/\n<=2 ^ 62/\∀r z,0<=r->r<n->P (.int r) [some (purse z y),none]
def oX:US:=
 (aC (di (aN (aj (kc false) (aj dz (aa 0) (uC (.int 0))) (uC (.int 0))))
 (tK 0 (uC (.int 0)) (aj dz (aa 0) (uC (.int 1))))
 cg)
 (aC (aX (aj (fI (fun _ j=>0<j) fun i j=>.int (i % j)) (aj dz (aa 0) (uC (.int 0))) (aa 1)) (au 2))
 (aC (tK 0 (uC (.int 0)) (aj (fI uM fun i j=>.int (i / j)) (aj dz (aa 0) (uC (.int 0))) (aa 1)))
 (bO (a7 2)))))
theorem qF:∀ds P,ds.length=aq.length->av ds P->oX (bF aq P) (ay (3-aq.length) ds):=by
 rintro ds P - ⟨x,y,n,rfl,hn,Q2,k⟩
 simp only[ay,aq,List.map_cons,List.map_nil,List.length_cons,List.length_nil,Nat.reduceAdd,Nat.reduceSub,List.replicate,List.cons_append,List.nil_append]
 unfold oX
 repeat walk_at "u"
 with_reducible refine fo ?_ ?_
 ·intro h
  repeat walk_at "u"
  exact k _ _ (Int.emod_nonneg _ (by omega)) (Int.emod_lt_of_pos _ hn)
 ·intro h
  repeat walk_at "u"
  exact k _ _ (Int.emod_nonneg _ (by omega)) (Int.emod_lt_of_pos _ hn)
theorem kj{α β:Type}{f:α->β}{xs:List α}{a b:Option Int}:eA (xs.map f) a b=(eA xs a b).map f:=by simp[eA,List.map_take,List.map_drop]
theorem rJ{α:Type}{xs:List α}{a b:Option Int}:(eA xs a b).length<=xs.length:=by simp[eA];omega
theorem xV{α:Type}{xs:List α}{a b:Option Int}{x:α}(h:x∈eA xs a b):x∈xs:=List.mem_of_mem_drop (List.mem_of_mem_take h)
theorem ou{xs:List Int}:a9 (xs.map .int)=true:=kO.mpr fun d h=>by obtain⟨i,_,rfl⟩:=List.mem_map.mp h;rfl
theorem fD{xs:List Int}:d9 (xs.map .int)=xs.map .int:=by rw[mC,List.map_map];exact List.map_congr_left fun i _=>gX
theorem cX{xs:List Str}:a9 (xs.map .str)=true:=kO.mpr fun d h=>by obtain⟨i,_,rfl⟩:=List.mem_map.mp h;rfl
theorem xo{xs:List Str}:jv (xs.map .str)=true:=qS.mpr fun d h=>by obtain⟨i,_,rfl⟩:=List.mem_map.mp h;rfl
theorem dY{xs:List Str}:d9 (xs.map .str)=xs.map .str:=by rw[mC,List.map_map];exact List.map_congr_left fun i _=>iQ
theorem oe{n:Nat}{d:D}(h:d∈ff 0 n):∃i:Int,d=.int i/\0<=i/\i<n:=by
 simp only[ff,List.mem_map,List.mem_range] at h
 obtain⟨i,h,rfl⟩:=h
 exact⟨_,rfl,by omega,by omega⟩
theorem cm{x y n:Int}{P:D->ai->Prop}(h1:0<n)(h2:n<=2 ^ 62)(k:∀r z,0<=r->r<n->P (.int r) [some (purse z y),none]):av [purse x y,.int n] P:=⟨x,y,n,rfl,h1,h2,k⟩
theorem HX{c k:Int}{P:D->ai->Prop}(h1:-(2 ^ 60)<k)(h2:k<2 ^ 60)(q:∀r,0<=r->r<2147483563->P (.int r) [none,none]):ez [.int c,.int k] P:=⟨c,k,rfl,h1,h2,q⟩
abbrev dC:List Bool:=[false]
def fS(L:Addr->List Int->Prop):fH:=fun ds P=>∃(ns:List Int) (d:D),ds=[d]/\(d=.lst false (ns.map .int)\/∃a,d=.fn a/\L a ns)/\ns.length<=100000/\∀x y,P (purse x y) [none]
def mS(L:Addr->List Int->Prop):US:=
 (aC (aX (aj Ca (Gq L (aa 0) hE (l0 (uC (.int 63)))) (cW (ae (uC (.int 0)) ao))) (bB 1))
 (aC (aX (uC (.int 1)) (au 2))
 (aC (eC (fw (ae (uC (.int 150)) ao)) (au 3)
 (aX (aj (kZ fun i j=>.int (i+j)) (aj (fI jV fun i j=>.int (i * j)) (aa 2) (uC (.int 2147483587))) (aA cD ez (ae (aj dz (aa 1) (aj (fI (fun _ j=>0<j) fun i j=>.int (i % j)) (aa 3) (pR jU (ae (aa 1) ao)))) (ae (aa 3) ao)))) (au 2)))
 (aC (di (aN (aj (kZ fun i j=>.bl (decide (j<=i))) (aj dz (aa 1) (uC (.int 0))) (aj (fI ya fun i j=>.int (i ^ j.toNat)) (uC (.int 10)) (uC (.int 18)))))
 (bO (cW (ae (aj (fI uM fun i j=>.int (i / j)) (aj dz (aa 1) (uC (.int 0))) (aj (fI ya fun i j=>.int (i ^ j.toNat)) (uC (.int 10)) (uC (.int 18)))) (ae (a7 2) ao))))
 cg)
 (bO (cW (ae (a7 2) (ae (a7 2) ao))))))))
theorem pv{L:Addr->List Int->Prop}:∀ds P,ds.length=dC.length->fS L ds P->mS L (bF dC P) (ay (4-dC.length) ds):=by
 rintro ds P - ⟨ns,d,rfl,hd,hl,k⟩
 simp only[ay,dC,List.map_cons,List.map_nil,List.length_cons,List.length_nil,Nat.reduceAdd,Nat.reduceSub,List.replicate,List.cons_append,List.nil_append]
 unfold mS
 have e0:eA (ns.map D.int) none (some 63)++[.int 0]=(eA ns none (some 63)++[0]).map D.int:=by rw[kj];simp
 have hc:(eA ns none (some 63)).length<=ns.length:=rJ
 have rest:∀d:D,(aC (aX (uC (.int 1)) (au 2))
 (aC (eC (fw (ae (uC (.int 150)) ao)) (au 3)
 (aX (aj (kZ fun i j=>.int (i+j)) (aj (fI jV fun i j=>.int (i * j)) (aa 2) (uC (.int 2147483587))) (aA cD ez (ae (aj dz (aa 1) (aj (fI (fun _ j=>0<j) fun i j=>.int (i % j)) (aa 3) (pR jU (ae (aa 1) ao)))) (ae (aa 3) ao)))) (au 2)))
 (aC (di (aN (aj (kZ fun i j=>.bl (decide (j<=i))) (aj dz (aa 1) (uC (.int 0))) (aj (fI ya fun i j=>.int (i ^ j.toNat)) (uC (.int 10)) (uC (.int 18)))))
 (bO (cW (ae (aj (fI uM fun i j=>.int (i / j)) (aj dz (aa 1) (uC (.int 0))) (aj (fI ya fun i j=>.int (i ^ j.toNat)) (uC (.int 10)) (uC (.int 18)))) (ae (a7 2) ao))))
 cg)
 (bO (cW (ae (a7 2) (ae (a7 2) ao))))))) (bF [false] P) [some d,some (.lst false ((eA ns none (some 63)++[0]).map .int)),none,none]:=by
  intro d
  generalize hC:eA ns none (some 63)++[0]=C
  have hC1:0<C.length:=by rw[<-hC];simp
  have hC2:C.length<=200000:=by rw[<-hC];simp;omega
  repeat walk_at "u"
  refine bN (fun xs e=>(∀x∈xs,∃i:Int,x=.int i/\0<=i/\i<150)/\∃n o3,e=[some d,some (.lst false (C.map .int)),some (.int n),o3]) ?_ ?_ _ _ ⟨fun x h=>?_,_,_,rfl⟩
  ·rintro e ⟨-,n,o3,rfl⟩
   obtain⟨c0,_,hc0⟩:=mL (f:=D.int) (xs:=C) (k:=0) (by omega) (by omega)
   repeat walk_at "u"
   refine⟨⟨by decide,by decide,by decide⟩,?_⟩
   repeat walk_at "u"
   with_reducible refine fo ?_ ?_
   ·intro h
    repeat walk_at "u"
    refine⟨⟨by decide,by decide,by decide⟩,?_⟩
    repeat walk_at "u"
    exact k _ _
   ·intro h
    repeat walk_at "u"
    exact k _ _
  ·rintro x xs e ih ⟨hx,n,o3,rfl⟩
   obtain⟨i,rfl,i0,i1⟩:=hx x (.head _)
   have hl:(0:Int)<((C.map D.int).length:Int):=by rw[List.length_map];omega
   have hm:=Int.emod_nonneg i (b:=((C.map D.int).length:Int)) (by omega)
   have Cr:=Int.emod_lt_of_pos i (b:=((C.map D.int).length:Int)) hl
   obtain⟨c,_,hc⟩:=mL (f:=D.int) (xs:=C) (k:=i % ((C.map D.int).length:Int)) hm (by rw[List.length_map] at Cr ⊢;exact Cr)
   repeat walk_at "u"
   refine HX (by omega) (by omega) fun r r0 r1=>?_
   repeat walk_at "u"
   exact ih _ ⟨fun x h=>hx x (.tail _ h),_,_,rfl⟩
  ·obtain⟨i,rfl,a,b⟩:=oe h
   exact⟨i,rfl,a,by simpa using b⟩
 generalize (aC (aX (uC (.int 1)) (au 2))
 (aC (eC (fw (ae (uC (.int 150)) ao)) (au 3)
 (aX (aj (kZ fun i j=>.int (i+j)) (aj (fI jV fun i j=>.int (i * j)) (aa 2) (uC (.int 2147483587))) (aA cD ez (ae (aj dz (aa 1) (aj (fI (fun _ j=>0<j) fun i j=>.int (i % j)) (aa 3) (pR jU (ae (aa 1) ao)))) (ae (aa 3) ao)))) (au 2)))
 (aC (di (aN (aj (kZ fun i j=>.bl (decide (j<=i))) (aj dz (aa 1) (uC (.int 0))) (aj (fI ya fun i j=>.int (i ^ j.toNat)) (uC (.int 10)) (uC (.int 18)))))
 (bO (cW (ae (aj (fI uM fun i j=>.int (i / j)) (aj dz (aa 1) (uC (.int 0))) (aj (fI ya fun i j=>.int (i ^ j.toNat)) (uC (.int 10)) (uC (.int 18)))) (ae (a7 2) ao))))
 cg)
 (bO (cW (ae (a7 2) (ae (a7 2) ao)))))))=T at rest ⊢
 have E4:=ou (xs:=ns)
 have wb:a9 (eA (ns.map D.int) none (some 63))=true:=by rw[kj];exact ou
 have hb3:(eA (ns.map D.int) none (some 63)).length + [D.int 0].length<=1000000:=by simp[kj];omega
 rcases hd with rfl|⟨a,rfl,hL⟩
 ·repeat walk_at "u"
  left
  repeat walk_at "u"
  rw[e0,b4,fD]
  exact rest _
 ·repeat walk_at "u"
  right
  refine⟨a,ns,rfl,hL,?_⟩
  repeat walk_at "u"
  rw[e0,b4,fD]
  exact rest _
inductive Part where|num (n:Int)|name (x:Str)
inductive aR where|one (p:Part)|two (o:Str) (p q:Part)
inductive az where|put (x:Str) (w:aR)|tell (p:Part)
inductive End where|stop|go (a:Int)|choose (p:Part) (a b:Int)
abbrev b_:=List az×End
def Part.d:Part->D | .num n=>.tup [.str "number",.int n] | .name x=>.tup [.str "name",.str x]
def aR.d:aR->D | .one p=>p.d | .two o p q=>.tup [.str o,p.d,q.d]
def az.d:az->D | .put x w=>.tup [.str "put",.str x,w.d] | .tell p=>.tup [.str "tell",p.d]
def End.d:End->D | .stop=>.tup [.str "stop"] | .go a=>.tup [.str "go",.int a] | .choose p a b=>.tup [.str "choose",p.d,.int a,.int b]
def aU(o:Bool)(b:b_):D:=.tup [.lst o (b.1.map az.d),b.2.d]
def a6(o:Bool)(m:Int)(bs:List b_):D:=.tup [.int m,.lst o (bs.map (aU o))]
def Part.ok(xs:List Str)(m:Int):Part->Prop | .num n=>0<=n/\n<m | .name x=>x∈xs
def dO:List Str:=["plus", "less", "times", "below", "same"]
def aR.ok(xs:List Str)(m:Int):aR->Prop | .one p=>p.ok xs m | .two o p q=>o∈dO/\p.ok xs m/\q.ok xs m
def az.ok(xs:List Str)(m:Int):az->Prop | .put x w=>x∈xs/\w.ok xs m | .tell p=>p.ok xs m
def End.ok(xs:List Str)(m many:Int):End->Prop | .stop=>True | .go a=>0<=a/\a<many | .choose p a b=>p.ok xs m/\0<=a/\a<many/\0<=b/\b<many
def b_.ok(xs:List Str)(m many:Int)(b:b_):Prop:=b.1.length<=8/\(∀d∈b.1,d.ok xs m)/\b.2.ok xs m many
def iS(xs:List Str)(m:Int)(bs:List b_):Prop:=∀b∈bs,b_.ok xs m bs.length b
theorem Part.bare(p:Part):VS.bare p.d=true:=by cases p<;>rfl
theorem Part.eJ(p:Part):VS.eJ p.d=true:=by cases p<;>rfl
theorem Part.aT(p:Part):VS.aT p.d=p.d:=by cases p<;>simp only[Part.d,jq,eV,fC,gX,iQ]
theorem aR.bare(w:aR):VS.bare w.d=true:=by cases w<;>simp only[aR.d,Part.bare,yP,bM,d7,DW,Bool.and_self]
theorem aR.eJ(w:aR):VS.eJ w.d=true:=by cases w<;>simp only[aR.d,Part.eJ,w5,eU,gM,G8,Bool.and_self]
theorem aR.aT(w:aR):VS.aT w.d=w.d:=by cases w<;>simp only[aR.d,Part.aT,jq,eV,fC,gX,iQ]
theorem az.bare(w:az):VS.bare w.d=true:=by cases w<;>simp only[az.d,Part.bare,aR.bare,yP,bM,d7,DW,Bool.and_self]
theorem az.eJ(w:az):VS.eJ w.d=true:=by cases w<;>simp only[az.d,Part.eJ,aR.eJ,w5,eU,gM,G8,Bool.and_self]
theorem az.aT(w:az):VS.aT w.d=w.d:=by cases w<;>simp only[az.d,Part.aT,aR.aT,jq,eV,fC,gX,iQ]
theorem End.bare(w:End):VS.bare w.d=true:=by cases w<;>simp only[End.d,Part.bare,yP,bM,d7,Kh,DW,Bool.and_self]
theorem End.eJ(w:End):VS.eJ w.d=true:=by cases w<;>simp only[End.d,Part.eJ,w5,eU,gM,G9,G8,Bool.and_self]
theorem End.aT(w:End):VS.aT w.d=w.d:=by cases w<;>simp only[End.d,Part.aT,jq,eV,fC,gX,iQ]
theorem bH{α:Type}{f:α->D}(h:∀a,VS.bare (f a)=true){xs:List α}:a9 (xs.map f)=true:=kO.mpr fun d hd=>by obtain⟨i,_,rfl⟩:=List.mem_map.mp hd;exact h i
theorem eI{α:Type}{f:α->D}(h:∀a,VS.eJ (f a)=true){xs:List α}:jv (xs.map f)=true:=qS.mpr fun d hd=>by obtain⟨i,_,rfl⟩:=List.mem_map.mp hd;exact h i
theorem aV{α:Type}{f g:α->D}(h:∀a,VS.aT (f a)=g a){xs:List α}:d9 (xs.map f)=xs.map g:=by rw[mC,List.map_map];exact List.map_congr_left fun i _=>h i
theorem cu(b:b_):VS.bare (aU false b)=true:=by simp only[aU,jr,yP,bM,d7,bH az.bare,End.bare,Bool.not_false,Bool.and_self]
theorem Iu(b:b_):VS.eJ (aU true b)=true:=by simp only[aU,pf,w5,eU,gM,eI az.eJ,End.eJ,Bool.and_self]
theorem fh(o:Bool)(b:b_):VS.aT (aU o b)=aU false b:=by simp only[aU,b4,jq,eV,fC,aV az.aT,End.aT]
theorem tU(m:Int)(bs:List b_):VS.bare (a6 false m bs)=true:=by simp only[a6,jr,yP,Kh,bM,d7,bH cu,Bool.not_false,Bool.and_self]
theorem D7(m:Int)(bs:List b_):VS.eJ (a6 true m bs)=true:=by simp only[a6,pf,w5,G9,eU,gM,eI Iu,Bool.and_self]
theorem dQ(o:Bool)(m:Int)(bs:List b_):VS.aT (a6 o m bs)=a6 false m bs:=by simp only[a6,b4,jq,gX,eV,fC,aV (fh o)]
def lets(x:Str):Prop:=∀c∈x.cps.toList,97<=c/\c<=122
def nY(x:Str):Prop:=1<=x.length/\x.length<=6/\lets x
def Su(x:Str):Prop:=1<=x.length/\x.length<=5/\lets x
theorem xw{x y:Str}(h:lets x)(h':lets y):lets (x++y):=fun c hc=>by
 have:c∈(x.cps++y.cps).toList:=hc
 rw[Array.toList_append,List.mem_append] at this
 exact this.elim (h c) (h' c)
theorem EB{c:Nat}(h:97<=c/\c<=122):lets ⟨#[c]⟩:=fun d hd=>by
 have:d=c:=by simpa using hd
 rw[this];exact h
theorem K3{x:Str}{c:Nat}(h:x.length<=4)(h1:lets x)(h2:97<=c/\c<=122):Su (x++⟨#[c]⟩):=by
 refine⟨?_,?_,xw h1 (EB h2)⟩<;>rw[strLen_append]<;>have:Str.length ⟨#[c]⟩=1:=rfl<;>omega
theorem nY.str{x:Str}(h:nY x):PyData.strOk x=true:=by
 unfold PyData.strOk
 rw[<-Array.all_toList,List.all_eq_true]
 intro c hc
 have:=(h.2.2 c hc).2
 simp only[decide_eq_true_eq];omega
theorem t9{r:Int}(h:0<=r)(h2:r<26):∃c,g_ (("abcdefghijklmnopqrstuvwxyz":Str).cps.toList) r=some c/\(97<=c/\c<=122):=by
 have E5:∀c∈("abcdefghijklmnopqrstuvwxyz":Str).cps.toList,97<=c/\c<=122:=by decide +kernel
 have hl:(("abcdefghijklmnopqrstuvwxyz":Str).cps.toList).length=26:=by decide +kernel
 obtain⟨x,hx,e⟩:=Md (xs:=(("abcdefghijklmnopqrstuvwxyz":Str).cps.toList)) h (by rw[hl];exact h2)
 exact⟨x,e,E5 x hx⟩
theorem HI{c:Nat}{n:Int}(h:0<=n)(h2:n<5):(Txt.mul ⟨#[c]⟩ n).length<=4:=by
 have:n=0\/n=1\/n=2\/n=3\/n=4:=by omega
 rcases this with rfl|rfl|rfl|rfl|rfl
 ·exact(by decide:(0:Nat)<=4)
 ·exact(by decide:(1:Nat)<=4)
 ·exact(by decide:(2:Nat)<=4)
 ·exact(by decide:(3:Nat)<=4)
 ·exact(by decide:(4:Nat)<=4)
theorem Ew{c:Nat}{n:Int}(h:0<=n)(h2:n<5)(hc:97<=c/\c<=122):lets (Txt.mul ⟨#[c]⟩ n):=by
 have:n=0\/n=1\/n=2\/n=3\/n=4:=by omega
 intro d hd
 rcases this with rfl|rfl|rfl|rfl|rfl
 ·have:d∈([]:List Nat):=hd
  cases this
 ·have:d∈[c]:=hd
  simp at this;omega
 ·have:d∈[c,c]:=hd
  simp at this;omega
 ·have:d∈[c,c,c]:=hd
  simp at this;omega
 ·have:d∈[c,c,c,c]:=hd
  simp at this;omega
abbrev dD:List Bool:=[true]
def fT:fH:=fun ds P=>∃x y,ds=[purse x y]/\∀(xs:List Str) z,0<xs.length->xs.length<=20->(∀x∈xs,nY x)->P (.lst true (xs.map .str)) [some (purse z y)]
def mT:US:=
 (aC (aX (uC (.str "abcdefghijklmnopqrstuvwxyz")) (au 1))
 (aC (aX (aj Fb (aj zp (aa 1) (aA aq av (ae (aa 0) (ae (uC (.int 26)) ao)))) (aA aq av (ae (aa 0) (ae (uC (.int 5)) ao)))) (au 2))
 (aC (aX (aA aq av (ae (aa 0) (ae (uC (.int 26)) ao))) (au 3))
 (aC (aX (aj Ca (fP 1 (fw (ae (uC (.int 3)) ao)) (au 0) lu (fE (aj uu (aa 3) (aj zp (aa 2) (aj (fI (fun _ j=>0<j) fun i j=>.int (i % j)) (aj (kZ fun i j=>.int (i+j)) (aa 4) (aj (fI jV fun i j=>.int (i * j)) (uC (.int 5)) (aa 0))) (uC (.int 26))))))) (cW (ae (aj uu (aa 2) (uC (.str "ab"))) ao))) (au 4))
 (aC (di (aN (aj (kc false) (aA aq av (ae (aa 0) (ae (uC (.int 16)) ao))) (uC (.int 0))))
 (bO (fP 1 (fw (ae (uC (.int 20)) ao)) (au 0) lu (fE (aj uu (aa 3) (aj zp (aa 2) (aj (fI (fun _ j=>0<j) fun i j=>.int (i % j)) (aj (kZ fun i j=>.int (i+j)) (aa 4) (aj (fI jV fun i j=>.int (i * j)) (uC (.int 5)) (aa 0))) (uC (.int 26))))))))
 cg)
 (bO (Nk (aa 4) hE (l0 (aj (kZ fun i j=>.int (i+j)) (uC (.int 1)) (aA aq av (ae (aa 0) (ae (uC (.int 4)) ao))))))))))))
theorem pw:∀ds P,ds.length=dD.length->fT ds P->mT (bF dD P) (ay (5-dD.length) ds):=by
 rintro ds P - ⟨x,y,rfl,k⟩
 simp only[ay,dD,List.map_cons,List.map_nil,List.length_cons,List.length_nil,Nat.reduceAdd,Nat.reduceSub,List.replicate,List.cons_append,List.nil_append]
 unfold mT
 repeat walk_at "u"
 refine cm (by omega) (by omega) fun r z r0 r1=>?_
 obtain⟨c,hc,vI⟩:=t9 r0 r1
 have Yy:Str.length "abcdefghijklmnopqrstuvwxyz" <= 1000000:=by decide +kernel
 repeat walk_at "u"
 refine cm (by omega) (by omega) fun r z r0 r1=>?_
 have hs:=HI (c:=c) r0 r1
 have zi:=Ew r0 r1 vI
 have h1:Str.length ⟨#[c]⟩<=1000:=(by decide:(1:Nat)<=1000)
 repeat walk_at "u"
 generalize Txt.mul ⟨#[c]⟩ r=qg at hs zi ⊢
 refine cm (by omega) (by omega) fun base z b0 b1=>?_
 have comp:∀(K:List D->ai->Prop) (N:Nat) (z:Int) (o4:Option D),N<=20->(∀ys:List Str,ys.length=N->(∀y∈ys,Su y)->∀o,K (ys.map .str) [o,some (purse z y),some (.str "abcdefghijklmnopqrstuvwxyz"),some (.str qg),some (.int base),o4]) ->
   ∀(xs:List D) (acc:List D) (e:ai),((∀x∈xs,∃i:Int,x=.int i/\0<=i/\i<20)/\∃ys:List Str,acc=ys.map .str/\ys.length+xs.length=N/\(∀y∈ys,Su y)/\∃o,e=[o,some (purse z y),some (.str "abcdefghijklmnopqrstuvwxyz"),some (.str qg),some (.int base),o4]) ->
   ef (au 0) lu (fE (aj uu (aa 3) (aj zp (aa 2) (aj (fI (fun _ j=>0<j) fun i j=>.int (i % j)) (aj (kZ fun i j=>.int (i+j)) (aa 4) (aj (fI jV fun i j=>.int (i * j)) (uC (.int 5)) (aa 0))) (uC (.int 26)))))) K xs acc e:=by
  intro K N z o4 hN hK
  refine eM _ ?_ ?_
  ·rintro acc e ⟨_,ys,rfl,h1,h2,o,rfl⟩
   exact hK ys (by simpa using h1) h2 o
  ·rintro x xs acc e ih ⟨hx,ys,rfl,h1,h2,o,rfl⟩
   obtain⟨i,rfl,i0,i1⟩:=hx x (.head _)
   obtain⟨c,hc,vI⟩:=t9 (r:=(base+5 * i) % 26) (by omega) (by omega)
   have hc1:Str.length ⟨#[c]⟩=1:=rfl
   have ha:qg.length+Str.length ⟨#[c]⟩<=1000000:=by omega
   have hy:(ys.map D.str).length<=1000000:=by rw[List.length_map];simp at h1;omega
   repeat walk_at "u"
   refine ih _ _ ⟨fun x h=>hx x (.tail _ h),ys++[qg++⟨#[c]⟩],by simp,by simp at h1 ⊢;omega,fun y h=>?_,_,rfl⟩
   rcases List.mem_append.mp h with h|h
   ·exact h2 y h
   ·rw[List.mem_singleton.mp h]
    exact K3 hs zi vI
 have MF:∀N:Nat,N<=20->∀x∈ff 0 N,∃i:Int,x=.int i/\0<=i/\i<20:=fun N hN x h=>by obtain⟨i,e,a,b⟩:=oe h;exact⟨i,e,a,by omega⟩
 repeat walk_at "u"
 refine comp _ 3 z none (by decide) (fun ys l1 l2 o=>?_) _ _ _ ⟨MF 3 (by decide),[],rfl,rfl,fun y h=>by simp at h,_,rfl⟩
 have MS:Str.length "ab" = 2:=by decide +kernel
 have ha:qg.length+Str.length "ab" <= 1000000:=by omega
 have hb:=cX (xs:=ys)
 have wb:(ys.map D.str).length + [D.str (qg ++ "ab")].length<=1000000:=by simp;omega
 have e0:ys.map D.str++[.str (qg ++ "ab")]=(ys++[qg ++ "ab"]).map D.str:=by simp
 simp only[List.drop_succ_cons,List.drop_zero]
 repeat walk_at "u"
 rw[e0]
 have hY:∀y∈ys++[qg ++ "ab"],nY y:=fun y h=>by
  rcases List.mem_append.mp h with h|h
  ·have:=l2 y h;exact⟨this.1,Nat.le_succ_of_le this.2.1,this.2.2⟩
  ·rw[List.mem_singleton.mp h]
   refine⟨by rw[strLen_append];omega,by rw[strLen_append];omega,xw zi (by decide +kernel:∀c∈("ab":Str).cps.toList,97<=c/\c<=122)⟩
 have V7:(ys++[qg ++ "ab"]).length=4:=by simp[l1]
 generalize ys++[qg ++ "ab"]=Y at hY V7 ⊢
 have hbY:=cX (xs:=Y)
 refine cm (by omega) (by omega) fun r z r0 r1=>?_
 repeat walk_at "u"
 with_reducible refine fo ?_ ?_
 ·intro h
  repeat walk_at "u"
  refine comp _ 20 z _ (by decide) (fun ys l1 l2 o=>?_) _ _ _ ⟨MF 20 (by decide),[],rfl,rfl,fun y h=>by simp at h,_,rfl⟩
  repeat walk_at "u"
  exact k ys z (by omega) (by omega) fun y h=>by have:=l2 y h;exact⟨this.1,Nat.le_succ_of_le this.2.1,this.2.2⟩
 ·intro h
  repeat walk_at "u"
  refine cm (by omega) (by omega) fun r z r0 r1=>?_
  repeat walk_at "u"
  rw[kj]
  have hlen:0<(eA Y none (some (1+r))).length:=by
   have:r=0\/r=1\/r=2\/r=3:=by omega
   match Y,V7 with
   | [a,b,c,d],_=>rcases this with rfl|rfl|rfl|rfl<;>exact Nat.zero_lt_succ _
  exact k _ z hlen (by have:=rJ (xs:=Y) (a:=none) (b:=some (1+r));omega) fun y h=>hY y (xV h)
abbrev bS:List Bool:=[true,false,false]
def cT:fH:=fun ds P=>∃x y xs m,ds=[purse x y,.lst false (List.map .str xs),.int m]/\0<xs.length/\xs.length<=1000/\2<=m/\m<=2 ^ 62/\∀(p:Part) z,p.ok xs m->P p.d [some (purse z y),none,none]
def oW:US:=
 (aC (di (aN (aj (kc false) (aA aq av (ae (aa 0) (ae (uC (.int 3)) ao))) (uC (.int 0))))
 (bO (gf (ae (uC (.str "number")) (ae (aj dz (cW (ae (uC (.int 0)) (ae (uC (.int 1)) (ae (aj (kZ fun i j=>.int (i-j)) (aa 2) (uC (.int 1))) (ae (aA aq av (ae (aa 0) (ae (aa 2) ao))) ao))))) (aA aq av (ae (aa 0) (ae (uC (.int 4)) ao)))) ao))))
 cg)
 (bO (gf (ae (uC (.str "name")) (ae (aj dz (aa 1) (aA aq av (ae (aa 0) (ae (pR jU (ae (aa 1) ao)) ao)))) ao)))))
theorem qE:∀ds P,ds.length=bS.length->cT ds P->oW (bF bS P) (ay (3-bS.length) ds):=by
 rintro ds P - ⟨x,y,xs,m,rfl,h1,h2,h3,h4,k⟩
 simp only[ay,bS,List.map_cons,List.map_nil,List.length_cons,List.length_nil,Nat.reduceAdd,Nat.reduceSub,List.replicate,List.cons_append,List.nil_append]
 unfold oW
 repeat walk_at "u"
 refine cm (by omega) (by omega) fun r z r0 r1=>?_
 repeat walk_at "u"
 with_reducible refine fo ?_ ?_
 ·intro h
  repeat walk_at "u"
  refine cm (by omega) (by omega) fun a z a0 a1=>?_
  repeat walk_at "u"
  refine cm (by omega) (by omega) fun b z b0 b1=>?_
  have hx:∃n:Int,g_ [D.int 0,D.int 1,D.int (m-1),D.int a] b=some (.int n)/\0<=n/\n<m:=by
   have:b=0\/b=1\/b=2\/b=3:=by omega
   rcases this with rfl|rfl|rfl|rfl
   ·exact⟨0,rfl,by omega,by omega⟩
   ·exact⟨1,rfl,by omega,by omega⟩
   ·exact⟨m-1,rfl,by omega,by omega⟩
   ·exact⟨a,rfl,by omega,by omega⟩
  obtain⟨n,hn,n0,n1⟩:=hx
  repeat walk_at "u"
  exact k (.num n) z ⟨n0,n1⟩
 ·intro h
  have hl:(0:Int)<((xs.map D.str).length:Int):=by rw[List.length_map];omega
  have rm:((xs.map D.str).length:Int)<=2 ^ 62:=by rw[List.length_map];omega
  repeat walk_at "u"
  refine cm hl rm fun a z a0 a1=>?_
  obtain⟨s,hs,e⟩:=mL (f:=D.str) (xs:=xs) a0 (by simpa using a1)
  repeat walk_at "u"
  exact k (.name s) z hs
theorem vG{x y m:Int}{xs:List Str}{P:D->ai->Prop}(h1:0<xs.length)(h2:xs.length<=1000)(h3:2<=m)(h4:m<=2 ^ 62)(k:∀(p:Part) z,p.ok xs m->P p.d [some (purse z y),none,none]):cT [purse x y,.lst false (xs.map .str),.int m] P:=⟨x,y,xs,m,rfl,h1,h2,h3,h4,k⟩
abbrev cC:List Bool:=[true,false,false]
def eu:fH:=fun ds P=>∃x y xs m,ds=[purse x y,.lst false (List.map .str xs),.int m]/\0<xs.length/\xs.length<=1000/\2<=m/\m<=2 ^ 62/\∀(w:aR) z,w.ok xs m->P w.d [some (purse z y),none,none]
def mQ:US:=
 (aC (aX (aA aq av (ae (aa 0) (ae (uC (.int 8)) ao))) (au 3))
 (aC (aX (aA bS cT (ae (aa 0) (ae (aa 1) (ae (aa 2) ao)))) (bB 4))
 (aC (di (aN (aj (kZ fun i j=>.bl (decide (i<j))) (aa 3) (uC (.int 2))))
 (bO (a7 4))
 cg)
 (bO (gf (ae (aj dz (cW (ae (uC (.str "plus")) (ae (uC (.str "less")) (ae (uC (.str "times")) (ae (uC (.str "below")) (ae (uC (.str "same")) (ae (uC (.str "plus")) ao))))))) (aj (kZ fun i j=>.int (i-j)) (aa 3) (uC (.int 2)))) (ae (a7 4) (ae (aA bS cT (ae (aa 0) (ae (aa 1) (ae (aa 2) ao)))) ao))))))))
theorem pq:∀ds P,ds.length=cC.length->eu ds P->mQ (bF cC P) (ay (5-cC.length) ds):=by
 rintro ds P - ⟨x,y,xs,m,rfl,h1,h2,h3,h4,k⟩
 simp only[ay,cC,List.map_cons,List.map_nil,List.length_cons,List.length_nil,Nat.reduceAdd,Nat.reduceSub,List.replicate,List.cons_append,List.nil_append]
 unfold mQ
 repeat walk_at "u"
 refine cm (by omega) (by omega) fun w z w0 w1=>?_
 have eN:aT (.lst false (xs.map D.str))=.lst false (xs.map D.str):=by rw[b4,dY]
 repeat walk_at "u"
 rw[eN]
 repeat walk_at "u"
 refine vG h1 h2 h3 h4 fun p z hp=>?_
 have Ji:=p.eJ
 have Ig:=p.bare
 repeat walk_at "u"
 rw[p.aT]
 repeat walk_at "u"
 with_reducible refine fo ?_ ?_
 ·intro h
  repeat walk_at "u"
  exact k (.one p) z hp
 ·intro h
  have hw:∃o:Str,g_ [D.str "plus",D.str "less",D.str "times",D.str "below",D.str "same",D.str "plus"] (w-2)=some (.str o)/\o∈dO:=by
   have h:=of_decide_eq_false h
   have:w=2\/w=3\/w=4\/w=5\/w=6\/w=7:=by omega
   rcases this with rfl|rfl|rfl|rfl|rfl|rfl
   ·exact⟨_,rfl,by simp[dO]⟩
   ·exact⟨_,rfl,by simp[dO]⟩
   ·exact⟨_,rfl,by simp[dO]⟩
   ·exact⟨_,rfl,by simp[dO]⟩
   ·exact⟨_,rfl,by simp[dO]⟩
   ·exact⟨_,rfl,by simp[dO]⟩
  obtain⟨o,ho,hm⟩:=hw
  repeat walk_at "u"
  rw[eN]
  refine vG h1 h2 h3 h4 fun q z hq=>?_
  have Yj:=q.eJ
  repeat walk_at "u"
  exact k (.two o p q) z ⟨hm,hp,hq⟩
abbrev b8:List Bool:=[true,false,false,false,false]
def dH:fH:=fun ds P=>∃x y xs m b many,ds=[purse x y,.lst false (List.map .str xs),.int m,.int b,.int many]/\0<xs.length/\xs.length<=1000/\2<=m/\m<=2 ^ 62/\0<=b/\0<many/\many<=2 ^ 62/\∀(w:End) z,w.ok xs m many->P w.d [some (purse z y),none,none,none,none]
def ll:US:=
 (aC (aX (aA aq av (ae (aa 0) (ae (uC (.int 7)) ao))) (au 5))
 (aC (aX (aj dz (cW (ae (aj (fI (fun _ j=>0<j) fun i j=>.int (i % j)) (aj (kZ fun i j=>.int (i+j)) (aa 3) (uC (.int 1))) (aa 4)) (ae (aA aq av (ae (aa 0) (ae (aa 4) ao))) ao))) (aA aq av (ae (aa 0) (ae (uC (.int 2)) ao)))) (au 6))
 (aC (aX (aj dz (cW (ae (aj (fI (fun _ j=>0<j) fun i j=>.int (i % j)) (aj (kZ fun i j=>.int (i+j)) (aa 3) (uC (.int 1))) (aa 4)) (ae (aA aq av (ae (aa 0) (ae (aa 4) ao))) ao))) (aA aq av (ae (aa 0) (ae (uC (.int 2)) ao)))) (au 7))
 (aC (di (aN (aj (kc false) (aa 5) (uC (.int 0))))
 (bO (gf (ae (uC (.str "stop")) ao)))
 cg)
 (aC (di (aN (aj (kZ fun i j=>.bl (decide (i<j))) (aa 5) (uC (.int 3))))
 (bO (gf (ae (uC (.str "go")) (ae (a7 6) ao))))
 cg)
 (bO (gf (ae (uC (.str "choose")) (ae (aA bS cT (ae (aa 0) (ae (aa 1) (ae (aa 2) ao)))) (ae (a7 6) (ae (a7 7) ao)))))))))))
theorem nK:∀ds P,ds.length=b8.length->dH ds P->ll (bF b8 P) (ay (8-b8.length) ds):=by
 rintro ds P - ⟨x,y,xs,m,b,many,rfl,h1,h2,h3,h4,b0,VB,Yt,k⟩
 simp only[ay,b8,List.map_cons,List.map_nil,List.length_cons,List.length_nil,Nat.reduceAdd,Nat.reduceSub,List.replicate,List.cons_append,List.nil_append]
 unfold ll
 have eN:aT (.lst false (xs.map D.str))=.lst false (xs.map D.str):=by rw[b4,dY]
 have Jl:=Int.emod_nonneg (b+1) (b:=many) (by omega)
 have E4:=Int.emod_lt_of_pos (b+1) (b:=many) VB
 have pick:∀a c:Int,0<=a->a<many->0<=c->c<2->∃n:Int,g_ [D.int ((b+1) % many),D.int a] c=some (.int n)/\0<=n/\n<many:=fun a c a0 a1 c0 c1=>by
  have:c=0\/c=1:=by omega
  rcases this with rfl|rfl
  ·exact⟨_,rfl,Jl,E4⟩
  ·exact⟨_,rfl,a0,a1⟩
 repeat walk_at "u"
 refine cm (by omega) (by omega) fun w z w0 w1=>?_
 repeat walk_at "u"
 refine cm (by omega) (by omega) fun a z a0 a1=>?_
 repeat walk_at "u"
 refine cm (by omega) (by omega) fun c z c0 c1=>?_
 obtain⟨one,e1,o0,o1⟩:=pick a c a0 a1 c0 c1
 repeat walk_at "u"
 refine cm (by omega) (by omega) fun a z a0 a1=>?_
 repeat walk_at "u"
 refine cm (by omega) (by omega) fun c z c0 c1=>?_
 obtain⟨two,e2,t0,t1⟩:=pick a c a0 a1 c0 c1
 repeat walk_at "u"
 with_reducible refine fo ?_ ?_
 ·intro h
  repeat walk_at "u"
  exact k .stop z trivial
 ·intro h
  repeat walk_at "u"
  with_reducible refine fo ?_ ?_
  ·intro h
   repeat walk_at "u"
   exact k (.go one) z ⟨o0,o1⟩
  ·intro h
   repeat walk_at "u"
   rw[eN]
   refine vG h1 h2 h3 h4 fun q z hq=>?_
   have Yj:=q.eJ
   repeat walk_at "u"
   exact k (.choose q one two) z ⟨hq,o0,o1,t0,t1⟩
def sD{α:Type}(f:α->D)(o:Bool)(l:List (Str×α)):D:=.cy o false (l.map fun p=>.s (.inr p.1)) (l.map fun p=>f p.2)
def c9{α:Type}:List (Str×α)->Str->α->List (Str×α)
 | [],x,v=>[(x,v)]
 |(y,u)::l,x,v=>if y=x then(y,v)::l else(y,u)::c9 l x v
theorem vP{α:Type}{f:α->D}(x:Str):∀l:List (Str×α),bQ (l.map fun p=>DK.s (.inr p.1)) (l.map fun p=>f p.2) (.s (.inr x))=(l.lookup x).map f
 | []=>rfl
 |(y,u)::l=>by
  simp only[List.map_cons,bQ,List.lookup_cons]
  by_cases e:y=x
  ·subst e;simp
  ·have:(x==y)=false:=by simpa using Ne.symm e
   rw[if_neg (by simpa using e),this,vP x l]
theorem kg{α:Type}{f:α->D}(x:Str)(v:α):∀l:List (Str×α),dput (l.map fun p=>DK.s (.inr p.1)) (l.map fun p=>f p.2) (.s (.inr x)) (f v)=((c9 l x v).map (fun p=>DK.s (.inr p.1)),(c9 l x v).map fun p=>f p.2)
 | []=>rfl
 |(y,u)::l=>by
  simp only[List.map_cons,dput,c9]
  by_cases e:y=x
  ·subst e;simp
  ·rw[if_neg (by simpa using e),if_neg e,kg x v l];rfl
theorem ij{α:Type}(x:Str)(v:α):∀l:List (Str×α),(c9 l x v).length<=l.length+1
 | []=>by simp[c9]
 |(y,u)::l=>by
  simp only[c9]
  split
  ·simp
  ·simp;exact ij x v l
theorem qh{α:Type}{x:Str}{v:α}{q:Str×α}:∀{l:List (Str×α)},q∈c9 l x v->q∈l\/q.2=v
 | [],h=>by simp[c9] at h;exact .inr (by rw[h])
 |(y,u)::l,h=>by
  simp only[c9] at h
  split at h
  ·rcases List.mem_cons.mp h with h|h
   ·exact .inr (by rw[h])
   ·exact .inl (.tail _ h)
  ·rcases List.mem_cons.mp h with h|h
   ·exact .inl (by rw[h];exact .head _)
   ·exact(qh h).imp (.tail _) id
theorem tP{α:Type}(x z:Str)(v:α):∀l:List (Str×α),(c9 l x v).lookup z=if z=x then some v else l.lookup z
 | []=>by
  simp only[c9,List.lookup_cons,List.lookup_nil]
  by_cases e:z=x
  ·simp[e]
  ·have:(z==x)=false:=by simpa using e
   simp[this,e]
 |(y,u)::l=>by
  simp only[c9]
  by_cases e:y=x
  ·subst e
   rw[if_pos rfl]
   simp only[List.lookup_cons]
   by_cases q:z=y
   ·simp[q]
   ·have:(z==y)=false:=by simpa using q
    simp[this,q]
  ·rw[if_neg e]
   simp only[List.lookup_cons]
   by_cases q:z=y
   ·subst q;simp[e]
   ·have:(z==y)=false:=by simpa using q
    rw[this,tP x z v l]
abbrev dJ:=sD D.int
abbrev cP:=List (Str×Int)
theorem fY(o:Bool)(W:cP):VS.aT (dJ o W)=dJ false W:=by
 simp only[dJ,sD,yO]
 rw[aV (f:=fun p:Str×Int=>D.int p.2) (g:=fun p=>D.int p.2) fun _=>gX]
theorem uw(W:cP):a9 (W.map fun p=>D.int p.2)=true:=bH fun _=>rfl
theorem Ax(W:cP):VS.eJ (dJ true W)=true:=by simp only[dJ,sD,G_,eI (f:=fun p:Str×Int=>D.int p.2) (fun _=>rfl)];rfl
theorem xB(T:List Int):VS.eJ (.lst true (T.map .int))=true:=by simp only[pf,eI (f:=D.int) (fun _=>rfl)];rfl
def look(W:cP)(x:Str):Int:=(W.lookup x).getD 0
def Part.val(W:cP):Part->Int | .num n=>n | .name x=>look W x
def jJ(o:Str)(a b m:Int):Int:=if o = "plus" then(a+b) % m else if o = "less" then(a-b) % m else if o = "times" then a * b % m else if o = "below" then(if a<b then 1 else 0) else(if a=b then 1 else 0)
def aR.val(m:Int)(W:cP):aR->Int | .one p=>p.val W | .two o p q=>jJ o (p.val W) (q.val W) m
def iN(m:Int)(s:cP×List Int):az->cP×List Int | .put x w=>(c9 s.1 x (w.val m s.1),s.2) | .tell p=>(s.1,s.2++[p.val s.1])
def bz(m:Int)(dl:List az)(s:cP×List Int):cP×List Int:=dl.foldl (iN m) s
def End.next(W:cP):End->Int | .stop=>-1 | .go a=>a | .choose p a b=>if p.val W=0 then b else a
def Part.nb(m:Int):Part->Prop | .num n=>0<=n/\n<m | .name _=>True
def aR.nb(m:Int):aR->Prop | .one p=>p.nb m | .two o p q=>o∈dO/\p.nb m/\q.nb m
def az.nb(m:Int):az->Prop | .put _ w=>w.nb m | .tell p=>p.nb m
def End.nb(m many:Int):End->Prop | .stop=>True | .go a=>0<=a/\a<many | .choose p a b=>p.nb m/\0<=a/\a<many/\0<=b/\b<many
def yS(m:Int)(bs:List b_):Prop:=∀b∈bs,(∀d∈b.1,d.nb m)/\b.2.nb m bs.length
def gQ(m:Int)(W:cP):Prop:=∀p∈W,0<=p.2/\p.2<m
theorem lookup_mem{α:Type}{x:Str}{v:α}:∀{l:List (Str×α)},l.lookup x=some v->(x,v)∈l
 | [],h=>by simp at h
 |(y,u)::l,h=>by
  rw[List.lookup_cons] at h
  by_cases e:x=y
  ·subst e;simp at h;rw[h];exact .head _
  ·have:(x==y)=false:=by simpa using e
   rw[this] at h;exact .tail _ (lookup_mem h)
theorem HL{m:Int}{W:cP}(hm:2<=m)(h:gQ m W)(x:Str):0<=look W x/\look W x<m:=by
 unfold look
 cases e:W.lookup x with
 |none=>exact⟨Int.le_refl _,by simp;omega⟩
 |some v=>exact h _ (lookup_mem e)
theorem Part.uS{m:Int}{W:cP}(hm:2<=m)(h:gQ m W):∀{p:Part},p.nb m->0<=p.val W/\p.val W<m
 | .num n,q=>q
 | .name x,_=>HL hm h x
theorem Ej{m a b:Int}{o:Str}(hm:2<=m):0<=jJ o a b m/\jJ o a b m<m:=by
 unfold jJ
 have h1:=fun z:Int=>Int.emod_nonneg z (b:=m) (by omega)
 have h2:=fun z:Int=>Int.emod_lt_of_pos z (b:=m) (by omega)
 (repeat' split)<;>first|exact⟨h1 _,h2 _⟩|omega
theorem aR.uS{m:Int}{W:cP}(hm:2<=m)(h:gQ m W):∀{w:aR},w.nb m->0<=w.val m W/\w.val m W<m
 | .one p,q=>Part.uS hm h (p:=p) q
 | .two o p q,_=>Ej hm
theorem xT{m:Int}{W:cP}{T:List Int}{d:az}(hm:2<=m)(h:gQ m W)(hd:d.nb m):gQ m (iN m (W,T) d).1:=by
 cases d with
 |tell p=>exact h
 |put x w=>
  intro q hq
  rcases qh hq with z|z
  ·exact h q z
  ·rw[z];exact aR.uS hm h hd
theorem uB{m:Int}(hm:2<=m):∀{dl:List az}{W:cP}{T:List Int},gQ m W->(∀d∈dl,d.nb m)->gQ m (bz m dl (W,T)).1
 | [],W,T,h,_=>h
 |d::dl,W,T,h,hd=>uB (T:=(iN m (W,T) d).2) hm (xT hm h (hd d (.head _))) fun x hx=>hd x (.tail _ hx)
theorem uD{m:Int}{W:cP}{T:List Int}{d:az}:(iN m (W,T) d).1.length<=W.length+1/\(iN m (W,T) d).2.length<=T.length+1:=by
 cases d with
 |tell p=>exact⟨by simp[iN],by simp[iN]⟩
 |put x w=>exact⟨ij _ _ _,by simp[iN]⟩
theorem rH{m:Int}:∀{dl:List az}{W:cP}{T:List Int},(bz m dl (W,T)).1.length<=W.length+dl.length/\(bz m dl (W,T)).2.length<=T.length+dl.length
 | [],W,T=>by simp[bz]
 |d::dl,W,T=>by
  have h1:=uD (m:=m) (W:=W) (T:=T) (d:=d)
  have h2:=rH (m:=m) (dl:=dl) (W:=(iN m (W,T) d).1) (T:=(iN m (W,T) d).2)
  simp only[List.length_cons]
  exact⟨Nat.le_trans h2.1 (by omega),Nat.le_trans h2.2 (by omega)⟩
abbrev hJ:List Bool:=[false,false,false]
def vC:fH:=fun ds P=>∃a b m,ds=[.int a,.int b,.int m]/\2<=m/\-(2 ^ 62)<a/\a<2 ^ 62/\P (.int (jJ "plus" a b m)) [none,none,none]
def Fy:US:=
 (bO (aj (fI (fun _ j=>0<j) fun i j=>.int (i % j)) (aj (kZ fun i j=>.int (i+j)) (aa 0) (aa 1)) (aa 2)))
theorem BF:∀ds P,ds.length=hJ.length->vC ds P->Fy (bF hJ P) (ay (3-hJ.length) ds):=by
 rintro ds P - ⟨a,b,m,rfl,hm,h1,h2,k⟩
 simp only[ay,hJ,List.map_cons,List.map_nil,List.length_cons,List.length_nil,Nat.reduceAdd,Nat.reduceSub,List.replicate,List.cons_append,List.nil_append]
 unfold Fy
 repeat walk_at "u"
 exact k
abbrev kJ:List Bool:=[false,false,false]
def vD:fH:=fun ds P=>∃a b m,ds=[.int a,.int b,.int m]/\2<=m/\-(2 ^ 62)<a/\a<2 ^ 62/\P (.int (jJ "less" a b m)) [none,none,none]
def Fz:US:=
 (bO (aj (fI (fun _ j=>0<j) fun i j=>.int (i % j)) (aj (kZ fun i j=>.int (i-j)) (aa 0) (aa 1)) (aa 2)))
theorem BG:∀ds P,ds.length=kJ.length->vD ds P->Fz (bF kJ P) (ay (3-kJ.length) ds):=by
 rintro ds P - ⟨a,b,m,rfl,hm,h1,h2,k⟩
 simp only[ay,kJ,List.map_cons,List.map_nil,List.length_cons,List.length_nil,Nat.reduceAdd,Nat.reduceSub,List.replicate,List.cons_append,List.nil_append]
 unfold Fz
 repeat walk_at "u"
 exact k
abbrev i8:List Bool:=[false,false,false]
def pW:fH:=fun ds P=>∃a b m,ds=[.int a,.int b,.int m]/\2<=m/\-(2 ^ 62)<a/\a<2 ^ 62/\P (.int (jJ "times" a b m)) [none,none,none]
def AJ:US:=
 (bO (aj (fI (fun _ j=>0<j) fun i j=>.int (i % j)) (aj (fI jV fun i j=>.int (i * j)) (aa 0) (aa 1)) (aa 2)))
theorem yQ:∀ds P,ds.length=i8.length->pW ds P->AJ (bF i8 P) (ay (3-i8.length) ds):=by
 rintro ds P - ⟨a,b,m,rfl,hm,h1,h2,k⟩
 simp only[ay,i8,List.map_cons,List.map_nil,List.length_cons,List.length_nil,Nat.reduceAdd,Nat.reduceSub,List.replicate,List.cons_append,List.nil_append]
 unfold AJ
 repeat walk_at "u"
 exact k
abbrev i9:List Bool:=[false,false,false]
def pX:fH:=fun ds P=>∃a b m,ds=[.int a,.int b,.int m]/\2<=m/\-(2 ^ 62)<a/\a<2 ^ 62/\P (.int (jJ "below" a b m)) [none,none,none]
def AK:US:=
 (bO (zK (aN (aj (kZ fun i j=>.bl (decide (i<j))) (aa 0) (aa 1))) (uC (.int 1)) (uC (.int 0))))
theorem yR:∀ds P,ds.length=i9.length->pX ds P->AK (bF i9 P) (ay (3-i9.length) ds):=by
 rintro ds P - ⟨a,b,m,rfl,hm,h1,h2,k⟩
 simp only[ay,i9,List.map_cons,List.map_nil,List.length_cons,List.length_nil,Nat.reduceAdd,Nat.reduceSub,List.replicate,List.cons_append,List.nil_append]
 unfold AK
 unfold jJ at k
 rw[if_neg (by decide +kernel),if_neg (by decide +kernel),if_neg (by decide +kernel),if_pos rfl] at k
 repeat walk_at "u"
 with_reducible refine fo ?_ ?_
 ·intro h
  rw[if_pos (of_decide_eq_true h)] at k
  repeat walk_at "u"
  exact k
 ·intro h
  rw[if_neg (of_decide_eq_false h)] at k
  repeat walk_at "u"
  exact k
abbrev kI:List Bool:=[false,false,false]
def vB:fH:=fun ds P=>∃a b m,ds=[.int a,.int b,.int m]/\2<=m/\-(2 ^ 62)<a/\a<2 ^ 62/\P (.int (jJ "same" a b m)) [none,none,none]
def Fx:US:=
 (bO (zK (aN (aj (kc false) (aa 0) (aa 1))) (uC (.int 1)) (uC (.int 0))))
theorem BE:∀ds P,ds.length=kI.length->vB ds P->Fx (bF kI P) (ay (3-kI.length) ds):=by
 rintro ds P - ⟨a,b,m,rfl,hm,h1,h2,k⟩
 simp only[ay,kI,List.map_cons,List.map_nil,List.length_cons,List.length_nil,Nat.reduceAdd,Nat.reduceSub,List.replicate,List.cons_append,List.nil_append]
 unfold Fx
 unfold jJ at k
 rw[if_neg (by decide +kernel),if_neg (by decide +kernel),if_neg (by decide +kernel),if_neg (by decide +kernel)] at k
 repeat walk_at "u"
 with_reducible refine fo ?_ ?_
 ·intro h
  rw[if_pos (of_decide_eq_true h)] at k
  repeat walk_at "u"
  exact k
 ·intro h
  rw[if_neg (of_decide_eq_false h)] at k
  repeat walk_at "u"
  exact k
def QB(gE gG fj fk gD:Addr):Addr->fH->Prop:=fun a m=>(a=gE/\m=vC)\/(a=gG/\m=vD)\/(a=fj/\m=pW)\/(a=fk/\m=pX)\/(a=gD/\m=vB)
theorem KW{a1 a2 a3 a4 a5:Addr}{o:Str}(h:o∈dO):∃a mm,([("plus",a1),("less",a2),("times",a3),("below",a4),("same",a5)]:List (Str×Addr)).lookup o=some a/\QB a1 a2 a3 a4 a5 a mm/\∀(x y m:Int) (P:D->ai->Prop),2<=m->-(2 ^ 62)<x->x<2 ^ 62->P (.int (jJ o x y m)) [none,none,none]->mm [.int x,.int y,.int m] P:=by
 simp only[dO,List.mem_cons,List.not_mem_nil,or_false] at h
 rcases h with rfl|rfl|rfl|rfl|rfl
 ·exact⟨a1,_,by with_unfolding_all rfl,.inl ⟨rfl,rfl⟩,fun x y m P h1 h2 h3 k=>⟨x,y,m,rfl,h1,h2,h3,k⟩⟩
 ·exact⟨a2,_,by with_unfolding_all rfl,.inr (.inl ⟨rfl,rfl⟩),fun x y m P h1 h2 h3 k=>⟨x,y,m,rfl,h1,h2,h3,k⟩⟩
 ·exact⟨a3,_,by with_unfolding_all rfl,.inr (.inr (.inl ⟨rfl,rfl⟩)),fun x y m P h1 h2 h3 k=>⟨x,y,m,rfl,h1,h2,h3,k⟩⟩
 ·exact⟨a4,_,by with_unfolding_all rfl,.inr (.inr (.inr (.inl ⟨rfl,rfl⟩))),fun x y m P h1 h2 h3 k=>⟨x,y,m,rfl,h1,h2,h3,k⟩⟩
 ·exact⟨a5,_,by with_unfolding_all rfl,.inr (.inr (.inr (.inr ⟨rfl,rfl⟩))),fun x y m P h1 h2 h3 k=>⟨x,y,m,rfl,h1,h2,h3,k⟩⟩
theorem Ei{o:Str}(h:o∈dO):(["plus", "less", "times", "below", "same"]:List Str).contains o=true:=by
 simpa[dO] using h
theorem vo{o:Str}(h:o = "number"\/o = "name"):(["plus", "less", "times", "below", "same"]:List Str).contains o=false:=by
 rcases h with rfl|rfl<;>decide +kernel
theorem E8{o:Option Int}:(o.map D.int).getD (.int 0)=.int (o.getD 0):=by cases o<;>rfl
abbrev cj:List Bool:=[false,false]
def dG:fH:=fun ds P=>∃(p:Part) (W:cP),ds=[p.d,dJ false W]/\P (.int (p.val W)) [none,none]
def rR:US:=
 (bO (zK (aN (aj (kc false) (aj bc (aa 0) (uC (.int 0))) (uC (.str "number")))) (aj bc (aa 0) (uC (.int 1))) (wC (aa 1) (aj bc (aa 0) (uC (.int 1))) (uC (.int 0)))))
theorem sG:∀ds P,ds.length=cj.length->dG ds P->rR (bF cj P) (ay (2-cj.length) ds):=by
 rintro ds P - ⟨p,W,rfl,k⟩
 simp only[ay,cj,List.map_cons,List.map_nil,List.length_cons,List.length_nil,Nat.reduceAdd,Nat.reduceSub,List.replicate,List.cons_append,List.nil_append]
 unfold rR
 cases p with
 |num n=>
  simp only[Part.d] at k ⊢
  have hb:VS.bare (.str "number")=true:=rfl
  repeat walk_at "u"
  exact k
 |name x=>
  simp only[Part.d,dJ,sD] at k ⊢
  have e:sY (.str "name") (.str "number")=some false:=by decide +kernel
  have hg:((bQ (W.map fun p=>DK.s (.inr p.1)) (W.map fun p=>D.int p.2) (.s (.inr x))).getD (.int 0))=.int (look W x):=by rw[vP (f:=D.int),E8];rfl
  repeat walk_at "u"
  rw[hg]
  repeat walk_at "u"
  exact k
theorem iz{p:Part}{W:cP}{P:D->ai->Prop}(k:P (.int (p.val W)) [none,none]):dG [p.d,dJ false W] P:=⟨p,W,rfl,k⟩
abbrev dk:List Bool:=[false,false,false]
def fL:fH:=fun ds P=>∃(w:aR) (W:cP) (m:Int),ds=[w.d,dJ false W,.int m]/\2<=m/\m<=2 ^ 61/\w.nb m/\gQ m W/\P (.int (w.val m W)) [none,none,none]
def oT(gE gG fj fk gD:Addr):US:=
 (aC (di (aN (wA true ["plus", "less", "times", "below", "same"] (aj bc (aa 0) (uC (.int 0)))))
 (bO (aA cj dG (ae (aa 0) (ae (aa 1) ao))))
 cg)
 (aC (aX (wB [("plus",gE),("less",gG),("times",fj),("below",fk),("same",gD)] (aj bc (aa 0) (uC (.int 0)))) (au 3))
 (bO (qa 3 (QB gE gG fj fk gD) hJ (ae (aA cj dG (ae (aj bc (aa 0) (uC (.int 1))) (ae (aa 1) ao))) (ae (aA cj dG (ae (aj bc (aa 0) (uC (.int 2))) (ae (aa 1) ao))) (ae (aa 2) ao)))))))
theorem qB(gE gG fj fk gD:Addr):∀ds P,ds.length=dk.length->fL ds P->oT gE gG fj fk gD (bF dk P) (ay (4-dk.length) ds):=by
 rintro ds P - ⟨w,W,m,rfl,hm,Cr,hw,hW,k⟩
 simp only[ay,dk,List.map_cons,List.map_nil,List.length_cons,List.length_nil,Nat.reduceAdd,Nat.reduceSub,List.replicate,List.cons_append,List.nil_append]
 unfold oT
 cases w with
 |one p=>
  obtain⟨x,y,hx,e⟩:∃(x:Str) (y:D),(x = "number"\/x = "name")/\(aR.one p).d=.tup [.str x,y]:=by
   cases p with
   |num n=>exact⟨_,_,.inl rfl,rfl⟩
   |name n=>exact⟨_,_,.inr rfl,rfl⟩
  have ep:p.d=.tup [.str x,y]:=e
  rw[e]
  have hc:=vo hx
  repeat walk_at "u"
  rw[hc]
  repeat walk_at "u"
  rw[<-ep,Part.aT,fY]
  refine iz ?_
  repeat walk_at "u"
  exact k
 |two o p q=>
  have hc:=Ei hw.1
  obtain⟨a,mm,h1,h2,h3⟩:=KW (a1:=gE) (a2:=gG) (a3:=fj) (a4:=fk) (a5:=gD) hw.1
  simp only[aR.d] at k ⊢
  have E4:=p.bare
  have wb:=q.bare
  have hv:=Part.uS hm hW hw.2.1
  repeat walk_at "u"
  rw[hc]
  repeat walk_at "u"
  rw[Part.aT,fY]
  refine iz ?_
  repeat walk_at "u"
  rw[Part.aT,fY]
  refine iz ?_
  repeat walk_at "u"
  refine h3 _ _ _ _ hm (by omega) (by omega) ?_
  repeat walk_at "u"
  exact k
abbrev gu:List Bool:=[false,false]
def j9:fH:=fun ds P=>∃(e:End) (W:cP),ds=[e.d,dJ false W]/\e≠.stop/\P (.int (e.next W)) [none,none]
def x6:US:=
 (aC (di (aN (aj (kc false) (aj bc (aa 0) (uC (.int 0))) (uC (.str "go"))))
 (bO (aj bc (aa 0) (uC (.int 1))))
 cg)
 (bO (zK (aN (aj (kc true) (aA cj dG (ae (aj bc (aa 0) (uC (.int 1))) (ae (aa 1) ao))) (uC (.int 0)))) (aj bc (aa 0) (uC (.int 2))) (aj bc (aa 0) (uC (.int 3))))))
theorem w8:∀ds P,ds.length=gu.length->j9 ds P->x6 (bF gu P) (ay (2-gu.length) ds):=by
 rintro ds P - ⟨e,W,rfl,he,k⟩
 simp only[ay,gu,List.map_cons,List.map_nil,List.length_cons,List.length_nil,Nat.reduceAdd,Nat.reduceSub,List.replicate,List.cons_append,List.nil_append]
 unfold x6
 cases e with
 |stop=>exact absurd rfl he
 |go a=>
  simp only[End.d,End.next] at k ⊢
  repeat walk_at "u"
  exact k
 |choose p a b=>
  simp only[End.d,End.next] at k ⊢
  have e:sY (.str "choose") (.str "go")=some false:=by decide +kernel
  have hb:=p.bare
  repeat walk_at "u"
  rw[Part.aT,fY]
  refine iz ?_
  repeat walk_at "u"
  with_reducible refine fo ?_ ?_
  ·intro h
   rw[if_neg (by simpa using h)] at k
   repeat walk_at "u"
   exact k
  ·intro h
   rw[if_pos (by simpa using h)] at k
   repeat walk_at "u"
   exact k
theorem xD{w:aR}{W:cP}{m:Int}{P:D->ai->Prop}(h1:2<=m)(h2:m<=2 ^ 61)(h3:w.nb m)(h4:gQ m W)(k:P (.int (w.val m W)) [none,none,none]):fL [w.d,dJ false W,.int m] P:=⟨w,W,m,rfl,h1,h2,h3,h4,k⟩
theorem xE{e:End}{W:cP}{P:D->ai->Prop}(h:e≠.stop)(k:P (.int (e.next W)) [none,none]):j9 [e.d,dJ false W] P:=⟨e,W,rfl,h,k⟩
theorem zu{W:cP}:dJ true W=.cy true false (W.map fun p=>DK.s (.inr p.1)) (W.map fun p=>D.int p.2):=rfl
def gj(m:Int)(bs:List b_):Nat->Int->cP->List Int->List Int×Bool
 |0,_,_,T=>(T,false)
 |n+1,b,W,T=>match bs[b.toNat]? with
  |none=>(T,false)
  |some dA=>match dA.2 with
   | .stop=>((bz m dA.1 (W,T)).2,true)
   |e=>gj m bs n (e.next (bz m dA.1 (W,T)).1) (bz m dA.1 (W,T)).1 (bz m dA.1 (W,T)).2
theorem End.Ag{m many:Int}{W:cP}:∀{e:End},e.nb m many->e≠.stop->0<=e.next W/\e.next W<many
 | .stop,_,h=>absurd rfl h
 | .go a,h,_=>h
 | .choose p a b,h,_=>by obtain⟨_,h1,h2,h3,h4⟩:=h;simp only[End.next];split<;>exact⟨by assumption,by assumption⟩
abbrev e8:List Bool:=[false,true,true,false]
def iw:fH:=fun ds P=>∃(dl:List az) (W:cP) (T:List Int) (m:Int),ds=[.lst false (dl.map az.d),dJ true W,.lst true (T.map .int),.int m]/\2<=m/\m<=2 ^ 61/\(∀d∈dl,d.nb m)/\gQ m W/\W.length+dl.length<=900000/\T.length+dl.length<=900000/\P .bJ [none,some (dJ true (bz m dl (W,T)).1),some (.lst true ((bz m dl (W,T)).2.map .int)),none]
def rV:US:=
 (eC (dI bx (aa 0)) (au 4)
 (di (aN (aj (kc false) (aj bc (aa 4) (uC (.int 0))) (uC (.str "put"))))
 (iZ 1 (aj bc (aa 4) (uC (.int 1))) (aA dk fL (ae (aj bc (aa 4) (uC (.int 2))) (ae (aa 1) (ae (aa 3) ao)))))
 (cB 2 (ae (aA cj dG (ae (aj bc (aa 4) (uC (.int 1))) (ae (aa 1) ao))) ao))))
theorem sJ:∀ds P,ds.length=e8.length->iw ds P->rV (bF e8 P) (ay (5-e8.length) ds):=by
 rintro ds P - ⟨dl,W,T,m,rfl,hm,Cr,hd,hW,rn,rm,k⟩
 simp only[ay,e8,List.map_cons,List.map_nil,List.length_cons,List.length_nil,Nat.reduceAdd,Nat.reduceSub,List.replicate,List.cons_append,List.nil_append]
 unfold rV
 repeat walk_at "u"
 refine bN (fun xs e=>∃(Ct:List az) (W':cP) (T':List Int) (o4:Option D),xs=Ct.map az.d/\(∀d∈Ct,d.nb m)/\gQ m W'/\W'.length+Ct.length<=900000/\T'.length+Ct.length<=900000/\bz m Ct (W',T')=bz m dl (W,T)/\e=[some (.lst false (dl.map az.d)),some (dJ true W'),some (.lst true (T'.map .int)),some (.int m),o4]) ?_ ?_ _ _ ⟨dl,W,T,_,rfl,hd,hW,rn,rm,rfl,rfl⟩
 ·rintro e ⟨Ct,W',T',o4,hx,-,-,-,-,he,rfl⟩
  have:Ct=[]:=by simpa using hx.symm
  subst this
  rw[<-he] at k
  repeat walk_at "u"
  exact k
 ·rintro x xs e ih ⟨Ct,W',T',o4,hx,hd,hW,rn,rm,he,rfl⟩
  cases Ct with
  |nil=>simp at hx
  |cons d Ct=>
   simp only[List.map_cons,List.cons.injEq] at hx
   obtain⟨rfl,rfl⟩:=hx
   simp only[List.length_cons] at rn rm
   have VZ:=hd d (.head _)
   have hl:=uD (m:=m) (W:=W') (T:=T') (d:=d)
   have cb:=xT (T:=T') hm hW VZ
   have nW:∀o4,pL (au 4) (di (aN (aj (kc false) (aj bc (aa 4) (uC (.int 0))) (uC (.str "put")))) (iZ 1 (aj bc (aa 4) (uC (.int 1))) (aA dk fL (ae (aj bc (aa 4) (uC (.int 2))) (ae (aa 1) (ae (aa 3) ao))))) (cB 2 (ae (aA cj dG (ae (aj bc (aa 4) (uC (.int 1))) (ae (aa 1) ao))) ao))) (bF [false,true,true,false] P) (Ct.map az.d) [some (.lst false (dl.map az.d)),some (dJ true (iN m (W',T') d).1),some (.lst true ((iN m (W',T') d).2.map .int)),some (.int m),o4]:=fun o4=>ih _ ⟨Ct,(iN m (W',T') d).1,(iN m (W',T') d).2,o4,rfl,fun x hx=>hd x (.tail _ hx),cb,by omega,by omega,he,rfl⟩
   cases d with
   |put x w=>
    simp only[az.d] at nW ⊢
    have hb:=w.bare
    have hz:(W'.map fun p=>D.int p.2).length<=1000000:=by rw[List.length_map];omega
    rw[zu]
    repeat walk_at "u"
    rw[aR.aT,<-zu,fY]
    refine xD hm Cr VZ hW ?_
    rw[zu]
    repeat walk_at "u"
    rw[kg (f:=D.int)]
    exact nW _
   |tell p=>
    simp only[az.d] at nW ⊢
    have e1:sY (.str "tell") (.str "put")=some false:=by decide +kernel
    have hb:=p.bare
    have hz:(T'.map D.int).length<=1000000:=by rw[List.length_map];omega
    repeat walk_at "u"
    rw[Part.aT,fY]
    refine iz ?_
    repeat walk_at "u"
    rw[show T'.map D.int++[D.int (p.val W')]=(T'++[p.val W']).map D.int by simp]
    exact nW _
theorem ze{dl:List az}{W:cP}{T:List Int}{m:Int}{P:D->ai->Prop}(h1:2<=m)(h2:m<=2 ^ 61)(h3:∀d∈dl,d.nb m)(h4:gQ m W)(h5:W.length+dl.length<=900000)(h6:T.length+dl.length<=900000)(k:P .bJ [none,some (dJ true (bz m dl (W,T)).1),some (.lst true ((bz m dl (W,T)).2.map .int)),none]):iw [.lst false (dl.map az.d),dJ true W,.lst true (T.map .int),.int m] P:=⟨dl,W,T,m,rfl,h1,h2,h3,h4,h5,h6,k⟩
theorem ja(dl:List az):VS.aT (.lst false (dl.map az.d))=.lst false (dl.map az.d):=by rw[b4,aV az.aT]
abbrev j6:List Bool:=[false,false,false]
def qU:fH:=fun ds P=>∃(m:Int) (bs:List b_) (W:cP) (n K:Nat),ds=[a6 false m bs,dJ false W,.int n]/\2<=m/\m<=2 ^ 61/\0<bs.length/\yS m bs/\gQ m W/\(∀b∈bs,b.1.length<=K)/\W.length+n * K<=900000/\n<=100000/\P (.tup [.lst true ((gj m bs n 0 W []).1.map .int),.bl (gj m bs n 0 W []).2]) [none,none,none]
def Jr:US:=
 (aC (aX (a7 0) (fN 2 (bC (au 3) (bC (bB 4) fO))))
 (aC (aX (pR pZ (ae (aa 1) ao)) (au 5))
 (aC (aX (cW ao) (au 6))
 (aC (aX (uC (.int 0)) (au 7))
 (aC (eC (fw (ae (a7 2) ao)) (au 8)
 (aC (aX (aj dz (aa 4) (aa 7)) (fN 2 (bC (bB 9) (bC (bB 10) fO))))
 (aC (zL (aA e8 iw (ae (aa 9) (ae (aa 5) (ae (aa 6) (ae (aa 3) ao))))))
 (aC (di (aN (aj (kc false) (aj bc (aa 10) (uC (.int 0))) (uC (.str "stop"))))
 (bO (gf (ae (eZ 6) (ae (uC (.bl true)) ao))))
 cg)
 (aX (aA gu j9 (ae (aa 10) (ae (aa 5) ao))) (au 7))))))
 (bO (gf (ae (eZ 6) (ae (uC (.bl false)) ao)))))))))
theorem pure_run:∀ds P,ds.length=j6.length->qU ds P->Jr (bF j6 P) (ay (11-j6.length) ds):=by
 rintro ds P - ⟨m,bs,W,n,K,rfl,hm,Cr,Jl,MQ,hW,hK,hl,hn,k⟩
 simp only[ay,j6,List.map_cons,List.map_nil,List.length_cons,List.length_nil,Nat.reduceAdd,Nat.reduceSub,List.replicate,List.cons_append,List.nil_append]
 unfold Jr
 have uq:=bH (xs:=bs) cu
 have zm:VS.bare (.lst false (bs.map (aU false)))=true:=by rw[jr,uq];rfl
 have Y9:=uw W
 have B7:VS.aT (.lst false (bs.map (aU false)))=.lst false (bs.map (aU false)):=by rw[b4,aV (fh false)]
 have Ig:=tU m bs
 simp only[a6] at Ig ⊢
 rw[show dJ false W=.cy false false (W.map fun p=>DK.s (.inr p.1)) (W.map fun p=>D.int p.2) from rfl]
 repeat walk_at "u"
 rw[B7]
 repeat walk_at "u"
 rw[<-zu]
 refine bN (fun xs e=>∃(b:Int) (W':cP) (T':List Int) (o8 o9 Sm:Option D),0<=b/\b<bs.length/\gQ m W'/\W'.length+xs.length * K<=900000/\T'.length+xs.length * K<=900000/\gj m bs xs.length b W' T'=gj m bs n 0 W []/\e=[some (a6 false m bs),some (dJ false W),some (.int n),some (.int m),some (.lst false (bs.map (aU false))),some (dJ true W'),some (.lst true (T'.map .int)),some (.int b),o8,o9,Sm]) ?_ ?_ _ _ ⟨0,W,[],_,_,_,by omega,by omega,hW,?_,?_,?_,rfl⟩
 ·rintro e ⟨b,W',T',o8,o9,Sm,hb,wb,OP,rn,rm,hr,rfl⟩
  rw[<-hr] at k
  repeat walk_at "u"
  exact k
 ·rintro x xs e ih ⟨b,W',T',o8,o9,Sm,hb,wb,OP,rn,rm,hr,rfl⟩
  have lT:g_ (bs.map (aU false)) b=some (aU false bs[b.toNat]):=p3 hb wb
  have VQ:bs[b.toNat]? = some bs[b.toNat]:=List.getElem?_eq_getElem (by omega)
  have kX:bs[b.toNat]∈bs:=List.getElem_mem _
  generalize bs[b.toNat]=dA at lT VQ kX
  obtain⟨dl,e⟩:=dA
  have Q_:=MQ _ kX
  have hKl:dl.length<=K:=hK _ kX
  simp only[List.length_cons,Nat.add_mul,Nat.one_mul] at rn rm hr
  simp only[gj,VQ] at hr
  have zl:=cu (dl,e)
  have i_:=bH (xs:=dl) az.bare
  have TB:=e.bare
  have sW:=ja dl
  have FI:=e.aT
  simp only[aU] at lT zl
  repeat walk_at "u"
  rw[sW,FI]
  repeat walk_at "u"
  rw[sW]
  refine ze hm Cr Q_.1 OP (by omega) (by omega) ?_
  have Yq:=Ax (bz m dl (W',T')).1
  have Q2:=xB (bz m dl (W',T')).2
  repeat walk_at "u"
  refine⟨by simp only[sU,Yq,Q2];rfl,?_⟩
  have hlen:=rH (m:=m) (dl:=dl) (W:=W') (T:=T')
  have cb:=uB (T:=T') hm OP Q_.1
  cases e with
  |stop=>
   simp only[] at hr
   rw[<-hr] at k
   simp only[End.d]
   repeat walk_at "u"
   exact k
  |go a=>
   simp only[] at hr
   have e1:sY (.str "go") (.str "stop")=some false:=by decide +kernel
   have OB:=End.Ag (W:=(bz m dl (W',T')).1) Q_.2 (by simp)
   simp only[End.d]
   repeat walk_at "u"
   rw[show(D.tup [D.str "go",D.int a])=(End.go a).d from rfl,FI,fY]
   refine xE (by simp) ?_
   repeat walk_at "u"
   exact ih _ ⟨_,(bz m dl (W',T')).1,(bz m dl (W',T')).2,_,_,_,OB.1,OB.2,cb,by omega,by omega,hr,rfl⟩
  |choose p a b'=>
   simp only[] at hr
   have e1:sY (.str "choose") (.str "stop")=some false:=by decide +kernel
   have OB:=End.Ag (W:=(bz m dl (W',T')).1) Q_.2 (by simp)
   simp only[End.d]
   repeat walk_at "u"
   rw[show(D.tup [D.str "choose",p.d,D.int a,D.int b'])=(End.choose p a b').d from rfl,FI,fY]
   refine xE (by simp) ?_
   repeat walk_at "u"
   exact ih _ ⟨_,(bz m dl (W',T')).1,(bz m dl (W',T')).2,_,_,_,OB.1,OB.2,cb,by omega,by omega,hr,rfl⟩
 ·simp[ff];omega
 ·simp[ff];omega
 ·simp[ff]
def End.parts:End->List Part | .choose p _ _=>[p]|_=>[]
def aR.parts:aR->List Part | .one p=>[p] | .two _ p q=>[p,q]
def az.parts:az->List Part | .put _ w=>w.parts | .tell p=>[p]
def Part.names:Part->List Str | .name x=>[x] | .num _=>[]
def aG(ps:List Part):List Str:=ps.flatMap Part.names
def az.names:az->List Str | .put x w=>x::aG w.parts | .tell p=>aG [p]
def b_.names(b:b_):List Str:=b.1.flatMap az.names++aG b.2.parts
def aI(bs:List b_):List Str:=bs.flatMap b_.names
theorem kF(ps:List Part):VS.eJ (.lst true (ps.map Part.d))=true:=by simp only[pf,eI Part.eJ];rfl
theorem eD(ps:List Str):VS.eJ (.lst true (ps.map .str))=true:=by rw[pf,xo];rfl
theorem nN(o:Bool)(ps:List Part):VS.aT (.lst o (ps.map Part.d))=.lst false (ps.map Part.d):=by rw[b4,aV Part.aT]
theorem el{ps:List Part}:(aG ps).length<=ps.length:=by
 induction ps with
 |nil=>simp[aG]
 |cons p ps ih=>cases p<;>simp[aG,Part.names] at ih ⊢<;>omega
theorem p4{w:aR}:w.parts.length<=2:=by cases w<;>simp[aR.parts]
theorem lO{w:az}:w.parts.length<=2:=by cases w<;>simp[az.parts,p4]
theorem zw{w:az}:w.names.length<=3:=by
 cases w with
 |put x w=>have:=el (ps:=w.parts);have:=p4 (w:=w);simp[az.names];omega
 |tell p=>have:=el (ps:=[p]);simp[az.names] at this ⊢;omega
theorem jA{e:End}:e.parts.length<=1:=by cases e<;>simp[End.parts]
abbrev bE:List Bool:=[false]
def cH:fH:=fun ds P=>∃e:End,ds=[e.d]/\P (.lst true (e.parts.map Part.d)) [none]
def iO:US:=
 (bO (zK (aN (aj (kc false) (aj bc (aa 0) (uC (.int 0))) (uC (.str "choose")))) (cW (ae (aj bc (aa 0) (uC (.int 1))) ao)) (cW ao)))
theorem j0:∀ds P,ds.length=bE.length->cH ds P->iO (bF bE P) (ay (1-bE.length) ds):=by
 rintro ds P - ⟨e,rfl,k⟩
 simp only[ay,bE,List.map_cons,List.map_nil,List.length_cons,List.length_nil,Nat.reduceAdd,Nat.reduceSub,List.replicate,List.cons_append,List.nil_append]
 unfold iO
 cases e with
 |stop=>
  have e1:sY (.str "stop") (.str "choose")=some false:=by decide +kernel
  simp only[End.d]
  repeat walk_at "u"
  exact k
 |go a=>
  have e1:sY (.str "go") (.str "choose")=some false:=by decide +kernel
  simp only[End.d]
  repeat walk_at "u"
  exact k
 |choose p a b=>
  have hb:=p.bare
  simp only[End.d]
  repeat walk_at "u"
  exact k
abbrev b6:List Bool:=[false]
def dS:fH:=fun ds P=>∃w:aR,ds=[w.d]/\(∀o p q,w=.two o p q->o∈dO)/\P (.lst true (w.parts.map Part.d)) [none]
def jc:US:=
 (bO (zK (aN (wA false ["plus", "less", "times", "below", "same"] (aj bc (aa 0) (uC (.int 0))))) (cW (ae (aj bc (aa 0) (uC (.int 1))) (ae (aj bc (aa 0) (uC (.int 2))) ao))) (cW (ae (a7 0) ao))))
theorem kT:∀ds P,ds.length=b6.length->dS ds P->jc (bF b6 P) (ay (1-b6.length) ds):=by
 rintro ds P - ⟨w,rfl,ho,k⟩
 simp only[ay,b6,List.map_cons,List.map_nil,List.length_cons,List.length_nil,Nat.reduceAdd,Nat.reduceSub,List.replicate,List.cons_append,List.nil_append]
 unfold jc
 cases w with
 |one p=>
  have V3:=p.bare
  cases p with
  |num n=>
   have hc:=vo (o := "number") (.inl rfl)
   simp only[aR.d,Part.d] at V3 ⊢
   repeat walk_at "u"
   exact k
  |name x=>
   have hc:=vo (o := "name") (.inr rfl)
   simp only[aR.d,Part.d] at V3 ⊢
   repeat walk_at "u"
   exact k
 |two o p q=>
  have hc:=Ei (ho o p q rfl)
  have E4:=p.bare
  have wb:=q.bare
  simp only[aR.d]
  repeat walk_at "u"
  rw[hc]
  repeat walk_at "u"
  exact k
def aR.gY(w:aR):Prop:=∀o p q,w=.two o p q->o∈dO
def az.gY:az->Prop | .put _ w=>w.gY | .tell _=>True
theorem aR.nb.op{m:Int}{w:aR}(h:w.nb m):w.gY:=fun o p q e=>by subst e;exact h.1
theorem az.nb.op{m:Int}{d:az}(h:d.nb m):d.gY:=by cases d with|put x w=>exact aR.nb.op (m:=m) h|tell p=>trivial
theorem og{w:aR}{P:D->ai->Prop}(h:w.gY)(k:P (.lst true (w.parts.map Part.d)) [none]):dS [w.d] P:=⟨w,rfl,h,k⟩
theorem iL{w:End}{P:D->ai->Prop}(k:P (.lst true (w.parts.map Part.d)) [none]):cH [w.d] P:=⟨w,rfl,k⟩
abbrev bV:List Bool:=[false]
def de:fH:=fun ds P=>∃d:az,ds=[d.d]/\d.gY/\P (.lst true (d.parts.map Part.d)) [none]
def jN:US:=
 (bO (zK (aN (aj (kc false) (aj bc (aa 0) (uC (.int 0))) (uC (.str "put")))) (aA b6 dS (ae (aj bc (aa 0) (uC (.int 2))) ao)) (cW (ae (aj bc (aa 0) (uC (.int 1))) ao))))
theorem lA:∀ds P,ds.length=bV.length->de ds P->jN (bF bV P) (ay (1-bV.length) ds):=by
 rintro ds P - ⟨d,rfl,hd,k⟩
 simp only[ay,bV,List.map_cons,List.map_nil,List.length_cons,List.length_nil,Nat.reduceAdd,Nat.reduceSub,List.replicate,List.cons_append,List.nil_append]
 unfold jN
 cases d with
 |put x w=>
  have hb:=w.bare
  have hn:=kF w.parts
  simp only[az.d]
  repeat walk_at "u"
  rw[aR.aT]
  refine og hd ?_
  repeat walk_at "u"
  exact k
 |tell p=>
  have e1:sY (.str "tell") (.str "put")=some false:=by decide +kernel
  have hb:=p.bare
  simp only[az.d]
  repeat walk_at "u"
  exact k
abbrev bZ:List Bool:=[false]
def dn:fH:=fun ds P=>∃ps:List Part,ds=[.lst false (ps.map Part.d)]/\ps.length<=100000/\P (.lst true ((aG ps).map .str)) [none]
def mO:US:=
 (bO (fP 1 (dI bx (aa 0)) (au 0) (aN (aj (kc false) (aj bc (aa 0) (uC (.int 0))) (uC (.str "name")))) (fE (aj bc (aa 0) (uC (.int 1))))))
theorem pk:∀ds P,ds.length=bZ.length->dn ds P->mO (bF bZ P) (ay (1-bZ.length) ds):=by
 rintro ds P - ⟨ps,rfl,hl,k⟩
 simp only[ay,bZ,List.map_cons,List.map_nil,List.length_cons,List.length_nil,Nat.reduceAdd,Nat.reduceSub,List.replicate,List.cons_append,List.nil_append]
 unfold mO
 repeat walk_at "u"
 refine eM (fun xs acc e=>∃(pre post:List Part) (o:Option D),ps=pre++post/\xs=post.map Part.d/\acc=(aG pre).map .str/\e=[o,some (.lst false (ps.map Part.d))]) ?_ ?_ _ _ _ ⟨[],ps,_,rfl,rfl,rfl,rfl⟩
 ·rintro acc e ⟨pre,post,o,h1,h2,rfl,rfl⟩
  have:post=[]:=by simpa using h2.symm
  subst this
  rw[List.append_nil] at h1
  rw[h1] at k
  repeat walk_at "u"
  exact k
 ·rintro x xs acc e ih ⟨pre,post,o,h1,h2,rfl,rfl⟩
  cases post with
  |nil=>simp at h2
  |cons p post=>
   simp only[List.map_cons,List.cons.injEq] at h2
   obtain⟨rfl,rfl⟩:=h2
   have hz:((aG pre).map D.str).length<=1000000:=by
    have:=el (ps:=pre)
    rw[h1] at hl
    simp at hl ⊢;omega
   cases p with
   |num n=>
    have e1:sY (.str "number") (.str "name")=some false:=by decide +kernel
    simp only[Part.d]
    repeat walk_at "u"
    refine ih _ _ ⟨pre++[.num n],post,_,by simp[h1],rfl,by simp[aG,Part.names],rfl⟩
   |name x=>
    simp only[Part.d]
    repeat walk_at "u"
    refine ih _ _ ⟨pre++[.name x],post,_,by simp[h1],rfl,by simp[aG,Part.names],rfl⟩
theorem jL{d:az}{P:D->ai->Prop}(h:d.gY)(k:P (.lst true (d.parts.map Part.d)) [none]):de [d.d] P:=⟨d,rfl,h,k⟩
theorem hV{ps:List Part}{P:D->ai->Prop}(h:ps.length<=100000)(k:P (.lst true ((aG ps).map .str)) [none]):dn [.lst false (ps.map Part.d)] P:=⟨ps,rfl,h,k⟩
abbrev cv:List Bool:=[false]
def eK:fH:=fun ds P=>∃d:az,ds=[d.d]/\d.gY/\P (.lst true (d.names.map .str)) [none]
def jO:US:=
 (aC (aX (aA bZ dn (ae (aA bV de (ae (aa 0) ao)) ao)) (au 1))
 (bO (zK (aN (aj (kc false) (aj bc (aa 0) (uC (.int 0))) (uC (.str "put")))) (aj Ca (cW (ae (aj bc (aa 0) (uC (.int 1))) ao)) (aa 1)) (eZ 1))))
theorem lB:∀ds P,ds.length=cv.length->eK ds P->jO (bF cv P) (ay (2-cv.length) ds):=by
 rintro ds P - ⟨d,rfl,hd,k⟩
 simp only[ay,cv,List.map_cons,List.map_nil,List.length_cons,List.length_nil,Nat.reduceAdd,Nat.reduceSub,List.replicate,List.cons_append,List.nil_append]
 unfold jO
 have hn:=kF d.parts
 have hs:=eD (aG d.parts)
 have hl:=lO (w:=d)
 repeat walk_at "u"
 rw[az.aT]
 refine jL hd ?_
 repeat walk_at "u"
 rw[nN]
 refine hV (by omega) ?_
 repeat walk_at "u"
 cases d with
 |put x w=>
  simp only[az.d,az.parts,az.names,List.map_cons] at hs k hl ⊢
  have hb:=cX (xs:=aG w.parts)
  have E4:a9 [D.str x]=true:=rfl
  have hz:[D.str x].length+((aG w.parts).map D.str).length<=1000000:=by
   have:=el (ps:=w.parts)
   simp;omega
  repeat walk_at "u"
  exact k
 |tell p=>
  have e1:sY (.str "tell") (.str "put")=some false:=by decide +kernel
  simp only[az.d,az.parts,az.names] at hs k ⊢
  repeat walk_at "u"
  exact k
theorem pI{d:az}{P:D->ai->Prop}(h:d.gY)(k:P (.lst true (d.names.map .str)) [none]):eK [d.d] P:=⟨d,rfl,h,k⟩
theorem E'{α β:Type}{f:α->List β}{n:Nat}(h:∀a,(f a).length<=n):∀l:List α,(l.flatMap f).length<=l.length * n
 | []=>by simp
 |a::l=>by
  have:=h a
  have:=E' h l
  rw[List.flatMap_cons,List.length_append,List.length_cons,Nat.add_mul];omega
abbrev ee:List Bool:=[false]
def gA:fH:=fun ds P=>∃(m:Int) (bs:List b_) (xs:List Str),ds=[a6 false m bs]/\(∀b∈bs,∀d∈b.1,d.gY)/\(aI bs).length<=4000/\(∀x∈aI bs,x∈xs)/\xs.length<64/\∀ys:List Str,ys.Pairwise slt->(∀x,x∈ys↔x∈aI bs)->P (.lst true (ys.map .str)) [none]
def rS:US:=
 (aC (aX (cW ao) (au 1))
 (aC (eC (dI bx (aj bc (aa 0) (uC (.int 1)))) (fN 2 (bC (au 2) (bC (au 3) fO)))
 (aC (eC (dI bx (aa 2)) (au 4)
 (iH 1 (ae (aA cv eK (ae (aa 4) ao)) ao)))
 (iH 1 (ae (aA bZ dn (ae (aA bE cH (ae (aa 3) ao)) ao)) ao))))
 (bO (iY (aa 1)))))
theorem sH:∀ds P,ds.length=ee.length->gA ds P->rS (bF ee P) (ay (5-ee.length) ds):=by
 rintro ds P - ⟨m,bs,xs,rfl,ho,hl,hx,E7,k⟩
 simp only[ay,ee,List.map_cons,List.map_nil,List.length_cons,List.length_nil,Nat.reduceAdd,Nat.reduceSub,List.replicate,List.cons_append,List.nil_append]
 unfold rS
 have uq:=bH (xs:=bs) cu
 have zm:VS.bare (.lst false (bs.map (aU false)))=true:=by rw[jr,uq];rfl
 have B7:d9 (bs.map (aU false))=bs.map (aU false):=aV (fh false)
 simp only[a6]
 repeat walk_at "u"
 rw[B7]
 refine bN (fun ws e=>∃(pre post:List b_) (o2 o3 o4:Option D),bs=pre++post/\ws=post.map (aU false)/\e=[some (a6 false m bs),some (.lst true ((aI pre).map .str)),o2,o3,o4]) ?_ ?_ _ _ ⟨[],bs,_,_,_,rfl,rfl,rfl⟩
 ·rintro e ⟨pre,post,o2,o3,o4,h1,h2,rfl⟩
  have:post=[]:=by simpa using h2.symm
  subst this
  rw[List.append_nil] at h1
  subst h1
  repeat walk_at "u"
  refine⟨fun zs hz hs=>?_,fun ys h1 h2=>?_⟩
  ·have:=gL zs xs hz fun z hz=>hx z (hs z hz)
   omega
  ·repeat walk_at "u"
   exact k ys h1 h2
 ·rintro x ws e ih ⟨pre,post,o2,o3,o4,h1,h2,rfl⟩
  cases post with
  |nil=>simp at h2
  |cons b post=>
   simp only[List.map_cons,List.cons.injEq] at h2
   obtain⟨rfl,rfl⟩:=h2
   obtain⟨dl,en⟩:=b
   have TM:=ho (dl,en) (by rw[h1];simp)
   have SU:(aI pre).length+((dl.flatMap az.names).length+(aG en.parts).length)<=4000:=by
    have:(aI bs).length=(aI pre).length+((dl.flatMap az.names).length+(aG en.parts).length)+(aI post).length:=by
     rw[h1];simp[aI,b_.names];omega
    omega
   have i_:=bH (xs:=dl) az.bare
   simp only[aU]
   repeat walk_at "u"
   refine bN (fun ws e=>∃(dp dq:List az) (o4:Option D),dl=dp++dq/\ws=dq.map az.d/\e=[some (a6 false m bs),some (.lst true ((aI pre++dp.flatMap az.names).map .str)),some (.lst false (dl.map az.d)),some en.d,o4]) ?_ ?_ _ _ ⟨[],dl,o4,rfl,rfl,by simp⟩
   ·rintro e ⟨dp,dq,o4,h3,h4,rfl⟩
    have:dq=[]:=by simpa using h4.symm
    subst this
    rw[List.append_nil] at h3
    subst h3
    have Ji:=kF en.parts
    have Ol:=eD (aG en.parts)
    have v9:=jA (e:=en)
    have TB:=cX (xs:=aG en.parts)
    have hz:((aI pre++dl.flatMap az.names).map D.str).length+((aG en.parts).map D.str).length<=1000000:=by simp only[List.length_map,List.length_append];omega
    repeat walk_at "u"
    rw[End.aT]
    refine iL ?_
    repeat walk_at "u"
    rw[nN]
    refine hV (by omega) ?_
    repeat walk_at "u"
    rw[show(aI pre++dl.flatMap az.names).map D.str++(aG en.parts).map D.str=(aI (pre++[(dl,en)])).map D.str by simp[aI,b_.names]]
    exact ih _ ⟨pre++[(dl,en)],post,_,_,_,by simp[h1],rfl,rfl⟩
   ·rintro x ws e v8 ⟨dp,dq,o4,h3,h4,rfl⟩
    cases dq with
    |nil=>simp at h4
    |cons d dq=>
     simp only[List.map_cons,List.cons.injEq] at h4
     obtain⟨rfl,rfl⟩:=h4
     have Ol:=eD d.names
     have MQ:=cX (xs:=d.names)
     have hz:((aI pre++dp.flatMap az.names).map D.str).length+(d.names.map D.str).length<=1000000:=by
      have:(dl.flatMap az.names).length=(dp.flatMap az.names).length+d.names.length+(dq.flatMap az.names).length:=by rw[h3];simp only[List.flatMap_append,List.flatMap_cons,List.length_append];omega
      simp only[List.length_map,List.length_append];omega
     repeat walk_at "u"
     rw[az.aT]
     refine pI (TM d (by rw[h3];simp)) ?_
     repeat walk_at "u"
     rw[show(aI pre++dp.flatMap az.names).map D.str++d.names.map D.str=(aI pre++(dp++[d]).flatMap az.names).map D.str by simp]
     exact v8 _ ⟨dp++[d],dq,_,by simp[h3],rfl,rfl⟩
theorem IQ{n d:Nat}(h:0<n):HT.eQ n d (some 1)=1:=by
 unfold HT.eQ
 simp
 omega
theorem NB{n d:Nat}:HT.eQ n d none=d:=rfl
theorem zy{α:Type}{a:α}{ds:List α}:eA (a::ds) (some 1) none=ds:=by
 unfold eA
 rw[IQ (by simp),NB]
 simp
theorem i7{n:Nat}(h:0<n):¬(HT.eQ n 0 (some 1)=0/\HT.eQ n n none=n):=fun z=>by
 rw[IQ h] at z
 omega
theorem nB{α:Type}(x:Str)(v:α):∀l:List (Str×α),∀y,y∈(c9 l x v).map (·.1)↔y∈l.map (·.1)\/y=x
 | [],y=>by simp[c9]
 |(z,u)::l,y=>by
  simp only[c9]
  split
  ·rename_i e
   subst e
   simp only[List.map_cons,List.mem_cons]
   constructor
   ·rintro(rfl|h)
    ·exact .inl (.inl rfl)
    ·exact .inl (.inr h)
   ·rintro((rfl|h)|rfl)
    ·exact .inl rfl
    ·exact .inr h
    ·exact .inl rfl
  ·simp only[List.map_cons,List.mem_cons,nB x v l y]
   constructor
   ·rintro(h|h|h)<;>simp[h]
   ·rintro((h|h)|h)<;>simp[h]
theorem jl{α:Type}(x:Str)(v:α):∀l:List (Str×α),(l.map (·.1)).Nodup->((c9 l x v).map (·.1)).Nodup
 | [],_=>by simp[c9]
 |(z,u)::l,h=>by
  simp only[c9]
  simp only[List.map_cons,List.nodup_cons] at h
  split
  ·simp only[List.map_cons,List.nodup_cons];exact h
  ·rename_i e
   simp only[List.map_cons,List.nodup_cons,nB]
   exact⟨fun q=>q.elim h.1 e,jl x v l h.2⟩
structure m6(m:Int)(W:cP):Prop where
 ok:gQ m W
 nd:(W.map (·.1)).Nodup
theorem m6.put{m v:Int}{W:cP}{x:Str}(h:m6 m W)(h0:0<=v)(h1:v<m):m6 m (c9 W x v):=⟨fun q hq=>by
 rcases qh hq with z|z
 ·exact h.ok q z
 ·rw[z];exact⟨h0,h1⟩,jl x v W h.nd⟩
def az.tl:az->List D | .put x w=>[.str x,w.d] | .tell p=>[p.d]
theorem az.hd(d:az):∃s:Str,d.d=.tup (.str s::d.tl):=by cases d<;>exact⟨_,rfl⟩
theorem az.Gv(d:az):a9 d.tl=true:=by cases d<;>simp only[az.tl,bM,d7,DW,aR.bare,Part.bare,Bool.and_self]
theorem az.JS(d:az):d9 d.tl=d.tl:=by cases d<;>simp only[az.tl,eV,fC,iQ,aR.aT,Part.aT]
theorem az.JR(d:az):d.tl.length<=2:=by cases d<;>simp[az.tl]
def Jm(d:D):Prop:=(∃x,d=.str x)\/∃s r,d=.tup (.str s::r)/\(s = "name"->∃x,r=[.str x])
theorem Part.Jm(p:Part):Jm p.d:=by
 cases p with
 |num n=>exact .inr ⟨_,_,rfl,fun h=>absurd h (by decide +kernel)⟩
 |name x=>exact .inr ⟨_,_,rfl,fun _=>⟨x,rfl⟩⟩
theorem az.Jm{d:az}(h:d.gY):∀x∈d.tl,Jm x:=by
 cases d with
 |tell p=>intro x hx;rw[List.mem_singleton.mp hx];exact p.Jm
 |put y w=>
  intro x hx
  rcases List.mem_cons.mp hx with rfl|hx
  ·exact .inl ⟨_,rfl⟩
  ·rw[List.mem_singleton.mp hx]
   cases w with
   |one p=>exact p.Jm
   |two o p q=>
    refine .inr ⟨o,_,rfl,fun e=>?_⟩
    have:=h o p q rfl
    rw[e] at this
    exact absurd this (by decide +kernel)
abbrev dF:List Bool:=[true,false]
def fW:fH:=fun ds P=>∃(x y m:Int) (bs:List b_),ds=[purse x y,a6 false m bs]/\2<=m/\m<=2 ^ 61/\(∀b∈bs,∀d∈b.1,d.gY)/\(bs.flatMap (·.1)).length<=10000/\∀(W:cP) z,m6 m W->W.length<=1+2 * (bs.flatMap (·.1)).length->P (dJ true W) [some (purse z y),none]
def mW:US:=
 (aC (aX (nh (uC (.str "zzzzzz")) (uC (.int 1))) (au 2))
 (aC (eC (dI bx (aj bc (aa 1) (uC (.int 1)))) (fN 2 (bC (au 3) (bC (au 4) fO)))
 (eC (dI bx (aa 3)) (au 5)
 (eC (dI qZ (AZ (aa 5) (l0 (uC (.int 1))) hE)) (au 6)
 (aC (di (qb (lx (yn .str (aa 6))) (aN (aj (kc false) (aA aq av (ae (aa 0) (ae (uC (.int 2)) ao))) (uC (.int 0)))))
 (iZ 2 (aa 6) (aA aq av (ae (aa 0) (ae (aj bc (aa 1) (uC (.int 0))) ao))))
 cg)
 (di (qb (lx (yn .tup (aa 6))) (qb (aN (aj (kc false) (aj bc (aa 6) (uC (.int 0))) (uC (.str "name")))) (aN (aj (kZ fun i j=>.bl (decide (j<i))) (aA aq av (ae (aa 0) (ae (uC (.int 3)) ao))) (uC (.int 0))))))
 (iZ 2 (aj bc (aa 6) (uC (.int 1))) (aA aq av (ae (aa 0) (ae (aj bc (aa 1) (uC (.int 0))) ao))))
 cg)))))
 (bO (eZ 2))))
theorem pB:∀ds P,ds.length=dF.length->fW ds P->mW (bF dF P) (ay (7-dF.length) ds):=by
 rintro ds P - ⟨x,y,m,bs,rfl,hm,Cr,ho,SU,k⟩
 simp only[ay,dF,List.map_cons,List.map_nil,List.length_cons,List.length_nil,Nat.reduceAdd,Nat.reduceSub,List.replicate,List.cons_append,List.nil_append]
 unfold mW
 have uq:=bH (xs:=bs) cu
 have zm:VS.bare (.lst false (bs.map (aU false)))=true:=by rw[jr,uq];rfl
 have B7:d9 (bs.map (aU false))=bs.map (aU false):=aV (fh false)
 rw[show a6 false m bs=.tup [.int m,.lst false (bs.map (aU false))] from rfl]
 repeat walk_at "u"
 rw[B7,show D.cy true false [.s (.inr "zzzzzz")] [D.int 1]=dJ true [("zzzzzz",1)] from rfl]
 refine bN (fun ws e=>∃(post:List b_) (z:Int) (W:cP) (o3 o4 o5 o6:Option D),ws=post.map (aU false)/\(∀b∈post,∀d∈b.1,d.gY)/\m6 m W/\W.length+2 * (post.flatMap (·.1)).length<=1+2 * (bs.flatMap (·.1)).length/\e=[some (purse z y),some (.tup [.int m,.lst false (bs.map (aU false))]),some (dJ true W),o3,o4,o5,o6]) ?_ ?_ _ _ ⟨bs,x,[("zzzzzz",1)],_,_,_,_,rfl,ho,⟨fun q hq=>?_,by simp⟩,by simp only[List.length_cons,List.length_nil];omega,rfl⟩
 ·rintro e ⟨post,z,W,o3,o4,o5,o6,h1,h2,h3,h4,rfl⟩
  have:post=[]:=by simpa using h1.symm
  subst this
  repeat walk_at "u"
  exact k W z h3 (by simp only[List.flatMap_nil,List.length_nil] at h4;omega)
 ·rintro x ws e ih ⟨post,z,W,o3,o4,o5,o6,h1,h2,h3,h4,rfl⟩
  cases post with
  |nil=>simp at h1
  |cons b post=>
   simp only[List.map_cons,List.cons.injEq] at h1
   obtain⟨rfl,rfl⟩:=h1
   obtain⟨dl,en⟩:=b
   have TM:=h2 (dl,en) (.head _)
   simp only[List.flatMap_cons,List.length_append] at h4
   simp only[aU]
   repeat walk_at "u"
   refine bN (fun ws e=>∃(dq:List az) (z:Int) (W:cP) (o5 o6:Option D),ws=dq.map az.d/\(∀d∈dq,d.gY)/\m6 m W/\W.length+2 * dq.length+2 * (post.flatMap (·.1)).length<=1+2 * (bs.flatMap (·.1)).length/\e=[some (purse z y),some (.tup [.int m,.lst false (bs.map (aU false))]),some (dJ true W),some (.lst false (dl.map az.d)),some en.d,o5,o6]) ?_ ?_ _ _ ⟨dl,z,W,_,_,rfl,TM,h3,by omega,rfl⟩
   ·rintro e ⟨dq,z,W,o5,o6,h5,h6,h7,h8,rfl⟩
    have:dq=[]:=by simpa using h5.symm
    subst this
    repeat walk_at "u"
    exact ih _ ⟨post,z,W,_,_,_,_,rfl,fun b hb=>h2 b (.tail _ hb),h7,by simp only[List.length_nil] at h8;omega,rfl⟩
   ·rintro x ws e v8 ⟨dq,z,W,o5,o6,h5,h6,h7,h8,rfl⟩
    cases dq with
    |nil=>simp at h5
    |cons d dq=>
     simp only[List.map_cons,List.cons.injEq] at h5
     obtain⟨rfl,rfl⟩:=h5
     simp only[List.length_cons] at h8
     obtain⟨s,hs⟩:=d.hd
     have Vu:=d.Gv
     have Vt:=d.JS
     have X_:=d.JR
     have Vs:=az.Jm (h6 d (.head _))
     have i_:=d.bare
     rw[hs] at i_ ⊢
     have Jl:a9 (D.str s::d.tl)=true:=by rw[bM,Vu];rfl
     have Yo:¬(HT.eQ (D.str s::d.tl).length 0 (some 1)=0/\HT.eQ (D.str s::d.tl).length (D.str s::d.tl).length none=(D.str s::d.tl).length):=i7 (by simp)
     repeat walk_at "u"
     rw[zy,Vt]
     clear Jl Yo i_ Vu Vt hs
     generalize d.tl=tl at X_ Vs ⊢
     refine bN (fun ws e=>∃(z:Int) (W:cP) (o6:Option D),(∀x∈ws,Jm x)/\m6 m W/\W.length+ws.length+2 * dq.length+2 * (post.flatMap (·.1)).length<=1+2 * (bs.flatMap (·.1)).length/\e=[some (purse z y),some (.tup [.int m,.lst false (bs.map (aU false))]),some (dJ true W),some (.lst false (dl.map az.d)),some en.d,some (.tup (.str s::tl)),o6]) ?_ ?_ _ _ ⟨z,W,_,Vs,h7,by omega,rfl⟩
     ·rintro e ⟨z,W,o6,-,h9,T2,rfl⟩
      repeat walk_at "u"
      exact v8 _ ⟨dq,z,W,_,_,rfl,fun d hd=>h6 d (.tail _ hd),h9,by simp only[List.length_nil] at T2;omega,rfl⟩
     ·rintro x ws e SH ⟨z,W,o6,h8,h9,T2,rfl⟩
      simp only[List.length_cons] at T2
      have hz:(W.map fun p=>D.int p.2).length<=1000000:=by rw[List.length_map];omega
      have fin:∀(W':cP) (z':Int) (d6:D),m6 m W'->W'.length<=W.length+1->_:=fun W' z' d6 g1 g2=>SH [some (purse z' y),some (.tup [.int m,.lst false (bs.map (aU false))]),some (dJ true W'),some (.lst false (dl.map az.d)),some en.d,some (.tup (.str s::tl)),some d6] ⟨z',W',_,fun x hx=>h8 x (.tail _ hx),g1,by omega,rfl⟩
      rcases h8 x (.head _) with⟨t,rfl⟩|⟨t,r,rfl,hr⟩
      ·repeat walk_at "u"
       refine cm (by omega) (by omega) fun a z a0 a1=>?_
       repeat walk_at "u"
       with_reducible refine fo ?_ ?_
       ·intro h
        repeat walk_at "u"
        refine cm (by omega) (by omega) fun b z b0 b1=>?_
        rw[zu]
        repeat walk_at "u"
        rw[kg (f:=D.int)]
        exact fin _ _ _ (h9.put b0 b1) (ij _ _ _)
       ·intro h
        repeat walk_at "u"
        exact fin _ _ _ h9 (by omega)
      ·have lT:g_ (D.str t::r) 0=some (.str t):=by rw[Pe];rfl
       repeat walk_at "u"
       with_reducible refine fo ?_ ?_
       ·intro h
        have h:t = "name":=by simpa using h
        subst h
        obtain⟨q,rfl⟩:=hr rfl
        repeat walk_at "u"
        refine cm (by omega) (by omega) fun a z a0 a1=>?_
        repeat walk_at "u"
        with_reducible refine fo ?_ ?_
        ·intro h
         repeat walk_at "u"
         refine cm (by omega) (by omega) fun b z b0 b1=>?_
         rw[zu]
         repeat walk_at "u"
         rw[kg (f:=D.int)]
         exact fin _ _ _ (h9.put b0 b1) (ij _ _ _)
        ·intro h
         repeat walk_at "u"
         exact fin _ _ _ h9 (by omega)
       ·intro h
        repeat walk_at "u"
        exact fin _ _ _ h9 (by omega)
 ·rw[List.mem_singleton.mp hq]
  exact⟨by decide,by omega⟩
section
variable {m:Int}{bs:List b_}
def Agree(N:List Str)(W W':cP):Prop:=∀x∈N,look W x=look W' x
theorem Part.agree{N:List Str}{W W':cP}{p:Part}(h:Agree N W W')(hp:∀x∈p.names,x∈N):p.val W=p.val W':=by
 cases p with
 |num n=>rfl
 |name x=>exact h x (hp x (.head _))
theorem aR.agree{N:List Str}{W W':cP}{w:aR}(h:Agree N W W')(hp:∀x∈aG w.parts,x∈N):w.val m W=w.val m W':=by
 cases w with
 |one p=>exact Part.agree h fun x hx=>hp x (by simp[aG,aR.parts,hx])
 |two o p q=>
  simp only[aR.val]
  rw[Part.agree (p:=p) h fun x hx=>hp x (by simp[aG,aR.parts,hx]),Part.agree (p:=q) h fun x hx=>hp x (by simp[aG,aR.parts,hx])]
theorem n5{W:cP}{x z:Str}{v:Int}:look (c9 W x v) z=if z=x then v else look W z:=by
 unfold look
 rw[tP]
 split<;>rfl
theorem End.agree{N:List Str}{W W':cP}{e:End}(h:Agree N W W')(he:∀x∈aG e.parts,x∈N):e.next W=e.next W':=by
 cases e with
 |stop=>rfl
 |go a=>rfl
 |choose p a b=>simp only[End.next];rw[Part.agree h fun x hx=>he x (by simp[aG,End.parts,hx])]
end
theorem Part.ok.nb{xs:List Str}{m:Int}{p:Part}(h:p.ok xs m):p.nb m:=by cases p with|num n=>exact h|name x=>trivial
theorem aR.ok.nb{xs:List Str}{m:Int}{w:aR}(h:w.ok xs m):w.nb m:=by cases w with|one p=>exact Part.ok.nb (xs:=xs) h|two o p q=>exact⟨h.1,h.2.1.nb,h.2.2.nb⟩
theorem az.ok.nb{xs:List Str}{m:Int}{d:az}(h:d.ok xs m):d.nb m:=by cases d with|put x w=>exact h.2.nb|tell p=>exact Part.ok.nb (xs:=xs) h
theorem End.ok.nb{xs:List Str}{m many:Int}{e:End}(h:e.ok xs m many):e.nb m many:=by
 cases e with
 |stop=>trivial
 |go a=>exact h
 |choose p a b=>exact⟨h.1.nb,h.2⟩
theorem iS.nb{xs:List Str}{m:Int}{bs:List b_}(h:iS xs m bs):yS m bs:=fun b hb=>⟨fun d hd=>((h b hb).2.1 d hd).nb,(h b hb).2.2.nb⟩
theorem Part.ok.names{xs:List Str}{m:Int}{p:Part}(h:p.ok xs m):∀x∈p.names,x∈xs:=by
 cases p with
 |num n=>intro x hx;cases hx
 |name y=>intro x hx;rw[List.mem_singleton.mp hx];exact h
theorem aR.ok.names{xs:List Str}{m:Int}{w:aR}(h:w.ok xs m):∀x∈aG w.parts,x∈xs:=by
 intro x hx
 cases w with
 |one p=>simp[aG,aR.parts] at hx;exact Part.ok.names (m:=m) h x hx
 |two o p q=>
  simp[aG,aR.parts] at hx
  exact hx.elim (h.2.1.names x) (h.2.2.names x)
theorem az.ok.names{xs:List Str}{m:Int}{d:az}(h:d.ok xs m):∀x∈d.names,x∈xs:=by
 intro x hx
 cases d with
 |tell p=>simp[az.names,aG] at hx;exact Part.ok.names (m:=m) h x hx
 |put y w=>
  rcases List.mem_cons.mp hx with rfl|hx
  ·exact h.1
  ·exact h.2.names x hx
theorem iS.names{xs:List Str}{m:Int}{bs:List b_}(h:iS xs m bs):∀x∈aI bs,x∈xs:=by
 intro x hx
 obtain⟨b,hb,hx⟩:=List.mem_flatMap.mp hx
 rcases List.mem_append.mp hx with hx|hx
 ·obtain⟨d,hd,hx⟩:=List.mem_flatMap.mp hx
  exact((h b hb).2.1 d hd).names x hx
 ·have he:=(h b hb).2.2
  cases wb:b.2 with
  |stop=>rw[wb] at hx;cases hx
  |go a=>rw[wb] at hx;cases hx
  |choose p a c=>
   rw[wb] at hx he
   simp[aG,End.parts] at hx
   exact he.1.names x hx
theorem iS.O9{xs:List Str}{m:Int}{bs:List b_}(h:iS xs m bs):(bs.flatMap (·.1)).length<=bs.length * 8:=by
 have:∀l:List b_,(∀b∈l,b.1.length<=8)->(l.flatMap (·.1)).length<=l.length * 8:=by
  intro l
  induction l with
  |nil=>simp
  |cons b l ih=>
   intro hl
   have h1:=hl b (.head _)
   have h2:=ih fun x hx=>hl x (.tail _ hx)
   rw[List.flatMap_cons,List.length_append,List.length_cons];omega
 exact this bs fun b hb=>(h b hb).1
theorem iS.Sv{xs:List Str}{m:Int}{bs:List b_}(h:iS xs m bs):(aI bs).length<=bs.length * 25:=by
 have:∀l:List b_,(∀b∈l,b.1.length<=8)->(aI l).length<=l.length * 25:=by
  intro l
  induction l with
  |nil=>simp[aI]
  |cons b l ih=>
   intro hl
   have h1:=hl b (.head _)
   have h2:=ih fun x hx=>hl x (.tail _ hx)
   have h3:(b.1.flatMap az.names).length<=b.1.length * 3:=E' (fun _=>zw) _
   have h4:=el (ps:=b.2.parts)
   have h5:=jA (e:=b.2)
   simp only[aI,b_.names,List.flatMap_cons,List.length_append,List.length_cons] at h2 ⊢;omega
 exact this bs fun b hb=>(h b hb).1
theorem HV{L:Addr->List Int->Prop}{ns:List Int}{d:D}{P:D->ai->Prop}(hd:d=.lst false (ns.map .int)\/∃a,d=.fn a/\L a ns)(h:ns.length<=100000)(k:∀x y,P (purse x y) [none]):fS L [d] P:=⟨ns,d,rfl,hd,h,k⟩
theorem HZ{x y m:Int}{bs:List b_}{P:D->ai->Prop}(h1:2<=m)(h2:m<=2 ^ 61)(h3:∀b∈bs,∀d∈b.1,d.gY)(h4:(bs.flatMap (·.1)).length<=10000)(k:∀(W:cP) z,m6 m W->W.length<=1+2 * (bs.flatMap (·.1)).length->P (dJ true W) [some (purse z y),none]):fW [purse x y,a6 false m bs] P:=⟨x,y,m,bs,rfl,h1,h2,h3,h4,k⟩
abbrev jo(o:Bool)(r:List Int×Bool):D:=.tup [.lst o (r.1.map .int),.bl r.2]
theorem Oa{m:Int}{bs:List b_}{W:cP}{n K:Nat}{P:D->ai->Prop}(h1:2<=m)(h2:m<=2 ^ 61)(h3:0<bs.length)(h4:yS m bs)(h5:gQ m W)(h6:∀b∈bs,b.1.length<=K)(h7:W.length+n * K<=900000)(h8:n<=100000)(k:P (jo true (gj m bs n 0 W [])) [none,none,none]):qU [a6 false m bs,dJ false W,.int n] P:=⟨m,bs,W,n,K,rfl,h1,h2,h3,h4,h5,h6,h7,h8,k⟩
theorem rg{m:Int}{bs:List b_}{xs:List Str}{P:D->ai->Prop}(h1:∀b∈bs,∀d∈b.1,d.gY)(h2:(aI bs).length<=4000)(h3:∀x∈aI bs,x∈xs)(h4:xs.length<64)(k:∀ys:List Str,ys.Pairwise slt->(∀x,x∈ys↔x∈aI bs)->P (.lst true (ys.map .str)) [none]):gA [a6 false m bs] P:=⟨m,bs,xs,rfl,h1,h2,h3,h4,k⟩
theorem G0(r:List Int×Bool):VS.eJ (jo true r)=true:=by rw[w5,eU,eU,gM,xB];rfl
theorem vi(o:Bool)(r:List Int×Bool):VS.aT (jo o r)=jo false r:=by simp only[jo,jq,eV,fC,b4,fD,DV]
theorem yM(o:Bool)(r:List Int×Bool):eR 60 (jo o r)=true:=by
 simp only[jo,xm,NT,gZ,j4,BP,NU,Bool.and_self]
theorem Kc(o o':Bool)(r:List Int×Bool):eqT (jo o r) (jo o' r)=true:=Aw (yM o r) (by rw[vi,vi])
theorem y'{lo:Int}{n:Nat}:ff lo (n+1)=.int lo::ff (lo+1) n:=by
 simp only[ff,List.range_succ_eq_map,List.map_cons,List.map_map]
 congr 1
 ·simp
 ·apply List.map_congr_left
  intro i _
  simp only[Function.comp]
  congr 1
  simp;omega
abbrev Gr:=List (Int×List Int)
def lead:End->List Int | .stop=>[] | .go a=>[a] | .choose _ a b=>if a=b then [a] else [a,b]
abbrev dh(o:Bool)(l:List Int):D:=.lst o (l.map .int)
def j5:Option Int->D|none=>.bJ|some i=>.int i
abbrev aD{α:Type}(f:α->D)(o:Bool)(l:List (Int×α)):D:=.cy o false (l.map fun p=>.s (.inl p.1)) (l.map fun p=>f p.2)
def keys{α:Type}(l:List (Int×α)):List Int:=l.map fun p=>p.1
theorem j_(l:List Int):VS.bare (dh false l)=true:=by simp only[dh,jr,ou,Bool.not_false,Bool.and_self]
theorem iJ(l:List Int):VS.eJ (dh true l)=true:=by simp only[dh,pf,eI (fun _=>G9),Bool.and_self]
theorem kK(o:Bool)(l:List Int):VS.aT (dh o l)=dh false l:=by simp only[dh,b4,fD]
theorem En(l:Option Int):VS.bare (j5 l)=true:=by cases l<;>rfl
theorem HG(l:Option Int):VS.eJ (j5 l)=true:=by cases l<;>rfl
theorem vA(l:Option Int):VS.aT (j5 l)=j5 l:=by cases l<;>simp only[j5,gX,Kg]
theorem vW{α:Type}{f:α->D}(h:∀a,VS.eJ (f a)=true)(l:List (Int×α)):VS.eJ (aD f true l)=true:=by
 simp only[aD,G_,eI (f:=fun p:Int×α=>f p.2) (fun p=>h p.2),Bool.and_self]
theorem rO{α:Type}{f g:α->D}(h:∀a,VS.aT (f a)=g a)(o:Bool)(l:List (Int×α)):VS.aT (aD f o l)=aD g false l:=by
 simp only[aD,yO,aV (f:=fun p:Int×α=>f p.2) (g:=fun p:Int×α=>g p.2) (fun p=>h p.2)]
theorem mH{α β:Type}{f:α->β}:∀(l:List (Int×α)) (k:Int),bQ (l.map fun p=>DK.s (.inl p.1)) (l.map fun p=>f p.2) (.s (.inl k))=(l.lookup k).map f
 | [],k=>rfl
 |(a,x)::l,k=>by
  simp only[List.map_cons,bQ,List.lookup]
  by_cases h:a=k
  ·subst h;simp
  ·have h2:(k==a)=false:=by simp;exact fun e=>h e.symm
   rw[if_neg (by simpa using h),h2];exact mH l k
theorem vN{α β:Type}{f:α->β}:∀(l:List (Int×α)) (k:Int) (x:α),l.lookup k=none->dput (l.map fun p=>DK.s (.inl p.1)) (l.map fun p=>f p.2) (.s (.inl k)) (f x)=((l++[(k,x)]).map (fun p=>DK.s (.inl p.1)),(l++[(k,x)]).map (fun p=>f p.2))
 | [],k,x,_=>rfl
 |(a,y)::l,k,x,h=>by
  have hk:(k==a)=false:=by
   cases e:k==a with
   |false=>rfl
   |true=>simp[List.lookup,e] at h
  have h':l.lookup k=none:=by simpa[List.lookup,hk] using h
  have my:¬(DK.s (.inl a)=DK.s (.inl k)):=by simp at hk ⊢;exact fun e=>hk e.symm
  simp only[List.map_cons,dput,List.cons_append,if_neg my,vN l k x h']
theorem lookup_none{α:Type}{l:List (Int×α)}{k:Int}:l.lookup k=none↔k∉keys l:=by
 rw[List.lookup_eq_none_iff]
 simp only[keys,List.mem_map,not_exists,not_and]
 exact⟨fun h p hp e=>by have:=h p hp;simp[e] at this,fun h p hp=>by simp;exact fun e=>h p hp e.symm⟩
theorem lookup_isSome{α:Type}{l:List (Int×α)}{k:Int}:(l.lookup k).isSome=true↔k∈keys l:=by
 cases h:l.lookup k with
 |none=>simp[lookup_none.mp h]
 |some x=>simp;exact Decidable.byContradiction fun e=>by rw[lookup_none.mpr e] at h;simp at h
theorem iK{α:Type}:∀{l:List (Int×α)}{k:Int}{x:α},l.lookup k=some x->(k,x)∈l
 |(a,y)::l,k,x,h=>by
  by_cases e:k=a
  ·subst e;simp[List.lookup] at h;simp[h]
  ·have:(k==a)=false:=by simpa using e
   simp[List.lookup,this] at h
   exact .tail _ (iK h)
theorem t7:∀(l m:List Int),l.Nodup->(∀x∈l,x∈m)->l.length<=m.length
 | [],m,_,_=>by simp
 |a::l,m,h,hs=>by
  have ha:=hs a (.head _)
  have h1:=List.nodup_cons.mp h
  have:=t7 l (m.erase a) h1.2 fun x hx=>(List.mem_erase_of_ne (fun e:x=a=>h1.1 (e ▸ hx))).mpr (hs x (.tail _ hx))
  rw[List.length_erase_of_mem ha] at this
  have:0<m.length:=List.length_pos_of_mem ha
  simp;omega
def fK(g:Gr)(v:Int):List Int:=(g.lookup v).getD []
inductive Reach (g:Gr) (L:Option Int) (s:Int):Int->Prop where
 |start:Reach g L s s
 |step {u v:Int}:Reach g L s u->v∈fK g u->L≠some v->Reach g L s v
def Mi(g:Gr):Prop:=∀u v,v∈fK g u->v∈keys g
theorem Reach.ne{g:Gr}{s v w:Int}(h:Reach g (some w) s v)(hs:s≠w):v≠w:=by
 cases h with
 |start=>exact hs
 |step _ _ h=>exact fun e=>h (by rw[e])
theorem Reach.any{g:Gr}{L:Option Int}{s v:Int}(h:Reach g L s v):Reach g none s v:=by
 induction h with
 |start=>exact .start
 |step _ hv _ ih=>exact ih.step hv (by simp)
theorem Reach.key{g:Gr}{L:Option Int}{s v:Int}(hg:Mi g)(hs:s∈keys g)(h:Reach g L s v):v∈keys g:=by
 cases h with
 |start=>exact hs
 |step _ hv _=>exact hg _ _ hv
abbrev gH:=List (Int×Option Int)
def gH.tree(g:Gr)(L:Option Int)(s:Int):gH->Prop:=fun c=>(keys c).Nodup/\(∃r,c=(s,none)::r)/\∀a k o b,c=a++(k,o)::b->a≠[]->∃p,o=some p/\p∈keys a/\k∈fK g p/\L≠some k
structure gH.ok(g:Gr)(L:Option Int)(s:Int)(c:gH):Prop where
 tree:c.tree g L s
 all:∀v,v∈keys c↔Reach g L s v
theorem gH.tree.snoc{g:Gr}{L:Option Int}{s:Int}{c:gH}(h:c.tree g L s){k p:Int}(hp:p∈keys c)(hk:k∉keys c)(hs:k∈fK g p)(hL:L≠some k):gH.tree g L s (c++[(k,some p)]):=by
 obtain⟨h1,⟨r,rfl⟩,h3⟩:=h
 refine⟨?_,⟨r++[(k,some p)],rfl⟩,fun a k' o b e ha=>?_⟩
 ·rw[keys,List.map_append,List.nodup_append]
  refine⟨h1,by simp,fun x hx y hy=>?_⟩
  simp at hy
  subst hy
  exact fun e=>hk (e ▸ hx)
 ·rcases List.eq_nil_or_concat b with rfl|⟨b',y,rfl⟩
  ·have:=List.append_inj' e (by simp)
   obtain⟨e1,e2⟩:=this
   simp at e2
   obtain⟨rfl,rfl⟩:=e2
   rw[<-e1]
   exact⟨p,rfl,hp,hs,hL⟩
  ·have e':(s,none)::r++[(k,some p)]=(a++(k',o)::b')++[y]:=by rw[e];simp
   obtain⟨e1,e2⟩:=List.append_inj' e' (by simp)
   exact h3 a k' o b' e1 ha
theorem gH.tree.reach{g:Gr}{L:Option Int}{s:Int}{c:gH}(h:c.tree g L s):∀v∈keys c,Reach g L s v:=by
 obtain⟨h1,⟨r,rfl⟩,h3⟩:=h
 have:∀n (a b:gH),a.length<=n->(s,none)::r=a++b->∀v∈keys a,Reach g L s v:=by
  intro n
  induction n with
  |zero=>intro a b ha e v hv;cases a with
   |nil=>simp[keys] at hv
   |cons x a=>simp at ha
  |succ n ih=>
   intro a b ha e v hv
   rcases List.eq_nil_or_concat a with rfl|⟨a',y,rfl⟩
   ·simp[keys] at hv
   ·obtain⟨k,o⟩:=y
    have e2:(s,none)::r=a'++((k,o)::b):=by rw[e];simp
    have hr:=ih a' _ (by simp at ha;omega) e2
    simp only[keys,List.concat_eq_append,List.map_append,List.mem_append] at hv
    rcases hv with hv|hv
    ·exact hr v hv
    ·simp at hv
     subst hv
     by_cases hn:a'=[]
     ·subst hn
      simp at e2
      rw[<-e2.1.1];exact .start
     ·obtain⟨p,rfl,hp,hs,hL⟩:=h3 a' v o b e2 hn
      exact(hr p hp).step hs hL
 exact this _ _ [] (Nat.le_refl _) (by simp)
def aQ(bs:List b_):Gr:=(-1,[0])::bs.zipIdx.map fun p=>((p.2:Int),lead p.1.2)
theorem xx{bs:List b_}{b:b_}:aQ (bs++[b])=aQ bs++[((bs.length:Int),lead b.2)]:=by
 simp[aQ,List.zipIdx_append]
theorem iy{bs:List b_}:(aQ bs).length=bs.length+1:=by simp[aQ]
theorem cU{bs:List b_}{k:Int}:k∈keys (aQ bs)↔k = -1\/(0<=k/\k<bs.length):=by
 simp only[aQ,keys,List.map_cons,List.mem_cons,List.map_map,List.mem_map,Function.comp]
 constructor
 ·rintro(h|⟨⟨b,i⟩,hm,rfl⟩)
  ·exact .inl h
  ·have:=List.snd_lt_of_mem_zipIdx hm
   exact .inr ⟨by simp,by simp at this ⊢;omega⟩
 ·rintro(h|⟨h1,h2⟩)
  ·exact .inl h
  ·obtain⟨n,rfl⟩:=Int.eq_ofNat_of_zero_le h1
   exact .inr ⟨(bs[n]'(by omega),n),by rw[List.mem_zipIdx_iff_getElem?];simp,rfl⟩
theorem y6{bs:List b_}{u v:Int}(h:v∈fK (aQ bs) u):(u = -1/\v=0)\/∃b∈bs,v∈lead b.2:=by
 unfold fK at h
 cases e:(aQ bs).lookup u with
 |none=>rw[e] at h;simp at h
 |some l=>
  rw[e] at h
  have hm:=iK e
  simp only[aQ,List.mem_cons,List.mem_map,Prod.mk.injEq] at hm
  rcases hm with⟨rfl,rfl⟩|⟨⟨b,i⟩,hm,rfl,rfl⟩
  ·exact .inl ⟨rfl,by simpa using h⟩
  ·exact .inr ⟨b,List.fst_mem_of_mem_zipIdx hm,h⟩
theorem A8{bs:List b_}:fK (aQ bs) (-1)=[0]:=by simp[fK,aQ,List.lookup]
def Bs(bs:List b_):Prop:=0<bs.length/\bs.length<=1000/\∀b∈bs,∀v∈lead b.2,0<=v/\v<(bs.length:Int)
theorem Bs.g{bs:List b_}(h:Bs bs):Mi (aQ bs):=fun u v hv=>cU.mpr (by
 rcases y6 hv with⟨_,rfl⟩|⟨b,hb,hv⟩
 ·have:=h.1;right;omega
 ·exact .inr (h.2.2 b hb v hv))
abbrev bq:List Bool:=[false]
def cw:fH:=fun ds P=>∃e:End,ds=[e.d]/\P (dh true (lead e)) [none]
def iC:US:=
 (aC (di (aN (aj (kc false) (aj bc (aa 0) (uC (.int 0))) (uC (.str "go"))))
 (bO (cW (ae (aj bc (aa 0) (uC (.int 1))) ao)))
 cg)
 (aC (di (aN (aj (kc false) (aj bc (aa 0) (uC (.int 0))) (uC (.str "choose"))))
 (bO (zK (aN (aj (kc false) (aj bc (aa 0) (uC (.int 2))) (aj bc (aa 0) (uC (.int 3))))) (cW (ae (aj bc (aa 0) (uC (.int 2))) ao)) (cW (ae (aj bc (aa 0) (uC (.int 2))) (ae (aj bc (aa 0) (uC (.int 3))) ao)))))
 cg)
 (bO (cW ao))))
theorem jT:∀ds P,ds.length=bq.length->cw ds P->iC (bF bq P) (ay (1-bq.length) ds):=by
 rintro ds P - ⟨e,rfl,k⟩
 simp only[ay,bq,List.map_cons,List.map_nil,List.length_cons,List.length_nil,Nat.reduceAdd,Nat.reduceSub,List.replicate,List.cons_append,List.nil_append]
 unfold iC
 cases e with
 |stop=>
  simp only[End.d]
  repeat walk_at "u"
  exact k
 |go a=>
  simp only[End.d]
  repeat walk_at "u"
  exact k
 |choose p a b=>
  have hp:=p.bare
  simp only[End.d]
  repeat walk_at "u"
  with_reducible refine fo ?_ ?_
  ·intro h
   have h:a=b:=by simpa using h
   have e:lead (.choose p a b)=[a]:=if_pos h
   rw[e] at k
   repeat walk_at "u"
   exact k
  ·intro h
   have h:¬a=b:=by simpa using h
   have e:lead (.choose p a b)=[a,b]:=if_neg h
   rw[e] at k
   repeat walk_at "u"
   exact k
abbrev cS:List Bool:=[false]
def e9:fH:=fun ds P=>∃m bs,ds=[a6 false m bs]/\bs.length<=1000/\P (aD (dh true) true (aQ bs)) [none]
def rT:US:=
 (aC (aX (nh (uC (.int (-1))) (cW (ae (uC (.int 0)) ao))) (au 1))
 (aC (eC (oD bx (aj bc (aa 0) (uC (.int 1)))) (fN 2 (bC (au 2) (bC (fN 2 (bC (au 3) (bC (au 4) fO))) fO)))
 (iZ 1 (aa 2) (aA bq cw (ae (aa 4) ao))))
 (bO (eZ 1))))
theorem sI:∀ds P,ds.length=cS.length->e9 ds P->rT (bF cS P) (ay (5-cS.length) ds):=by
 rintro ds P - ⟨m,bs,rfl,hl,k⟩
 simp only[ay,cS,List.map_cons,List.map_nil,List.length_cons,List.length_nil,Nat.reduceAdd,Nat.reduceSub,List.replicate,List.cons_append,List.nil_append]
 unfold rT
 have hB:=bH cu (xs:=bs)
 have hb:VS.bare (.lst false (bs.map (aU false)))=true:=by rw[jr,hB];rfl
 simp only[a6]
 repeat walk_at "u"
 have pr:∀(rest:List b_) (i:Nat),ck i (rest.map (aU false))=(rest.zipIdx i).map fun p=>D.tup [.int p.2,aU false p.1]:=by
  intro rest
  induction rest with
  |nil=>intro i;rfl
  |cons b r ih=>intro i;simp only[List.map_cons,ck,List.zipIdx_cons,ih]
 have fr:d9 (bs.map (aU false))=bs.map (aU false):=aV (fh false)
 rw[fr]
 refine bN (fun xs e=>∃done rest:List b_,bs=done++rest/\xs=ck done.length (rest.map (aU false))/\∃o2 o3 o4,e=[some (a6 false m bs),some (aD (dh true) true (aQ done)),o2,o3,o4]) ?_ ?_ _ _ ⟨[],bs,rfl,rfl,_,_,_,rfl⟩
 ·rintro e ⟨done,rest,rfl,hx,o2,o3,o4,rfl⟩
  have:rest=[]:=by cases rest with
   |nil=>rfl
   |cons b r=>simp[ck] at hx
  subst this
  rw[List.append_nil] at k
  repeat walk_at "u"
  exact k
 ·rintro x xs e ih ⟨done,rest,rfl,hx,o2,o3,o4,rfl⟩
  cases rest with
  |nil=>simp[ck] at hx
  |cons b r=>
   simp only[List.map_cons,ck,List.cons.injEq] at hx
   obtain⟨rfl,rfl⟩:=hx
   simp only[aU]
   have yd:(aQ done).lookup (done.length:Int)=none:=lookup_none.mpr fun h=>by
    rcases cU.mp h with h|h<;>omega
   have V4:(List.map (fun p:Int×List Int=>dh true p.2) (aQ done)).length<=1000000:=by rw[List.length_map,iy];simp at hl;omega
   repeat walk_at "u"
   rw[b.2.aT]
   refine⟨b.2,rfl,?_⟩
   refine⟨iJ _,rfl,?_⟩
   have hd:=vN (f:=dh true) (aQ done) (done.length:Int) (lead b.2) yd
   repeat walk_at "u"
   rw[hd]
   exact ih _ ⟨done++[b],r,by simp,by simp,_,_,_,by rw[xx]⟩
theorem gH.tree.len{g:Gr}{L:Option Int}{s:Int}{c:gH}(h:c.tree g L s)(hg:Mi g)(hs:s∈keys g):c.length<=g.length:=by
 have:=t7 (keys c) (keys g) h.1 fun x hx=>(h.reach x hx).key hg hs
 simpa[keys] using this
theorem gH.tree.start{g:Gr}{L:Option Int}{s:Int}{c:gH}(h:c.tree g L s):s∈keys c:=by
 obtain⟨_,⟨r,rfl⟩,_⟩:=h
 simp[keys]
theorem gH.tree.one{g:Gr}{L:Option Int}{s:Int}:gH.tree g L s [(s,none)]:=by
 refine⟨by simp[keys],⟨[],rfl⟩,fun a k o b e ha=>?_⟩
 cases a with
 |nil=>exact(ha rfl).elim
 |cons x a=>simp at e
theorem om{o:Bool}{g:Gr}{u:Int}(h:u∈keys g):bQ (g.map fun p=>DK.s (.inl p.1)) (g.map fun p=>dh o p.2) (.s (.inl u))=some (dh o (fK g u)):=by
 rw[mH (f:=dh o)]
 cases e:g.lookup u with
 |none=>exact(lookup_none.mp e h).elim
 |some l=>simp[fK,e]
theorem L5{v:Int}{L:Option Int}:sY (.int v) (j5 L)=some (decide (L=some v)):=by
 cases L with
 |none=>simp[j5,sY]
 |some a=>simp[j5,sY];exact⟨fun h=>h.symm,fun h=>h.symm⟩
def gH.shut(g:Gr)(L:Option Int)(c:gH)(n:Nat):Prop:=∀u∈(keys c).take n,∀v∈fK g u,L≠some v->v∈keys c
theorem gH.tree.done{g:Gr}{L:Option Int}{s:Int}{c:gH}(h:c.tree g L s)(hc:c.shut g L c.length):c.ok g L s:=by
 refine⟨h,fun v=>⟨h.reach v,fun r=>?_⟩⟩
 induction r with
 |start=>exact h.start
 |step _ hv hL ih=>exact hc _ (by rw[List.take_of_length_le (by simp[keys])];exact ih) _ hv hL
theorem BX{α:Type}{c:List (Int×α)}{k:Int}{x:α}:(keys (c++[(k,x)])).map D.int=(keys c).map D.int++[.int k]:=by simp[keys]
abbrev b7:List Bool:=[false,false,false]
def dt:fH:=fun ds P=>∃(g:Gr) (s:Int) (L:Option Int),ds=[aD (dh false) false g,.int s,j5 L]/\Mi g/\s∈keys g/\g.length<=100000/\∀c:gH,c.ok g L s->P (aD j5 true c) [none,none,none]
def oV:US:=
 (aC (aX (nh (a7 1) (uC .bJ)) (au 3))
 (aC (aX (cW (ae (a7 1) ao)) (au 4))
 (aC (aX (uC (.int 0)) (au 5))
 (aC (m_ (aN (aj (kZ fun i j=>.bl (decide (i<j))) (aa 5) (pR jU (ae (aa 4) ao))))
 (aC (aX (aj dz (aa 4) (aa 5)) (au 6))
 (aC (eC (dI bx (aj oR (aa 0) (aa 6))) (au 7)
 (di (qb (aN (aj (kc true) (aa 7) (aa 2))) (aN (aj (jy true) (aa 7) (aa 3))))
 (aC (iZ 3 (aa 7) (a7 6))
 (cB 4 (ae (a7 7) ao)))
 cg))
 (CW 5 (fun i j=>i+j) (uC (.int 1))))))
 (bO (eZ 3))))))
theorem qD:∀ds P,ds.length=b7.length->dt ds P->oV (bF b7 P) (ay (8-b7.length) ds):=by
 rintro ds P - ⟨g,s,L,rfl,hg,hs,hl,k⟩
 simp only[ay,b7,List.map_cons,List.map_nil,List.length_cons,List.length_nil,Nat.reduceAdd,Nat.reduceSub,List.replicate,List.cons_append,List.nil_append]
 unfold oV
 repeat walk_at "u"
 refine m8 (fun m e=>∃(c:gH) (n:Nat) (o6 o7:Option D),c.tree g L s/\c.shut g L n/\n<=c.length/\m=g.length-n/\e=[some (aD (dh false) false g),some (.int s),some (j5 L),some (aD j5 true c),some (.lst true ((keys c).map .int)),some (.int n),o6,o7]) ⟨g.length,[(s,none)],0,_,_,gH.tree.one,fun u hu=>by simp at hu,by simp,rfl,rfl⟩ ?_
 rintro m e N XN ⟨c,n,o6,o7,ht,hc,hn,rfl,rfl⟩
 have vI:=ht.len hg hs
 repeat walk_at "u"
 with_reducible refine fo ?_ ?_
 ·intro h
  have h:n<c.length:=by simpa[keys] using h
  have hk:n<(keys c).length:=by simpa[keys] using h
  have ea:g_ ((keys c).map D.int) (n:Int)=some (.int (keys c)[n]):=by rw[p3 (by omega) (by omega)];rfl
  have hu:(keys c)[n]∈keys c:=List.getElem_mem _
  have rj:(keys c).take (n+1)=(keys c).take n++[(keys c)[n]]:=by simp
  generalize (keys c)[n]=u at ea hu rj
  have X6:u∈keys g:=(ht.reach u hu).key hg hs
  have sW:=om (o:=false) X6
  have hb:=j_ (fK g u)
  repeat walk_at "u"
  rw[fD]
  refine bN (fun xs e=>∃(c':gH) (pre vs:List Int) (o7:Option D),xs=vs.map .int/\fK g u=pre++vs/\(∀v∈pre,L≠some v->v∈keys c')/\c'.tree g L s/\(∃ext,c'=c++ext)/\e=[some (aD (dh false) false g),some (.int s),some (j5 L),some (aD j5 true c'),some (.lst true ((keys c').map .int)),some (.int n),some (.int u),o7]) ?_ ?_ _ _ ⟨c,[],fK g u,_,rfl,rfl,fun v hv=>by simp at hv,ht,⟨[],by simp⟩,rfl⟩
  ·rintro e ⟨c',pre,vs,o7,hx,hp,sV,MJ,⟨ext,rfl⟩,rfl⟩
   have:vs=[]:=by simpa using hx.symm
   subst this
   rw[List.append_nil] at hp
   repeat walk_at "u"
   refine XN (g.length-(n+1)) _ (by omega) ⟨c++ext,n+1,_,_,MJ,?_,by simp;omega,rfl,rfl⟩
   have LI:(keys (c++ext)).take (n+1)=(keys c).take (n+1):=by
    rw[keys,List.map_append,List.take_append_of_le_length (by simp[keys] at hk ⊢;omega)];rfl
   intro w hw v hv hL
   rw[LI,rj] at hw
   rcases List.mem_append.mp hw with hw|hw
   ·have:=hc w hw v hv hL
    simp only[keys,List.map_append,List.mem_append] at this ⊢
    exact .inl this
   ·rw[List.mem_singleton.mp hw] at hv
    exact sV v (hp ▸ hv) hL
  ·rintro x xs e ih ⟨c',pre,vs,o7,hx,hp,sV,MJ,⟨ext,rfl⟩,rfl⟩
   cases vs with
   |nil=>simp at hx
   |cons v vs=>
    simp only[List.map_cons,List.cons.injEq] at hx
    obtain⟨rfl,rfl⟩:=hx
    have TJ:=MJ.len hg hs
    have Cq:v∈fK g u:=by rw[hp];simp
    have heq:=L5 (v:=v) (L:=L)
    have rn:((c++ext).map fun p=>j5 p.2).length<=1000000:=by rw[List.length_map];omega
    have rm:((keys (c++ext)).map D.int).length<=1000000:=by simp[keys] at TJ ⊢;omega
    repeat walk_at "u"
    with_reducible refine fo ?_ ?_
    ·intro h
     have hL:L≠some v:=by simpa using h
     repeat walk_at "u"
     with_reducible refine fo ?_ ?_
     ·intro h
      have yd:(c++ext).lookup v=none:=by
       rw[mH (f:=j5)] at h
       simpa using h
      have hd:dput ((c++ext).map fun p=>DK.s (.inl p.1)) ((c++ext).map fun p=>j5 p.2) (.s (.inl v)) (.int u)=(((c++ext)++[(v,some u)]).map (fun p=>DK.s (.inl p.1)),((c++ext)++[(v,some u)]).map (fun p=>j5 p.2)):=vN (f:=j5) (c++ext) v (some u) yd
      repeat walk_at "u"
      rw[hd,<-BX (x:=some u)]
      refine ih _ ⟨(c++ext)++[(v,some u)],pre++[v],vs,_,rfl,by rw[hp];simp,fun w hw LP=>?_,MJ.snoc (by simp only[keys,List.map_append,List.mem_append];exact .inl hu) (lookup_none.mp yd) Cq hL,⟨ext++[(v,some u)],by simp⟩,rfl⟩
      rcases List.mem_append.mp hw with hw|hw
      ·have:=sV w hw LP
       simp only[keys,List.map_append,List.mem_append] at this ⊢
       exact .inl this
      ·rw[List.mem_singleton.mp hw];simp[keys]
     ·intro h
      have xG:v∈keys (c++ext):=by
       rw[mH (f:=j5)] at h
       exact lookup_isSome.mp (by simpa using h)
      repeat walk_at "u"
      refine ih _ ⟨c++ext,pre++[v],vs,_,rfl,by rw[hp];simp,fun w hw LP=>?_,MJ,⟨ext,rfl⟩,rfl⟩
      rcases List.mem_append.mp hw with hw|hw
      ·exact sV w hw LP
      ·rw[List.mem_singleton.mp hw];exact xG
    ·intro h
     have hL:L=some v:=by simpa using h
     repeat walk_at "u"
     refine ih _ ⟨c++ext,pre++[v],vs,_,rfl,by rw[hp];simp,fun w hw LP=>?_,MJ,⟨ext,rfl⟩,rfl⟩
     rcases List.mem_append.mp hw with hw|hw
     ·exact sV w hw LP
     ·rw[List.mem_singleton.mp hw] at LP;exact(LP hL).elim
 ·intro h
  have h:c.length<=n:=by simpa[keys] using h
  have:n=c.length:=by omega
  subst this
  repeat walk_at "u"
  exact k c (ht.done hc)
theorem vE{α:Type}{a b:List (Int×α)}{k:Int}{x:α}(h:k∉keys a):(a++(k,x)::b).lookup k=some x:=by
 induction a with
 |nil=>simp[List.lookup]
 |cons y a ih=>
  obtain⟨j,z⟩:=y
  have h1:k≠j:=fun e=>h (by simp[keys,e])
  have h2:k∉keys a:=fun e=>h (by simp only[keys,List.map_cons,List.mem_cons];exact .inr e)
  have h3:(k==j)=false:=by simpa using h1
  simp only[List.cons_append,List.lookup,h3]
  exact ih h2
theorem lK{α:Type}{l:List (Int×α)}{k:Int}(h:k∈keys l):∃a x b,l=a++(k,x)::b:=by
 obtain⟨⟨k',x⟩,hp,rfl⟩:=List.mem_map.mp h
 obtain⟨a,b,e⟩:=List.append_of_mem hp
 exact⟨a,x,b,e⟩
theorem Lo{g:Gr}{s:Int}{L:Option Int}{P:D->ai->Prop}(h1:Mi g)(h2:s∈keys g)(h3:g.length<=100000)(k:∀c:gH,c.ok g L s->P (aD j5 true c) [none,none,none]):dt [aD (dh false) false g,.int s,j5 L] P:=⟨g,s,L,rfl,h1,h2,h3,k⟩
theorem Am{m:Int}{bs:List b_}{P:D->ai->Prop}(h1:bs.length<=1000)(k:P (aD (dh true) true (aQ bs)) [none]):e9 [a6 false m bs] P:=⟨m,bs,rfl,h1,k⟩
abbrev d_:List Bool:=[false,false]
def gx:fH:=fun ds P=>∃(g:Gr) (L:Option Int) (s b:Int) (c:gH),ds=[aD j5 false c,.int b]/\c.tree g L s/\b∈keys c/\c.length<=100000/\∀ws:List Int,P (dh true ws) [none,none]
def rP:US:=
 (aC (aX (cW ao) (au 2))
 (aC (m_ (aN (pb (Fd true) (aa 1)))
 (aC (cB 2 (ae (a7 1) ao))
 (aX (aj oR (aa 0) (aa 1)) (au 1))))
 (aC (jX 2)
 (bO (eZ 2)))))
theorem sC:∀ds P,ds.length=d_.length->gx ds P->rP (bF d_ P) (ay (3-d_.length) ds):=by
 rintro ds P - ⟨g,L,s,b,c,rfl,ht,hb,hl,k⟩
 simp only[ay,d_,List.map_cons,List.map_nil,List.length_cons,List.length_nil,Nat.reduceAdd,Nat.reduceSub,List.replicate,List.cons_append,List.nil_append]
 unfold rP
 repeat walk_at "u"
 obtain⟨a0,x0,b0,e0⟩:=lK hb
 refine m8 (fun m e=>∃(ws:List Int) (o:Option Int),ws.length+m<=c.length+1/\(o=none\/∃k a x b,o=some k/\c=a++(k,x)::b/\m=a.length+1)/\e=[some (aD j5 false c),some (j5 o),some (.lst true (ws.map .int))]) ⟨a0.length+1,[],some b,by rw[e0];simp<;>omega,.inr ⟨b,a0,x0,b0,rfl,e0,rfl⟩,rfl⟩ ?_
 rintro m e N ih ⟨ws,o,hw,ho,rfl⟩
 cases o with
 |none=>
  simp only[j5]
  repeat walk_at "u"
  have:=k ws.reverse
  rw[dh,List.map_reverse] at this
  exact this
 |some v=>
  rcases ho with ho|⟨k',a,x,b',e1,e2,rfl⟩
  ·cases ho
  cases e1
  have hk:v∉keys a:=fun h=>by
   have:=ht.1
   rw[e2,keys,List.map_append,List.nodup_append] at this
   exact this.2.2 v h v (by simp) rfl
  have hd:bQ (c.map fun p=>DK.s (.inl p.1)) (c.map fun p=>j5 p.2) (.s (.inl v))=some (j5 x):=by
   rw[mH (f:=j5),e2,vE hk];rfl
  have V2:=En x
  have QR:(ws.map D.int).length<=1000000:=by rw[List.length_map];omega
  simp only[j5]
  repeat walk_at "u"
  by_cases hn:a=[]
  ·subst hn
   obtain⟨_,⟨r,hr⟩,_⟩:=ht
   rw[hr] at e2
   simp at e2
   obtain⟨⟨_,rfl⟩,_⟩:=e2
   exact ih 0 _ (by simp) ⟨ws++[v],none,by simp at hw ⊢;omega,.inl rfl,by simp[j5]⟩
  ·obtain⟨p,rfl,hp,_,_⟩:=ht.2.2 a v x b' e2 hn
   obtain⟨a1,y,a2,e3⟩:=lK hp
   subst e3
   refine ih (a1.length+1) _ (by simp<;>omega) ⟨ws++[v],some p,by simp at hw ⊢;omega,.inr ⟨p,a1,y,a2++(v,some p)::b',rfl,by rw[e2];simp,rfl⟩,by simp[j5]⟩
abbrev MG:List Bool:=[false,false,false]
def N7:fH:=fun ds P=>∃(m:Int) (bs:List b_) (a b:Int),ds=[a6 false m bs,.int a,.int b]/\Bs bs/\0<=a/\a<bs.length/\0<=b/\b<bs.length/\Reach (aQ bs) none (-1) b/\(¬Reach (aQ bs) (some a) (-1) b->P .bJ [none,none,none])/\(Reach (aQ bs) (some a) (-1) b->∀ws,P (dh true ws) [none,none,none])
def Pj:US:=
 (aC (aX (pR jU (ae (aj bc (aa 0) (uC (.int 1))) ao)) (au 3))
 (aC (di (ym (aN (nj (fun i j=>decide (i<=j)) (fun i j=>decide (i<j)) (uC (.int 0)) (a7 1) (a7 3))))
 ly
 cg)
 (aC (di (ym (aN (nj (fun i j=>decide (i<=j)) (fun i j=>decide (i<j)) (uC (.int 0)) (a7 2) (a7 3))))
 ly
 cg)
 (aC (aX (aA cS e9 (ae (aa 0) ao)) (bB 4))
 (aC (di (aN (aj (jy true) (aa 2) (aA b7 dt (ae (aa 4) (ae (uC (.int (-1))) (ae (uC .bJ) ao))))))
 ly
 cg)
 (aC (aX (aA b7 dt (ae (aa 4) (ae (uC (.int (-1))) (ae (aa 1) ao)))) (bB 5))
 (bO (zK (aN (aj (jy false) (aa 2) (aa 5))) (aA d_ gx (ae (aa 5) (ae (aa 2) ao))) (uC .bJ)))))))))
theorem HS(n:Nat):ff 0 n=(List.range' 0 n).map fun(j:Nat)=>D.int j:=by simp[ff,List.range_eq_range']
theorem EA{α:Type}{ug:UG}{ut:UT}{inner:UL α}{k:α->ai->Prop}(n:Nat)(W:Nat->α->ai->Prop)(hn:∀a e,W n a e->k a e)(hs:∀(i:Nat) a e (N:α->ai->Prop),i<n->(∀a' e',W (i+1) a' e'->N a' e')->W i a e->ug (.int i) e fun e2=>ut e2 fun b e3=>if b=true then inner a e3 N else N a e3):∀a e,W 0 a e->ef ug ut inner k (ff 0 n) a e:=by
 have aux:∀k' i a e,i+k'=n->W i a e->ef ug ut inner k ((List.range' i k').map fun(j:Nat)=>D.int j) a e:=by
  intro k'
  induction k' with
  |zero=>intro i a e h w;exact hn a e (by rwa [show i=n by omega] at w)
  |succ k' ih=>intro i a e h w;exact hs i a e _ (by omega) (fun a' e' w'=>ih (i+1) a' e' (by omega) w') w
 intro a e w
 rw[HS]
 exact aux n 0 a e (by omega) w
theorem map_set{F F':Nat->D}{n j:Nat}(h:∀b,b<n->b≠j->F' b=F b):((List.range n).map F).set j (F' j)=(List.range n).map F':=by
 apply List.ext_getElem?
 intro i
 by_cases hi:i<n
 ·by_cases e:j=i
  ·subst e;simp[List.getElem?_set,hi]
  ·simp[List.getElem?_set,e,hi,h i hi (fun x=>e x.symm)]
 ·simp[List.getElem?_set,hi]
section
open Classical
noncomputable def Sy (bs:List b_) (n b:Nat):Option (List Int):=if Reach (aQ bs) none (-1) b then some (((List.range n).filter fun(a:Nat)=>decide (¬Reach (aQ bs) (some (a:Int)) (-1) b)).map fun(a:Nat)=>(a:Int)) else none
end
def mD(o:Bool):Option (List Int)->D|none=>.bJ|some l=>dh o l
noncomputable abbrev N6 (o:Bool) (bs:List b_):D:=.lst o ((List.range bs.length).map fun b=>mD o (Sy bs bs.length b))
abbrev K6:List Bool:=[false]
def MH:fH:=fun ds P=>∃(m:Int) (bs:List b_),ds=[a6 false m bs]/\Bs bs/\P (N6 true bs) [none]
def MU:US:=
 (aC (aX (aA cS e9 (ae (aa 0) ao)) (bB 1))
 (aC (aX (pR jU (ae (aj bc (aa 0) (uC (.int 1))) ao)) (au 2))
 (aC (aX (aA b7 dt (ae (aa 1) (ae (uC (.int (-1))) (ae (uC .bJ) ao)))) (bB 3))
 (aC (aX (fP 1 (fw (ae (a7 2) ao)) (au 0) lu (fE (zK (aN (aj (jy false) (aa 0) (aa 4))) (cW ao) (uC .bJ)))) (au 4))
 (aC (eC (fw (ae (a7 2) ao)) (au 5)
 (aC (aX (aA b7 dt (ae (aa 1) (ae (uC (.int (-1))) (ae (aa 5) ao)))) (bB 6))
 (eC (fw (ae (a7 2) ao)) (au 7)
 (di (qb (aN (aj (jy false) (aa 7) (aa 3))) (aN (aj (jy true) (aa 7) (aa 6))))
 (i4 .lst 4 (lV 7) (lV 5))
 cg))))
 (bO (eZ 4)))))))
theorem Cb{α:Type}{a b:List (Int×α)}{v:Int}{x:α}(h:v∉keys a):FP ((a++(v,x)::b).map fun p=>DK.s (.inl p.1)) (.s (.inl v))=some a.length:=by
 induction a with
 |nil=>simp[FP]
 |cons y a ih=>
  obtain⟨j,z⟩:=y
  have h1:¬(DK.s (.inl j)=DK.s (.inl v)):=fun e=>h (by simp at e;simp[keys,e])
  have h2:v∉keys a:=fun e=>h (by simp only[keys,List.map_cons,List.mem_cons];exact .inr e)
  simp only[List.cons_append,List.map_cons,FP,if_neg h1,ih h2,Option.map_some,List.length_cons]
theorem Cg{a b:Gr}{v:Int}{l:List Int}(h:v∉keys a):child (aD (dh true) true (a++(v,l)::b)) (.int v)=some (.lst true (l.map .int),fun c'=>.cy true false ((a++(v,l)::b).map fun p=>.s (.inl p.1)) (((a++(v,l)::b).map fun p=>dh true p.2).set a.length c')):=by
 show(FP _ _).bind _=_
 rw[Cb h]
 simp
theorem n9{α:Type}(g:List (Int×α)):(g.map fun p=>DK.s (.inl p.1)).map qY=(keys g).map D.int:=by simp[keys,qY]
def Bc(g S:Gr)(us:List Int):Prop:=∀u∈us,∀v∈fK g u,∃l,(v,l)∈S/\u∈l
theorem zW{a b:Gr}{v u:Int}{l:List Int}{w x:Int}(h:∃l',(w,l')∈a++(v,l)::b/\x∈l'):∃l',(w,l')∈a++(v,l++[u])::b/\x∈l':=by
 obtain⟨l',hm,hx⟩:=h
 rcases List.mem_append.mp hm with h|h
 ·exact⟨l',by simp[h],hx⟩
 ·rcases List.mem_cons.mp h with h|h
  ·cases h;exact⟨l++[u],by simp,by simp[hx]⟩
  ·exact⟨l',by simp[h],hx⟩
def oE(g S:Gr):Prop:=keys S=keys g/\∀p∈S,∀x∈p.2,x∈keys g/\p.1∈fK g x
abbrev dB:List Bool:=[false]
def hU:fH:=fun ds P=>∃g:Gr,ds=[aD (dh false) false g]/\(keys g).Nodup/\Mi g/\g.length<=2000/\(∀u,(fK g u).length<=2)/\∀S:Gr,oE g S->Bc g S (keys g)->(∀p∈S,p.2.length<=2 * g.length)->P (aD (dh true) true S) [none]
def mN:US:=
 (aC (aX (ni false 1 (dI du (aa 0)) (au 0) lu (kf (a7 0) (cW ao))) (au 1))
 (aC (eC (dI du (aa 0)) (au 2)
 (eC (dI bx (aj oR (aa 0) (aa 2))) (au 3)
 (i4 .cy 1 (lV 3) (lV 2))))
 (bO (eZ 1))))
theorem ph:∀ds P,ds.length=dB.length->hU ds P->mN (bF dB P) (ay (4-dB.length) ds):=by
 rintro ds P - ⟨g,rfl,hn,hg,hl,h2,k⟩
 simp only[ay,dB,List.map_cons,List.map_nil,List.length_cons,List.length_nil,Nat.reduceAdd,Nat.reduceSub,List.replicate,List.cons_append,List.nil_append]
 unfold mN
 have Yz:(keys g).length=g.length:=by simp[keys]
 repeat walk_at "u"
 rw[n9]
 refine eM (fun xs acc e=>∃(r9 rest:List Int) (o:Option D),keys g=r9++rest/\xs=rest.map .int/\acc=⟨(r9.map fun x=>(x,([]:List Int))).map (fun p=>DK.s (.inl p.1)),(r9.map fun x=>(x,([]:List Int))).map (fun p=>dh true p.2)⟩/\e=[o,some (aD (dh false) false g),none,none,none]) ?_ ?_ _ _ _ ⟨[],keys g,_,rfl,rfl,rfl,rfl⟩
 ·rintro acc e ⟨r9,rest,o,h1,hx,rfl,rfl⟩
  have:rest=[]:=by simpa using hx.symm
  subst this
  rw[List.append_nil] at h1
  subst h1
  repeat walk_at "u"
  rw[n9]
  refine bN (fun xs e=>∃(r9 rest:List Int) (S:Gr) (o2 o3:Option D),keys g=r9++rest/\xs=rest.map .int/\oE g S/\Bc g S r9/\(∀p∈S,p.2.length<=2 * r9.length)/\e=[some (aD (dh false) false g),some (aD (dh true) true S),o2,o3]) ?_ ?_ _ _ ⟨[],keys g,(keys g).map fun x=>(x,[]),_,_,rfl,rfl,⟨by simp[keys],fun p hp x hx=>?_⟩,(fun u hu=>nomatch hu),fun p hp=>?_,rfl⟩
  ·rintro e ⟨r9,rest,S,o2,o3,h1,hx,hS,hC,zo,rfl⟩
   have:rest=[]:=by simpa using hx.symm
   subst this
   rw[List.append_nil] at h1
   subst h1
   repeat walk_at "u"
   exact k S hS hC (by rw[Yz] at zo;exact zo)
  ·rintro x xs e ih ⟨r9,rest,S,o2,o3,h1,hx,hS,hC,zo,rfl⟩
   cases rest with
   |nil=>simp at hx
   |cons u rest=>
    simp only[List.map_cons,List.cons.injEq] at hx
    obtain⟨rfl,rfl⟩:=hx
    have hu:u∈keys g:=by rw[h1];simp
    have YQ:r9.length<=2000:=by
     have:(keys g).length=r9.length+(rest.length+1):=by rw[h1];simp
     omega
    have sW:=om (o:=false) hu
    have hb:=j_ (fK g u)
    repeat walk_at "u"
    rw[fD]
    refine bN (fun xs e=>∃(pre vs:List Int) (S:Gr) (o3:Option D),fK g u=pre++vs/\xs=vs.map .int/\oE g S/\(Bc g S r9/\∀v∈pre,∃l,(v,l)∈S/\u∈l)/\(∀p∈S,p.2.length<=2 * r9.length+pre.length)/\e=[some (aD (dh false) false g),some (aD (dh true) true S),some (.int u),o3]) ?_ ?_ _ _ ⟨[],fK g u,S,_,rfl,rfl,hS,⟨hC,(fun v hv=>nomatch hv)⟩,zo,rfl⟩
    ·rintro e ⟨pre,vs,S,o3,hp,hx,hS,hC,zo,rfl⟩
     have:vs=[]:=by simpa using hx.symm
     subst this
     rw[List.append_nil] at hp
     refine ih _ ⟨r9++[u],rest,S,_,_,by rw[h1];simp,rfl,hS,fun x hx v hv=>?_,fun p Ox=>?_,rfl⟩
     ·rcases List.mem_append.mp hx with z|z
      ·exact hC.1 x z v hv
      ·rw[List.mem_singleton.mp z] at hv ⊢
       rw[hp] at hv
       exact hC.2 v hv
     have:=zo p Ox
     have:=h2 u
     rw[hp] at this
     simp at this ⊢
     omega
    ·rintro x xs e v8 ⟨pre,vs,S,o3,hp,hx,hS,hC,zo,rfl⟩
     cases vs with
     |nil=>simp at hx
     |cons v vs=>
      simp only[List.map_cons,List.cons.injEq] at hx
      obtain⟨rfl,rfl⟩:=hx
      have Vp:v∈fK g u:=by rw[hp];simp
      have hv:v∈keys S:=by rw[hS.1];exact hg u v Vp
      obtain⟨a,l,b,rfl⟩:=lK hv
      have X2:v∉keys a:=fun h=>by
       have Q3:=hn
       rw[<-hS.1,keys,List.map_append,List.nodup_append] at Q3
       exact Q3.2.2 v h v (by simp) rfl
      have Ih:=zo (v,l) (by simp)
      have r6:pre.length<=2:=by have:=h2 u;rw[hp] at this;simp at this;omega
      simp only[] at Ih
      repeat walk_at "u"
      refine zf ⟨_,.int v,.int u,_,_,rfl,⟨_,_,_,rfl⟩,⟨rfl,rfl⟩,⟨rfl,rfl⟩,Cg X2,by rw[List.length_map];omega,?_⟩
      repeat walk_at "u"
      refine v8 _ ⟨pre++[v],vs,a++(v,l++[u])::b,some (.int v),by rw[hp];simp,rfl,⟨by rw[<-hS.1];simp[keys],fun p Ox x hx=>?_⟩,⟨fun x hx w hw=>zW (hC.1 x hx w hw),fun w hw=>?_⟩,fun p Ox=>?_,?_⟩
      ·rcases List.mem_append.mp Ox with h|h
       ·exact hS.2 p (by simp[h]) x hx
       ·rcases List.mem_cons.mp h with rfl|h
        ·rcases List.mem_append.mp hx with hx|hx
         ·exact hS.2 (v,l) (by simp) x hx
         ·rw[List.mem_singleton.mp hx];exact⟨hu,Vp⟩
        ·exact hS.2 p (by simp[h]) x hx
      ·rcases List.mem_append.mp hw with z|z
       ·exact zW (hC.2 w z)
       ·rw[List.mem_singleton.mp z];exact⟨l++[u],by simp,by simp⟩
      ·rcases List.mem_append.mp Ox with h|h
       ·have:=zo p (by simp[h]);simp;omega
       ·rcases List.mem_cons.mp h with rfl|h
        ·simp;omega
        ·have:=zo p (by simp[h]);simp;omega
      ·simp[aD,dh]
  ·obtain⟨y,_,rfl⟩:=List.mem_map.mp hp;simp at hx
  ·obtain⟨y,_,rfl⟩:=List.mem_map.mp hp;simp
 ·rintro x xs acc e ih ⟨r9,rest,o,h1,hx,rfl,rfl⟩
  cases rest with
  |nil=>simp at hx
  |cons u rest=>
   simp only[List.map_cons,List.cons.injEq] at hx
   obtain⟨rfl,rfl⟩:=hx
   have yd:(r9.map fun x=>(x,([]:List Int))).lookup u=none:=lookup_none.mpr fun h=>by
    simp[keys] at h
    rw[h1,List.nodup_append] at hn
    exact hn.2.2 u h u (by simp) rfl
   have hd:=vN (f:=dh true) _ u ([]:List Int) yd
   have Ih:((r9.map fun x=>(x,([]:List Int))).map (fun p=>dh true p.2)).length<=1000000:=by
    have:(keys g).length=r9.length+(rest.length+1):=by rw[h1];simp
    simp;omega
   repeat walk_at "u"
   refine ih _ _ ⟨r9++[u],rest,_,by rw[h1];simp,rfl,?_,rfl⟩
   have hd2:dput ((r9.map fun x=>(x,([]:List Int))).map (fun p=>DK.s (.inl p.1))) ((r9.map fun x=>(x,([]:List Int))).map (fun p=>dh true p.2)) (.s (.inl u)) (.lst true [])=_:=hd
   rw[hd2]
   simp
abbrev jw:List Bool:=[false]
def qV:fH:=fun ds P=>∃(m:Int) (bs:List b_),ds=[a6 false m bs]/\Bs bs/\∀(S:Gr),oE (aQ bs) S->Bc (aQ bs) S (keys (aQ bs))->(∀p∈S,p.2.length<=2 * (bs.length+1))->P (.lst true ((List.range bs.length).map fun(b:Nat)=>dh false (fK S b))) [none]
def FA:US:=
 (aC (aX (aA dB hU (ae (aA cS e9 (ae (aa 0) ao)) ao)) (bB 1))
 (bO (fP 1 (fw (ae (pR jU (ae (aj bc (aa 0) (uC (.int 1))) ao)) ao)) (au 0) lu (fE (aj oR (aa 2) (aa 0))))))
theorem BH:∀ds P,ds.length=jw.length->qV ds P->FA (bF jw P) (ay (2-jw.length) ds):=by
 rintro ds P - ⟨m,bs,rfl,hB,k⟩
 simp only[ay,jw,List.map_cons,List.map_nil,List.length_cons,List.length_nil,Nat.reduceAdd,Nat.reduceSub,List.replicate,List.cons_append,List.nil_append]
 unfold FA
 have uq:VS.bare (.lst false (bs.map (aU false)))=true:=by rw[jr,bH cu];rfl
 have hg:=hB.g
 have hl0:=hB.2.1
 have rn:(aQ bs).length<=2000:=by rw[iy];omega
 have eN:∀o,aT (aD (dh o) o (aQ bs))=aD (dh false) false (aQ bs):=fun o=>rO (kK o) o _
 have eP:aT (.tup [.int m,.lst false (bs.map (aU false))])=a6 false m bs:=dQ false m bs
 have hnf:=vW iJ (aQ bs)
 have eL:((bs.map (aU false)).length:Int)=bs.length:=by rw[List.length_map]
 have zj:(keys (aQ bs)).Nodup:=by
  simp only[keys,aQ,List.map_cons,List.map_map,List.nodup_cons]
  refine⟨fun h=>?_,?_⟩
  ·obtain⟨⟨b,i⟩,_,e⟩:=List.mem_map.mp h
   simp at e
  ·have:(bs.zipIdx.map ((fun p:Int×List Int=>p.1) ∘ fun p:b_×Nat=>((p.2:Int),lead p.1.2)))=(List.range' 0 bs.length).map (fun(n:Nat)=>(n:Int)):=by
    rw[<-List.zipIdx_map_snd 0 bs,List.map_map];rfl
   rw[this]
   exact List.Pairwise.map (fun(n:Nat)=>(n:Int)) (fun a b (h:a≠b)=>by show(a:Int)≠(b:Int);omega) List.nodup_range'
 have Oq:∀u,(fK (aQ bs) u).length<=2:=fun u=>by
  unfold fK
  cases e:(aQ bs).lookup u with
  |none=>simp
  |some l=>
   have hm:=iK e
   simp only[aQ,List.mem_cons,List.mem_map,Prod.mk.injEq] at hm
   rcases hm with⟨rfl,rfl⟩|⟨⟨b,i⟩,hm,rfl,rfl⟩
   ·simp
   ·show(lead b.2).length<=2
    cases b.2 with
    |stop=>simp[lead]
    |go a=>simp[lead]
    |choose p a b=>simp only[lead];split<;>simp
 simp only[a6]
 repeat walk_at "u"
 rw[eP]
 refine Am (by omega) ?_
 repeat walk_at "u"
 rw[eN true]
 refine⟨aQ bs,rfl,zj,hg,rn,Oq,fun S hS hC zo=>?_⟩
 have hSn:=vW iJ S
 repeat walk_at "u"
 rw[rO (kK true),eL]
 repeat walk_at "u"
 rw[show((bs.length:Int)).toNat=bs.length from rfl]
 refine EA bs.length (fun i acc e=>acc=(List.range i).map (fun(b:Nat)=>dh false (fK S b))/\∃o,e=[o,some (a6 false m bs),some (aD (dh false) false S)]) ?_ ?_ _ _ ⟨rfl,_,rfl⟩
 ·rintro acc e ⟨rfl,o,rfl⟩
  repeat walk_at "u"
  exact k S hS hC (by rw[iy] at zo;exact zo)
 ·rintro i acc e N hi ih ⟨rfl,o,rfl⟩
  have V6:((List.range i).map (fun(b:Nat)=>dh false (fK S b))).length<=1000000:=by simp;omega
  have sW:=om (o:=false) (g:=S) (u:=(i:Int)) (by rw[hS.1];exact cU.mpr (.inr ⟨by omega,by omega⟩))
  have V2:=j_ (fK S (i:Int))
  repeat walk_at "u"
  refine ih _ _ ⟨?_,_,rfl⟩
  rw[List.range_succ,List.map_append,List.map_singleton]
def az.putN:az->List Str | .put x _=>[x] | .tell _=>[]
def b5(dl:List az):List Str:=dl.flatMap az.putN
abbrev SS:=List (Str×Bool)
abbrev f_(o:Bool)(l:SS):D:=sD D.bl o l
def aZ(l:SS):List Str:=l.map (·.1)
theorem yA(l:SS):VS.eJ (f_ true l)=true:=by simp only[f_,sD,G_,eI (f:=fun p:Str×Bool=>D.bl p.2) (fun _=>rfl)];rfl
theorem uX(o:Bool)(l:SS):VS.aT (f_ o l)=f_ false l:=by simp only[f_,sD,yO,aV (f:=fun p:Str×Bool=>D.bl p.2) (fun _=>DV)]
theorem pT(l:SS):VS.bare (f_ false l)=true:=by simp only[f_,sD,NI,bH (f:=fun p:Str×Bool=>D.bl p.2) (fun _=>rfl)];rfl
theorem HM{l:SS}{x:Str}:(l.lookup x).isSome=decide (x∈aZ l):=by
 induction l with
 |nil=>simp[aZ]
 |cons p l ih=>
  obtain⟨y,u⟩:=p
  rw[List.lookup_cons]
  by_cases e:x=y
  ·subst e;simp[aZ]
  ·have:(x==y)=false:=by simpa using e
   rw[this,ih];simp[aZ,e]
theorem mG{l:SS}{x:Str}:(bQ (l.map fun p=>DK.s (.inr p.1)) (l.map fun p=>D.bl p.2) (.s (.inr x))).isSome=decide (x∈aZ l):=by
 rw[vP (f:=D.bl),Option.isSome_map,HM]
theorem ib{l:SS}{x:Str}{b:Bool}{y:Str}:y∈aZ (c9 l x b)↔y∈aZ l\/y=x:=nB x b l y
theorem R1{l:SS}:f_ true l=.cy true false (l.map fun p=>DK.s (.inr p.1)) (l.map fun p=>D.bl p.2):=rfl
abbrev dm:List Bool:=[false]
def fM:fH:=fun ds P=>∃dl:List az,ds=[.lst false (dl.map az.d)]/\dl.length<=1000/\∀l:SS,(∀x,x∈aZ l↔x∈b5 dl)->(aZ l).Nodup->l.length<=dl.length->P (f_ true l) [none]
def oU:US:=
 (bO (ni false 1 (dI bx (aa 0)) (au 0) (aN (aj (kc false) (aj bc (aa 0) (uC (.int 0))) (uC (.str "put")))) (kf (aj bc (aa 0) (uC (.int 1))) (uC (.bl true)))))
theorem qC:∀ds P,ds.length=dm.length->fM ds P->oU (bF dm P) (ay (1-dm.length) ds):=by
 rintro ds P - ⟨dl,rfl,hl,k⟩
 simp only[ay,dm,List.map_cons,List.map_nil,List.length_cons,List.length_nil,Nat.reduceAdd,Nat.reduceSub,List.replicate,List.cons_append,List.nil_append]
 unfold oU
 have i_:=bH (xs:=dl) az.bare
 repeat walk_at "u"
 refine eM (fun xs acc e=>∃(pre post:List az) (l:SS) (o:Option D),dl=pre++post/\xs=post.map az.d/\(∀x,x∈aZ l↔x∈b5 pre)/\(aZ l).Nodup/\l.length<=pre.length/\acc=⟨l.map (fun p=>DK.s (.inr p.1)),l.map (fun p=>D.bl p.2)⟩/\e=[o,some (.lst false (dl.map az.d))]) ?_ ?_ _ _ _ ⟨[],dl,[],_,rfl,rfl,(fun x=>by simp[aZ,b5]),by simp[aZ],by simp,rfl,rfl⟩
 ·rintro acc e ⟨pre,post,l,o,h1,h2,h3,h5,h4,rfl,rfl⟩
  have:post=[]:=by simpa using h2.symm
  subst this
  rw[List.append_nil] at h1
  subst h1
  repeat walk_at "u"
  exact k l h3 h5 h4
 ·rintro x xs acc e ih ⟨pre,post,l,o,h1,h2,h3,h5,h4,rfl,rfl⟩
  cases post with
  |nil=>simp at h2
  |cons d post=>
   simp only[List.map_cons,List.cons.injEq] at h2
   obtain⟨rfl,rfl⟩:=h2
   have r6:pre.length<=1000:=by rw[h1] at hl;simp at hl;omega
   have hz:(l.map fun p=>D.bl p.2).length<=1000000:=by rw[List.length_map];omega
   cases d with
   |put x w=>
    have hb:=w.bare
    simp only[az.d]
    repeat walk_at "u"
    rw[kg (f:=D.bl)]
    exact ih _ _ ⟨pre++[.put x w],post,c9 l x true,_,by rw[h1];simp,rfl,fun y=>by rw[ib,h3];simp[b5,az.putN],jl x true l h5,by have:=ij x true l;simp;omega,rfl,rfl⟩
   |tell p=>
    have hb:=p.bare
    have e1:sY (.str "tell") (.str "put")=some false:=by decide +kernel
    simp only[az.d]
    repeat walk_at "u"
    exact ih _ _ ⟨pre++[.tell p],post,l,_,by rw[h1];simp,rfl,fun y=>by rw[h3];simp[b5,az.putN],h5,by simp;omega,rfl,rfl⟩
theorem oP{dl:List az}{P:D->ai->Prop}(h:dl.length<=1000)(k:∀l:SS,(∀x,x∈aZ l↔x∈b5 dl)->P (f_ true l) [none]):fM [.lst false (dl.map az.d)] P:=⟨dl,rfl,h,fun l hl _ _=>k l hl⟩
def fR(e:End):List Str->List az->List Str
 |put,[]=>(aG e.parts).filter fun x=>decide (x∉put)
 |put,d::dl=>((aG d.parts).filter fun x=>decide (x∉put))++fR e (put++d.putN) dl
def bY(b:b_):List Str:=fR b.2 [] b.1
theorem tZ{e:End}:∀(dl:List az) (put:List Str),(fR e put dl).length<=2 * dl.length+1
 | [],put=>by
  have h1:=List.length_filter_le (fun x=>decide (x∉put)) (aG e.parts)
  have h2:=el (ps:=e.parts)
  have h3:=jA (e:=e)
  simp only[fR,List.length_nil];omega
 |d::dl,put=>by
  have h1:=List.length_filter_le (fun x=>decide (x∉put)) (aG d.parts)
  have h2:=el (ps:=d.parts)
  have h3:=lO (w:=d)
  have h4:=tZ (e:=e) dl (put++d.putN)
  simp only[fR,List.length_append,List.length_cons];omega
theorem y4{α:Type}{ug:UG}{ut:UT}{inner:UL α}{k:α->ai->Prop}{x:D}{xs:List D}{acc:α}{e:ai}(h:ug x e fun e2=>ut e2 fun b e3=>if b=true then inner acc e3 (ef ug ut inner k xs) else ef ug ut inner k xs acc e3):ef ug ut inner k (x::xs) acc e:=h
theorem Av{l:SS}{put xs:List Str}(h:∀x,x∈aZ l↔x∈put):(xs.filter fun x=>decide (x∉aZ l))=xs.filter fun x=>decide (x∉put):=List.filter_congr fun x _=>by simp[h x]
theorem pY{l:SS}{k:List D->ai->Prop}{b d e u q:Option D}:∀(xs pre:List Str) (o:Option D),pre.length+xs.length<=1000000->(∀o,k ((pre++xs.filter (fun x=>decide (x∉aZ l))).map .str) [o,b,d,e,some (f_ true l),u,q])->ef (au 0) (aN (aj (jy true) (aa 0) (aa 4))) (fE (a7 0)) k (xs.map .str) (pre.map .str) [o,b,d,e,some (f_ true l),u,q]
 | [],pre,o,_,h=>by have:=h o;rw[List.filter_nil,List.append_nil] at this;exact this
 |x::xs,pre,o,hl,h=>by
  have hz:(pre.map D.str).length<=1000000:=by rw[List.length_map];simp at hl;omega
  have h1:=pY (l:=l) (k:=k) (b:=b) (d:=d) (e:=e) (u:=u) (q:=q) xs pre (some (.str x)) (by simp at hl ⊢;omega)
  have h2:=pY (l:=l) (k:=k) (b:=b) (d:=d) (e:=e) (u:=u) (q:=q) xs (pre++[x]) (some (.str x)) (by simp at hl ⊢;omega)
  rw[List.map_cons]
  refine y4 ?_
  rw[R1] at h1 h2 h ⊢
  repeat walk_at "u"
  rw[mG]
  by_cases hm:x∈aZ l
  ·have e1:(!decide (x∈aZ l))=false:=by simp[hm]
   rw[e1]
   repeat walk_at "u"
   refine h1 fun o=>?_
   have:=h o
   rw[List.filter_cons,if_neg (by simp[hm])] at this
   exact this
  ·have e1:(!decide (x∈aZ l))=true:=by simp[hm]
   rw[e1]
   repeat walk_at "u"
   rw[show pre.map D.str++[D.str x]=(pre++[x]).map D.str by simp]
   refine h2 fun o=>?_
   have:=h o
   rw[List.filter_cons,if_pos (by simp[hm])] at this
   simpa using this
abbrev bW:List Bool:=[false]
def dg:fH:=fun ds P=>∃b:b_,ds=[aU false b]/\b.1.length<=1000/\(∀d∈b.1,d.gY)/\P (.lst true ((bY b).map .str)) [none]
def jP:US:=
 (aC (aX (a7 0) (fN 2 (bC (bB 1) (bC (bB 2) fO))))
 (aC (aX (wD false) (au 3))
 (aC (aX (cW ao) (au 4))
 (aC (eC (dI bx (aa 1)) (au 5)
 (aC (iH 4 (ae (fP 1 (dI bx (aA bZ dn (ae (aA bV de (ae (aa 5) ao)) ao))) (au 0) (aN (aj (jy true) (aa 0) (aa 4))) (fE (a7 0))) ao))
 (di (aN (aj (kc false) (aj bc (aa 5) (uC (.int 0))) (uC (.str "put"))))
 (iZ 3 (aj bc (aa 5) (uC (.int 1))) (uC (.bl true)))
 cg)))
 (aC (iH 4 (ae (fP 1 (dI bx (aA bZ dn (ae (aA bE cH (ae (aa 2) ao)) ao))) (au 0) (aN (aj (jy true) (aa 0) (aa 4))) (fE (a7 0))) ao))
 (bO (eZ 4)))))))
theorem lC:∀ds P,ds.length=bW.length->dg ds P->jP (bF bW P) (ay (6-bW.length) ds):=by
 rintro ds P - ⟨⟨dl,en⟩,rfl,hl,B3,k⟩
 simp only[ay,bW,List.map_cons,List.map_nil,List.length_cons,List.length_nil,Nat.reduceAdd,Nat.reduceSub,List.replicate,List.cons_append,List.nil_append]
 unfold jP
 have zl:=cu (dl,en)
 have i_:=bH (xs:=dl) az.bare
 have TB:=en.bare
 have sW:=ja dl
 have FI:=en.aT
 simp only[aU] at zl hl ⊢
 repeat walk_at "u"
 rw[sW,FI]
 repeat walk_at "u"
 rw[aV az.aT]
 refine bN (fun xs e=>∃(pre post:List az) (l:SS) (us:List Str) (o5:Option D),dl=pre++post/\xs=post.map az.d/\(∀x,x∈aZ l↔x∈b5 pre)/\l.length<=pre.length/\us.length<=2 * pre.length/\us++fR en (b5 pre) post=bY (dl,en)/\e=[some (.tup [.lst false (dl.map az.d),en.d]),some (.lst false (dl.map az.d)),some en.d,some (f_ true l),some (.lst true (us.map .str)),o5]) ?_ ?_ _ _ ⟨[],dl,[],[],_,rfl,rfl,(fun x=>by simp[aZ,b5]),by simp,by simp,rfl,rfl⟩
 ·rintro e ⟨pre,post,l,us,o5,h1,h2,h3,h4,h5,h6,rfl⟩
  have:post=[]:=by simpa using h2.symm
  subst this
  rw[List.append_nil] at h1
  subst h1
  have r6:=jA (e:=en)
  have Vy:=el (ps:=en.parts)
  have Ji:=eI (xs:=en.parts) Part.eJ
  have S9:VS.eJ (.lst true (en.parts.map Part.d))=true:=by rw[pf,Ji];rfl
  have Ol:=eD (aG en.parts)
  have Z7:(us.map D.str).length<=1000000:=by simp;omega
  repeat walk_at "u"
  rw[FI]
  refine iL ?_
  repeat walk_at "u"
  rw[b4,aV Part.aT]
  refine hV (by omega) ?_
  repeat walk_at "u"
  rw[dY]
  refine pY (aG en.parts) [] _ (by simp;omega) fun o=>?_
  have OJ:=List.length_filter_le (fun x=>decide (x∉b5 dl)) (aG en.parts)
  rw[List.nil_append,Av h3]
  have h7:fR en (b5 dl) []=(aG en.parts).filter fun x=>decide (x∉b5 dl):=rfl
  rw[h7] at h6
  generalize ((aG en.parts).filter fun x=>decide (x∉b5 dl))=fs at OJ h6 ⊢
  have YK:=cX (xs:=fs)
  have hz:(us.map D.str).length+(fs.map D.str).length<=1000000:=by simp only[List.length_map];omega
  repeat walk_at "u"
  rw[<-List.map_append,h6]
  exact k
 ·rintro x xs e ih ⟨pre,post,l,us,o5,h1,h2,h3,h4,h5,h6,rfl⟩
  cases post with
  |nil=>simp at h2
  |cons d post=>
   simp only[List.map_cons,List.cons.injEq] at h2
   obtain⟨rfl,rfl⟩:=h2
   have LK:=B3 d (by rw[h1];simp)
   have Yl:pre.length<=1000:=by rw[h1] at hl;simp at hl;omega
   have r6:=lO (w:=d)
   have Vy:=el (ps:=d.parts)
   have S9:=kF d.parts
   have Ol:=eD (aG d.parts)
   have TC:=d.aT
   repeat walk_at "u"
   rw[TC]
   refine jL LK ?_
   repeat walk_at "u"
   rw[nN]
   refine hV (by omega) ?_
   repeat walk_at "u"
   rw[dY]
   refine pY (aG d.parts) [] _ (by simp;omega) fun o=>?_
   have OJ:=List.length_filter_le (fun x=>decide (x∉b5 pre)) (aG d.parts)
   rw[List.nil_append,Av h3]
   have h7:fR en (b5 pre) (d::post)=((aG d.parts).filter fun x=>decide (x∉b5 pre))++fR en (b5 pre++d.putN) post:=rfl
   rw[h7,<-List.append_assoc] at h6
   generalize ((aG d.parts).filter fun x=>decide (x∉b5 pre))=fs at OJ h6 ⊢
   have YK:=cX (xs:=fs)
   have hz:(us.map D.str).length+(fs.map D.str).length<=1000000:=by simp only[List.length_map];omega
   have hlz:(l.map fun p=>D.bl p.2).length<=1000000:=by rw[List.length_map];omega
   have S8:b5 pre++d.putN=b5 (pre++[d]):=by simp[b5]
   rw[S8] at h6
   cases d with
   |put x w=>
    have hb:=w.bare
    have nW:=fun o5=>ih [some (.tup [.lst false (dl.map az.d),en.d]),some (.lst false (dl.map az.d)),some en.d,some (f_ true (c9 l x true)),some (.lst true ((us++fs).map .str)),o5] ⟨pre++[.put x w],post,c9 l x true,us++fs,o5,by rw[h1];simp,rfl,fun y=>by rw[ib,h3];simp[b5,az.putN],by have:=ij x true l;simp;omega,by simp;omega,h6,rfl⟩
    simp only[az.d]
    rw[R1]
    repeat walk_at "u"
    rw[kg (f:=D.bl),<-List.map_append]
    exact nW _
   |tell p=>
    have hb:=p.bare
    have e1:sY (.str "tell") (.str "put")=some false:=by decide +kernel
    have nW:=fun o5=>ih [some (.tup [.lst false (dl.map az.d),en.d]),some (.lst false (dl.map az.d)),some en.d,some (f_ true l),some (.lst true ((us++fs).map .str)),o5] ⟨pre++[.tell p],post,l,us++fs,o5,by rw[h1];simp,rfl,fun y=>by rw[h3];simp[b5,az.putN],by simp;omega,by simp;omega,h6,rfl⟩
    simp only[az.d]
    repeat walk_at "u"
    rw[<-List.map_append]
    exact nW _
theorem uo{b:b_}{P:D->ai->Prop}(h1:b.1.length<=1000)(h2:∀d∈b.1,d.gY)(k:P (.lst true ((bY b).map .str)) [none]):dg [aU false b] P:=⟨b,rfl,h1,h2,k⟩
inductive iF (bs:List b_) (x:Str):Nat->Prop
 |here {i:Nat}{b:b_}:bs[i]? = some b->x∈bY b->iF bs x i
 |on {i j:Nat}{b:b_}:bs[i]? = some b->x∉b5 b.1->(j:Int)∈lead b.2->iF bs x j->iF bs x i
def hasB(Bl:List SS)(i:Nat)(x:Str):Prop:=∃l,Bl[i]? = some l/\x∈aZ l
abbrev pairD(p:Nat×Str):D:=.tup [.int p.1,.str p.2]
structure k0(bs:List b_)(xs:List Str)(Bl:List SS)(line:List (Nat×Str)):Prop where
 len:Bl.length=bs.length
 nd:∀l∈Bl,(aZ l).Nodup
 sub:∀l∈Bl,∀x∈aZ l,x∈xs
 lw:∀p∈line,p.1<bs.length/\iF bs p.2 p.1/\p.2∈xs
 bw:∀i x,hasB Bl i x->iF bs x i
 c1:∀i b,bs[i]? = some b->∀x∈bY b,hasB Bl i x\/(i,x)∈line
 c2:∀j x,hasB Bl j x->∀i b,bs[i]? = some b->(j:Int)∈lead b.2->x∉b5 b.1->hasB Bl i x\/(i,x)∈line
theorem k0.skip{bs:List b_}{xs:List Str}{Bl:List SS}{L:List (Nat×Str)}{i:Nat}{x:Str}(h:k0 bs xs Bl (L++[(i,x)]))(hb:hasB Bl i x):k0 bs xs Bl L:=by
 have go:∀{j:Nat}{y:Str},hasB Bl j y\/(j,y)∈L++[(i,x)]->hasB Bl j y\/(j,y)∈L:=fun{j y} q=>by
  rcases q with q|q
  ·exact .inl q
  ·rcases List.mem_append.mp q with q|q
   ·exact .inr q
   ·cases List.mem_singleton.mp q;exact .inl hb
 exact⟨h.len,h.nd,h.sub,fun p hp=>h.lw p (List.mem_append_left _ hp),h.bw,fun i b e x hx=>go (h.c1 i b e x hx),fun j x q i b e hl hp=>go (h.c2 j x q i b e hl hp)⟩
theorem mz{Bl:List SS}{i:Nat}{l:SS}{x:Str}(hi:Bl[i]? = some l){j:Nat}{y:Str}:hasB (Bl.set i (c9 l x true)) j y↔hasB Bl j y\/(j=i/\y=x):=by
 have iM:i<Bl.length:=(List.getElem?_eq_some_iff.mp hi).1
 unfold hasB
 by_cases e:j=i
 ·subst e
  rw[List.getElem?_set_self iM,hi]
  constructor
  ·rintro⟨_,z,hy⟩
   cases z
   rcases ib.mp hy with q|q
   ·exact .inl ⟨l,rfl,q⟩
   ·exact .inr ⟨rfl,q⟩
  ·rintro(⟨_,z,hy⟩|⟨_,rfl⟩)
   ·cases z;exact⟨_,rfl,ib.mpr (.inl hy)⟩
   ·exact⟨_,rfl,ib.mpr (.inr rfl)⟩
 ·rw[List.getElem?_set_ne (Ne.symm e)]
  constructor
  ·exact fun q=>.inl q
  ·rintro(q|⟨q,_⟩)
   ·exact q
   ·exact absurd q e
theorem k0.put{bs:List b_}{xs:List Str}{Bl:List SS}{L add:List (Nat×Str)}{i:Nat}{x:Str}{l:SS}(h:k0 bs xs Bl (L++[(i,x)]))(hi:Bl[i]? = some l)
  (ha:∀p∈add,p.2=x/\∃b,bs[p.1]? = some b/\x∉b5 b.1/\(i:Int)∈lead b.2) (hc:∀j b,bs[j]? = some b->(i:Int)∈lead b.2->x∉b5 b.1->(j,x)∈add):k0 bs xs (Bl.set i (c9 l x true)) (L++add):=by
 obtain⟨ZZ,Vo,Vn⟩:=h.lw (i,x) (by simp)
 have hm:=List.mem_of_getElem? hi
 have go:∀{j:Nat}{y:Str},hasB Bl j y\/(j,y)∈L++[(i,x)]->hasB (Bl.set i (c9 l x true)) j y\/(j,y)∈L++add:=fun{j y} q=>by
  rcases q with q|q
  ·exact .inl ((mz hi).mpr (.inl q))
  ·rcases List.mem_append.mp q with q|q
   ·exact .inr (List.mem_append_left _ q)
   ·cases List.mem_singleton.mp q;exact .inl ((mz hi).mpr (.inr ⟨rfl,rfl⟩))
 refine⟨by rw[List.length_set,h.len],fun q hq=>?_,fun q hq y hy=>?_,fun p hp=>?_,fun j y q=>?_,fun i b e x hx=>go (h.c1 i b e x hx),fun j y q j' b e hl hp=>?_⟩
 ·rcases List.mem_or_eq_of_mem_set hq with q|q
  ·exact h.nd _ q
  ·rw[q];exact jl x true l (h.nd l hm)
 ·rcases List.mem_or_eq_of_mem_set hq with q|q
  ·exact h.sub _ q y hy
  ·rw[q] at hy
   rcases ib.mp hy with z|z
   ·exact h.sub l hm y z
   ·rw[z];exact Vn
 ·rcases List.mem_append.mp hp with z|z
  ·exact h.lw p (List.mem_append_left _ z)
  ·obtain⟨e,b,hb,hn,hl⟩:=ha p z
   rw[e]
   exact⟨(List.getElem?_eq_some_iff.mp hb).1,.on hb hn hl Vo,Vn⟩
 ·rcases(mz hi).mp q with q|⟨rfl,rfl⟩
  ·exact h.bw j y q
  ·exact Vo
 ·rcases(mz hi).mp q with q|⟨rfl,rfl⟩
  ·exact go (h.c2 j y q j' b e hl hp)
  ·exact .inr (List.mem_append_right _ (hc j' b e hl hp))
theorem k0.done{bs:List b_}{xs:List Str}{Bl:List SS}(h:k0 bs xs Bl []){i:Nat}{x:Str}:hasB Bl i x↔iF bs x i:=by
 refine⟨h.bw i x,fun w=>?_⟩
 induction w with
 |here hb hx=>exact(h.c1 _ _ hb _ hx).resolve_right (by simp)
 |on hb hn hl _ ih=>exact(h.c2 _ _ ih _ _ hb hl hn).resolve_right (by simp)
def v5(Bl:List SS):Nat:=(Bl.map List.length).sum
theorem zO{l l':SS}:∀{Bl:List SS}{i:Nat},Bl[i]? = some l->v5 (Bl.set i l')+l.length=v5 Bl+l'.length
 | [],i,h=>by simp at h
 |a::Bl,0,h=>by cases (show some a=some l from h);simp[v5];omega
 |a::Bl,i+1,h=>by have:=zO (l':=l') (Bl:=Bl) (i:=i) (by simpa using h);simp only[v5,List.set_cons_succ,List.map_cons,List.sum_cons] at this ⊢;omega
theorem CZ{K:Nat}:∀{Bl:List SS},(∀l∈Bl,l.length<=K)->v5 Bl<=Bl.length * K
 | [],_=>by simp[v5]
 |a::Bl,h=>by
  have h1:=h a (.head _)
  have h2:=CZ (K:=K) (Bl:=Bl) fun l hl=>h l (.tail _ hl)
  simp only[v5,List.map_cons,List.sum_cons,List.length_cons,Nat.add_mul,Nat.one_mul] at h2 ⊢;omega
theorem k0.v5{bs:List b_}{xs:List Str}{Bl:List SS}{L:List (Nat×Str)}(h:k0 bs xs Bl L):v5 Bl<=bs.length * xs.length:=by
 rw[<-h.len]
 refine CZ fun l hl=>?_
 have:=gL (aZ l) xs (h.nd l hl) (h.sub l hl)
 simpa[aZ] using this
theorem l5{x:Str}{b:Bool}:∀{l:SS},x∉aZ l->(c9 l x b).length=l.length+1
 | [],_=>by simp[c9]
 |(y,u)::l,h=>by
  have h1:¬y=x:=fun e=>h (by simp[aZ,e])
  have h2:x∉aZ l:=fun e=>h (by simp only[aZ,List.map_cons,List.mem_cons];exact .inr e)
  simp only[c9,if_neg h1,List.length_cons,l5 h2]
theorem Ft{Bl:List SS}{i:Nat}{l:SS}(h:Bl[i]? = some l):child (.lst true (Bl.map (f_ true))) (.int i)=some (f_ true l,fun c'=>.lst true ((Bl.map (f_ true)).set i c')):=by
 have iM:i<Bl.length:=(List.getElem?_eq_some_iff.mp h).1
 show(xy _ _).bind _=_
 rw[Lg (by omega) (by simp;omega)]
 simp[h]
def ft:Nat->List b_->List (Nat×Str)
 |_,[]=>[]
 |i,b::bs=>(bY b).map (fun x=>(i,x))++ft (i+1) bs
theorem lI{j:Nat}{x:Str}:∀{bs:List b_}{i:Nat},(j,x)∈ft i bs↔∃k b,bs[k]? = some b/\x∈bY b/\j=i+k
 | [],i=>by simp[ft]
 |b::bs,i=>by
  rw[ft,List.mem_append,lI]
  constructor
  ·rintro(h|⟨k,b',h1,h2,h3⟩)
   ·obtain⟨y,hy,e⟩:=List.mem_map.mp h
    cases e
    exact⟨0,b,rfl,hy,rfl⟩
   ·exact⟨k+1,b',h1,h2,by omega⟩
  ·rintro⟨k,b',h1,h2,h3⟩
   cases k with
   |zero=>cases (show some b=some b' from h1);exact .inl (List.mem_map.mpr ⟨x,h2,by rw[h3];rfl⟩)
   |succ k=>exact .inr ⟨k,b',h1,h2,by omega⟩
theorem xI{n i:Nat}{x:Str}(h:hasB (List.replicate n ([]:SS)) i x):False:=by
 obtain⟨l,e,hx⟩:=h
 have:=List.eq_of_mem_replicate (List.mem_of_getElem? e)
 rw[this] at hx
 cases hx
theorem k0.start{bs:List b_}{xs:List Str}(hx:∀b∈bs,∀x∈bY b,x∈xs):k0 bs xs (List.replicate bs.length []) (ft 0 bs):=by
 refine⟨by simp,fun l hl=>by rw[List.eq_of_mem_replicate hl];simp[aZ],(fun l hl x hx=>by rw[List.eq_of_mem_replicate hl] at hx;cases hx),fun p hp=>?_,fun i x h=>(xI h).elim,fun i b e x hx=>.inr (lI.mpr ⟨i,b,e,hx,by omega⟩),fun j x h=>(xI h).elim⟩
 obtain⟨j,x⟩:=p
 obtain⟨k,b,h1,h2,h3⟩:=lI.mp hp
 have:j=k:=by omega
 subst this
 exact⟨(List.getElem?_eq_some_iff.mp h1).1,.here h1 h2,hx b (List.mem_of_getElem? h1) x h2⟩
theorem lJ{K:Nat}:∀{bs:List b_}{i:Nat},(∀b∈bs,b.1.length<=K)->(ft i bs).length<=bs.length * (2 * K+1)
 | [],i,_=>by simp[ft]
 |b::bs,i,h=>by
  have h1:=tZ (e:=b.2) b.1 []
  have h2:=h b (.head _)
  have h3:=lJ (K:=K) (bs:=bs) (i:=i+1) fun x hx=>h x (.tail _ hx)
  simp only[ft,List.length_append,List.length_map,List.length_cons,Nat.add_mul,Nat.one_mul,bY] at h3 ⊢
  omega
theorem t_{bs:List b_}:(keys (aQ bs)).Nodup:=by
 simp only[keys,aQ,List.map_cons,List.map_map,List.nodup_cons]
 refine⟨fun h=>?_,?_⟩
 ·obtain⟨⟨b,i⟩,_,e⟩:=List.mem_map.mp h
  simp at e
 ·have:(bs.zipIdx.map ((fun p:Int×List Int=>p.1) ∘ fun p:b_×Nat=>((p.2:Int),lead p.1.2)))=(List.range' 0 bs.length).map (fun(n:Nat)=>(n:Int)):=by
   rw[<-List.zipIdx_map_snd 0 bs,List.map_map];rfl
  rw[this]
  exact List.Pairwise.map (fun(n:Nat)=>(n:Int)) (fun a b (h:a≠b)=>by show(a:Int)≠(b:Int);omega) List.nodup_range'
theorem nZ{α:Type}{k:Int}{x:α}:∀{l:List (Int×α)},(keys l).Nodup->(k,x)∈l->l.lookup k=some x
 | [],_,h=>by cases h
 |(j,y)::l,hn,h=>by
  simp only[keys,List.map_cons,List.nodup_cons] at hn
  rw[List.lookup_cons]
  rcases List.mem_cons.mp h with e|h
  ·cases e;simp
  ·have:k≠j:=fun e=>hn.1 (by rw[<-e];exact List.mem_map.mpr ⟨(k,x),h,rfl⟩)
   have:(k==j)=false:=by simpa using this
   rw[this];exact nZ hn.2 h
theorem qd{bs:List b_}{j:Nat}{b:b_}(h:bs[j]? = some b):fK (aQ bs) (j:Int)=lead b.2:=by
 unfold fK
 rw[nZ (x:=lead b.2) t_ (by
  simp only[aQ,List.mem_cons,List.mem_map]
  exact .inr ⟨(b,j),List.mem_zipIdx_iff_getElem?.mpr h,rfl⟩)]
 rfl
theorem zS{S:Gr}{i:Int}(h:i∈keys S):(i,fK S i)∈S:=by
 have:=lookup_isSome.mpr h
 unfold fK
 cases e:S.lookup i with
 |none=>rw[e] at this;cases this
 |some l=>exact iK e
section
variable {bs:List b_}{S:Gr}{i j:Nat}{b:b_}
theorem zX(hS:oE (aQ bs) S)(hi:i<bs.length):(i:Int)∈keys S:=by rw[hS.1];exact cU.mpr (.inr ⟨by omega,by omega⟩)
theorem Bb(hS:oE (aQ bs) S)(hi:i<bs.length){u:Int}(hu:u∈fK S i):u = -1\/∃(j:Nat) (b:b_),u=(j:Int)/\bs[j]? = some b/\(i:Int)∈lead b.2:=by
 obtain⟨h1,h2⟩:=hS.2 _ (zS (zX hS hi)) u hu
 rcases cU.mp h1 with h|⟨h3,h4⟩
 ·exact .inl h
 ·obtain⟨j,rfl⟩:=Int.eq_ofNat_of_zero_le h3
  have hj:j<bs.length:=by omega
  have e:bs[j]? = some bs[j]:=List.getElem?_eq_getElem hj
  rw[qd e] at h2
  exact .inr ⟨j,_,rfl,e,h2⟩
theorem uY(hS:oE (aQ bs) S)(hC:Bc (aQ bs) S (keys (aQ bs)))(hb:bs[j]? = some b)(hl:(i:Int)∈lead b.2):(j:Int)∈fK S i:=by
 have hj:=(List.getElem?_eq_some_iff.mp hb).1
 obtain⟨l,h1,h2⟩:=hC j (cU.mpr (.inr ⟨by omega,by omega⟩)) i (by rw[qd hb];exact hl)
 have hn:(keys S).Nodup:=by rw[hS.1];exact t_
 unfold fK
 rw[nZ hn h1]
 exact h2
end
theorem HY{m:Int}{bs:List b_}{P:D->ai->Prop}(h:Bs bs)(k:∀(S:Gr),oE (aQ bs) S->Bc (aQ bs) S (keys (aQ bs))->(∀p∈S,p.2.length<=2 * (bs.length+1))->P (.lst true ((List.range bs.length).map fun(b:Nat)=>dh false (fK S b))) [none]):qV [a6 false m bs] P:=⟨m,bs,rfl,h,k⟩
theorem fi{α:Type}{f:α->D}{xs:List α}{i:Nat}{l:α}(h:xs[i]? = some l):g_ (xs.map f) (i:Int)=some (f l):=by
 obtain⟨iM,e⟩:=List.getElem?_eq_some_iff.mp h
 rw[p3 (by omega) (by omega)]
 simp[e]
abbrev dT(o:Bool)(l:SS):D:=.cy o false (l.map fun p=>DK.s (.inr p.1)) (l.map fun p=>D.bl p.2)
theorem Eh(p:Nat×Str):VS.aT (pairD p)=pairD p:=by simp only[pairD,jq,eV,fC,gX,iQ]
theorem LS{a b c d:D}{Bl:List SS}{L:List (Nat×Str)}{i:Int}{x:Str}{o:Option D}(ha:VS.aT a=a)(hb:VS.aT b=b)(hc:VS.aT c=c)(hd:VS.aT d=d):sX [some a,some b,some c,some d,some (.lst true (Bl.map (f_ true))),some (.lst true (L.map pairD)),some (.int i),some (.str x),o]=[some a,some b,some c,some d,some (.lst false (Bl.map (f_ false))),some (.lst false (L.map pairD)),some (.int i),some (.str x),o.map VS.aT]:=by
 rw[kb,kb,kb,kb,kb,kb,kb,kb,ha,hb,hc,hd,b4,b4,aV (uX true),aV Eh,gX,iQ]
 rfl
abbrev bL:List Bool:=[false]
def cZ:fH:=fun ds P=>∃(m:Int) (bs:List b_) (xs:List Str),ds=[a6 false m bs]/\Bs bs/\bs.length<=30/\xs.length<=63/\(∀b∈bs,b.1.length<=100)/\(∀b∈bs,∀d∈b.1,d.gY)/\(∀b∈bs,∀x∈bY b,x∈xs)/\∀Bl:List SS,k0 bs xs Bl []->P (.lst true (Bl.map (f_ true))) [none]
def iB:US:=
 (aC (aX (aj bc (aa 0) (uC (.int 1))) (bB 1))
 (aC (aX (p' jw qV (ae (aa 0) ao)) (bB 2))
 (aC (aX (fP 2 (dI bx (aa 1)) (fN 2 (bC (au 0) (bC (au 1) fO))) lu (fE (aA dm fM (ae (aa 0) ao)))) (bB 3))
 (aC (aX (fP 1 (dI bx (aa 1)) (au 0) lu (fE (wD false))) (au 4))
 (aC (aX (fP 3 (oD bx (aa 1)) (fN 2 (bC (au 0) (bC (au 1) fO))) lu (hX (dI bx (aA bW dg (ae (aa 1) ao))) (au 2) lu (fE (gf (ae (a7 0) (ae (a7 2) ao)))))) (au 5))
 (aC (m_ (lx (aa 5))
 (aC (aX (CV 5) (fN 2 (bC (au 6) (bC (au 7) fO))))
 (aC (di (uU (aN (aj (jy false) (aa 7) (aj dz (aa 4) (aa 6)))))
 zM
 cg)
 (aC (l4 .lst 4 (lV 6) (lV 7) (xC (.bl true)))
 (eC (dI bx (aj dz (aa 2) (aa 6))) (au 8)
 (di (qb (aN (aj (kc true) (aa 8) (uC (.int (-1))))) (aN (aj (jy true) (aa 7) (aj dz (aa 3) (aa 8)))))
 (cB 5 (ae (gf (ae (a7 8) (ae (a7 7) ao))) ao))
 cg))))))
 (bO (eZ 4))))))))
theorem jS:∀ds P,ds.length=bL.length->cZ ds P->iB (bF bL P) (ay (9-bL.length) ds):=by
 rintro ds P - ⟨m,bs,xs,rfl,hB,hn,hx,hK,B3,Ib,k⟩
 simp only[ay,bL,List.map_cons,List.map_nil,List.length_cons,List.length_nil,Nat.reduceAdd,Nat.reduceSub,List.replicate,List.cons_append,List.nil_append]
 unfold iB
 have uq:=bH (xs:=bs) cu
 have zm:VS.bare (.lst false (bs.map (aU false)))=true:=by rw[jr,uq];rfl
 have B7:VS.aT (.lst false (bs.map (aU false)))=.lst false (bs.map (aU false)):=by rw[b4,aV (fh false)]
 have Jj:=dQ false m bs
 simp only[a6] at Jj ⊢
 repeat walk_at "u"
 rw[B7]
 have hps:mq [some (.tup [.int m,.lst false (bs.map (aU false))]),some (.lst false (bs.map (aU false))),none,none,none,none,none,none,none] [.var 0]=some [a6 false m bs]:=by
  show(if VS.bare (a6 false m bs)=true then some [VS.aT (a6 false m bs)] else none)=_
  rw[if_pos (tU m bs),dQ]
 repeat walk_at "u"
 refine HY hB fun S hS hC zo=>?_
 have Vv:VS.aT (.lst true ((List.range bs.length).map fun(b:Nat)=>dh false (fK S b)))=.lst false ((List.range bs.length).map fun(b:Nat)=>dh false (fK S b)):=by rw[b4,aV (fun b=>kK false _)]
 repeat walk_at "u"
 rw[Vv]
 repeat walk_at "u"
 refine eM (fun ws acc e=>∃(pre post:List b_) (Ps:List SS) (o0 o1:Option D),bs=pre++post/\ws=post.map (aU false)/\Ps.length=pre.length/\(∀(i:Nat) (b:b_) (l:SS),pre[i]? = some b->Ps[i]? = some l->∀x,x∈aZ l↔x∈b5 b.1)/\acc=Ps.map (f_ true)/\e=[o0,o1,some (.tup [.int m,.lst false (bs.map (aU false))]),some (.lst false (bs.map (aU false))),some (.lst false ((List.range bs.length).map fun(b:Nat)=>dh false (fK S b))),none,none,none,none,none,none]) ?_ ?_ _ _ _ ⟨[],bs,[],_,_,rfl,rfl,rfl,(fun i b l h=>by simp at h),rfl,rfl⟩
 ·rintro acc e ⟨pre,post,Ps,o0,o1,h1,h2,Rb,hP,rfl,rfl⟩
  have:post=[]:=by simpa using h2.symm
  subst this
  rw[List.append_nil] at h1
  subst h1
  have S_:VS.aT (.lst true (Ps.map (f_ true)))=.lst false (Ps.map (f_ false)):=by rw[b4,aV (uX true)]
  repeat walk_at "u"
  rw[S_]
  repeat walk_at "u"
  refine eM (fun ws acc e=>∃(xa post:List b_) (o0:Option D),bs=xa++post/\ws=post.map (aU false)/\acc=(List.replicate xa.length ([]:SS)).map (f_ true)/\e=[o0,some (.tup [.int m,.lst false (bs.map (aU false))]),some (.lst false (bs.map (aU false))),some (.lst false ((List.range bs.length).map fun(b:Nat)=>dh false (fK S b))),some (.lst false (Ps.map (f_ false))),none,none,none,none,none]) ?_ ?_ _ _ _ ⟨[],bs,_,rfl,rfl,rfl,rfl⟩
  rotate_left
  ·rintro x ws acc e ih ⟨xa,post,o0,h1,h2,rfl,rfl⟩
   cases post with
   |nil=>simp at h2
   |cons b post=>
    simp only[List.map_cons,List.cons.injEq] at h2
    obtain⟨rfl,rfl⟩:=h2
    have hz:((List.replicate xa.length ([]:SS)).map (f_ true)).length<=1000000:=by simp;rw[h1] at hn;simp at hn;omega
    repeat walk_at "u"
    rw[show(List.replicate xa.length ([]:SS)).map (f_ true)++[D.cy true false [] []]=(List.replicate (xa++[b]).length ([]:SS)).map (f_ true) by rw[List.length_append,List.length_singleton,List.replicate_succ',List.map_append];rfl]
    exact ih _ _ ⟨xa++[b],post,_,by rw[h1];simp,rfl,rfl,rfl⟩
  ·rintro acc e ⟨xa,post,o0,h1,h2,rfl,rfl⟩
   have:post=[]:=by simpa using h2.symm
   subst this
   rw[List.append_nil] at h1
   subst h1
   repeat walk_at "u"
   refine eM (fun ws acc e=>∃(pre post:List b_) (ln:List (Nat×Str)) (o0 o1 o2:Option D),bs=pre++post/\ws=ck pre.length (post.map (aU false))/\ln++ft pre.length post=ft 0 bs/\acc=ln.map pairD/\e=[o0,o1,o2,some (.tup [.int m,.lst false (bs.map (aU false))]),some (.lst false (bs.map (aU false))),some (.lst false ((List.range bs.length).map fun(b:Nat)=>dh false (fK S b))),some (.lst false (Ps.map (f_ false))),some (.lst true ((List.replicate bs.length ([]:SS)).map (f_ true))),none,none,none,none]) ?_ ?_ _ _ _ ⟨[],bs,[],_,_,_,rfl,rfl,rfl,rfl,rfl⟩
   rotate_left
   ·rintro x ws acc e ih ⟨pre,post,ln,o0,o1,o2,h1,h2,h3,rfl,rfl⟩
    cases post with
    |nil=>simp[ck] at h2
    |cons b post=>
     simp only[List.map_cons,ck,List.cons.injEq] at h2
     obtain⟨rfl,rfl⟩:=h2
     have Ap:b∈bs:=by rw[h1];simp
     have TN:=fh false b
     have YU:=cu b
     have Ol:=eD (bY b)
     have Ih:=lJ (i:=0) hK
     repeat walk_at "u"
     refine xF ?_
     repeat walk_at "u"
     rw[TN]
     refine uo (by have:=hK b Ap;omega) (B3 b Ap) ?_
     repeat walk_at "u"
     rw[dY]
     have LH:ln.length+(bY b).length<=1000000:=by
      have:(ft 0 bs).length=ln.length+((bY b).length+(ft (pre.length+1) post).length):=by rw[<-h3];simp[ft]
      have Zl:bs.length * (2 * 100+1)<=30 * (2 * 100+1):=Nat.mul_le_mul_right _ hn
      omega
     refine eM (fun ws acc e=>∃(ps qs:List Str) (o2:Option D),bY b=ps++qs/\ws=qs.map .str/\acc=(ln++ps.map (fun x=>(pre.length,x))).map pairD/\e=[some (.int pre.length),some (aU false b),o2,some (.tup [.int m,.lst false (bs.map (aU false))]),some (.lst false (bs.map (aU false))),some (.lst false ((List.range bs.length).map fun(b:Nat)=>dh false (fK S b))),some (.lst false (Ps.map (f_ false))),some (.lst true ((List.replicate bs.length ([]:SS)).map (f_ true))),none,none,none,none]) ?_ ?_ _ _ _ ⟨[],bY b,_,rfl,rfl,by simp,rfl⟩
     ·rintro acc e ⟨ps,qs,o2,g1,g2,rfl,rfl⟩
      have:qs=[]:=by simpa using g2.symm
      subst this
      rw[List.append_nil] at g1
      refine ih _ _ ⟨pre++[b],post,ln++ps.map (fun x=>(pre.length,x)),_,_,_,by rw[h1];simp,by simp,?_,rfl,rfl⟩
      rw[<-h3,<-g1,List.append_assoc,List.length_append,List.length_singleton]
      rfl
     ·rintro x ws acc e v8 ⟨ps,qs,o2,g1,g2,rfl,rfl⟩
      cases qs with
      |nil=>simp at g2
      |cons y qs=>
       simp only[List.map_cons,List.cons.injEq] at g2
       obtain⟨rfl,rfl⟩:=g2
       have hz:((ln++ps.map (fun x=>(pre.length,x))).map pairD).length<=1000000:=by rw[g1] at LH;simp at LH ⊢;omega
       repeat walk_at "u"
       refine v8 _ _ ⟨ps++[y],qs,_,by rw[g1];simp,rfl,?_,rfl⟩
       simp
   ·rintro acc e ⟨pre,post,ln,o0,o1,o2,h1,h2,h3,rfl,rfl⟩
    have:post=[]:=by cases post with
     |nil=>rfl
     |cons b r=>simp[ck] at h2
    subst this
    rw[List.append_nil] at h1
    subst h1
    rw[show ft bs.length []=[] from rfl,List.append_nil] at h3
    subst h3
    repeat walk_at "u"
    have Ih:=lJ (i:=0) hK
    have Yr:(bs.length * xs.length) * (2 * (bs.length+1))+(ft 0 bs).length<=200000:=by
     have Zl:bs.length * (2 * 100+1)<=30 * (2 * 100+1):=Nat.mul_le_mul_right _ hn
     have Zk:bs.length * xs.length<=30 * 63:=Nat.mul_le_mul hn hx
     have h32:(bs.length * xs.length) * (2 * (bs.length+1))<=(30 * 63) * (2 * (30+1)):=Nat.mul_le_mul Zk (by omega)
     omega
    refine m8 (fun mm e=>∃(Bl:List SS) (line:List (Nat×Str)) (o6 o7 o8:Option D),k0 bs xs Bl line/\mm=(bs.length * xs.length-v5 Bl) * (2 * (bs.length+1))+line.length/\mm<=200000/\e=[some (.tup [.int m,.lst false (bs.map (aU false))]),some (.lst false (bs.map (aU false))),some (.lst false ((List.range bs.length).map fun(b:Nat)=>dh false (fK S b))),some (.lst false (Ps.map (f_ false))),some (.lst true (Bl.map (f_ true))),some (.lst true (line.map pairD)),o6,o7,o8]) ⟨_,List.replicate bs.length [],ft 0 bs,_,_,_,k0.start Ib,rfl,?_,rfl⟩ ?_
    ·refine Nat.le_trans (Nat.add_le_add_right (Nat.mul_le_mul_right _ (Nat.sub_le _ _)) _) Yr
    rintro mm e N ih ⟨Bl,line,o6,o7,o8,hI,hm,Q6,rfl⟩
    rcases List.eq_nil_or_concat line with rfl|⟨L,⟨i,x⟩,rfl⟩
    ·repeat walk_at "u"
     exact k Bl hI
    ·rw[List.concat_eq_append] at hI hm ⊢
     obtain⟨hi,hw,SM⟩:=hI.lw (i,x) (by simp)
     simp only[] at hi hw SM
     have YC:i<Bl.length:=by rw[hI.len];exact hi
     obtain⟨l,hl⟩:∃l,Bl[i]? = some l:=⟨_,List.getElem?_eq_getElem YC⟩
     have lT:g_ (Bl.map (f_ false)) (i:Int)=some (dT false l):=fi hl
     have Ii:VS.bare (dT false l)=true:=pT l
     have Yk:(L.map pairD++[pairD (i,x)])[(L.map pairD++[pairD (i,x)]).length-1]? = some (pairD (i,x)):=by simp
     have YO:(L.map pairD++[pairD (i,x)]).dropLast=L.map pairD:=by simp
     have Ig:VS.bare (pairD (i,x))=true:=rfl
     rw[List.map_append,List.map_singleton]
     repeat walk_at "u"
     rw[show(!(L.map pairD++[pairD (i,x)]).isEmpty)=true by simp]
     repeat walk_at "u"
     rw[YO]
     repeat walk_at "u"
     refine H_ ?_
     have SY:VS.aT (.lst false ((List.range bs.length).map fun(b:Nat)=>dh false (fK S b)))=.lst false ((List.range bs.length).map fun(b:Nat)=>dh false (fK S b)):=by rw[b4,aV (fun b=>kK false _)]
     have TV:VS.aT (.lst false (Ps.map (f_ false)))=.lst false (Ps.map (f_ false)):=by rw[b4,aV (uX false)]
     rw[LS Jj B7 SY TV]
     repeat walk_at "u"
     rw[mG]
     by_cases FH:x∈aZ l
     ·rw[show decide (x∈aZ l)=true by simp[FH]]
      repeat walk_at "u"
      exact ih _ _ (by rw[hm];simp) ⟨Bl,L,_,_,_,hI.skip ⟨l,hl,FH⟩,rfl,by rw[hm] at Q6;simp at Q6 ⊢;omega,rfl⟩
     ·rw[show decide (x∈aZ l)=false by simp[FH]]
      repeat walk_at "u"
      have Ih:l.length<=63:=by
       have:=gL (aZ l) xs (hI.nd l (List.mem_of_getElem? hl)) (hI.sub l (List.mem_of_getElem? hl))
       simp[aZ] at this;omega
      refine EN ⟨_,.int i,.str x,.bl true,false,l.map (fun p:Str×Bool=>DK.s (.inr p.1)),l.map (fun p:Str×Bool=>D.bl p.2),.s (.inr x),_,rfl,⟨_,rfl⟩,⟨rfl,rfl⟩,⟨rfl,rfl⟩,rfl,Ft hl,rfl,by rw[List.length_map];omega,?_⟩
      rw[kg (f:=D.bl)]
      have S0:(Bl.map (f_ true)).set i (D.cy true false ((c9 l x true).map fun p=>DK.s (.inr p.1)) ((c9 l x true).map fun p=>D.bl p.2))=(Bl.set i (c9 l x true)).map (f_ true):=by rw[List.map_set];rfl
      have Ye:g_ ((List.range bs.length).map fun(b:Nat)=>dh false (fK S b)) (i:Int)=some (dh false (fK S i)):=by
       have:(List.range bs.length)[i]? = some i:=by rw[List.getElem?_range hi]
       exact fi (f:=fun(b:Nat)=>dh false (fK S b)) this
      have Lz:=j_ (fK S (i:Int))
      repeat walk_at "u"
      rw[S0]
      repeat walk_at "u"
      rw[fD]
      have SX:(fK S (i:Int)).length<=2 * (bs.length+1):=zo _ (zS (zX hS hi))
      have hLl:L.length<=200000:=by rw[hm] at Q6;simp at Q6;omega
      refine bN (fun ws e=>∃(pre post:List Int) (add:List (Nat×Str)) (o8:Option D),fK S (i:Int)=pre++post/\ws=post.map .int/\add.length<=pre.length/\(∀p∈add,p.2=x/\∃b,bs[p.1]? = some b/\x∉b5 b.1/\(i:Int)∈lead b.2)/\(∀(j:Nat) (b:b_),(j:Int)∈pre->bs[j]? = some b->x∉b5 b.1->(j,x)∈add)/\e=[some (.tup [.int m,.lst false (bs.map (aU false))]),some (.lst false (bs.map (aU false))),some (.lst false ((List.range bs.length).map fun(b:Nat)=>dh false (fK S b))),some (.lst false (Ps.map (f_ false))),some (.lst true ((Bl.set i (c9 l x true)).map (f_ true))),some (.lst true ((L++add).map pairD)),some (.int i),some (.str x),o8]) ?_ ?_ _ _ ⟨[],fK S (i:Int),[],o8,rfl,rfl,by simp,(fun p hp=>nomatch hp),(fun j b hj=>nomatch hj),by rw[List.append_nil]⟩
      ·rintro e ⟨pre,post,add,o8,g1,g2,g3,g4,g5,rfl⟩
       have:post=[]:=by simpa using g2.symm
       subst this
       rw[List.append_nil] at g1
       have V':=hI.put hl g4 fun j b hb hl hp=>g5 j b (by rw[<-g1];exact uY hS hC hb hl) hb hp
       have Z9:=V'.v5
       have X9:=zO (l':=c9 l x true) hl
       rw[l5 FH] at X9
       have V6:add.length<=2 * (bs.length+1):=by rw[<-g1] at g3;omega
       refine ih _ _ ?_ ⟨_,L++add,_,_,_,V',rfl,?_,rfl⟩
       ·rw[hm]
        obtain⟨c,hc⟩:∃c,bs.length * xs.length-v5 Bl=c+1:=⟨bs.length * xs.length-v5 Bl-1,by omega⟩
        have TK:bs.length * xs.length-v5 (Bl.set i (c9 l x true))=c:=by omega
        rw[hc,TK,Nat.add_mul,Nat.one_mul]
        simp
        omega
       ·have:(bs.length * xs.length-v5 (Bl.set i (c9 l x true))) * (2 * (bs.length+1))+(L++add).length<=mm:=by
         rw[hm]
         obtain⟨c,hc⟩:∃c,bs.length * xs.length-v5 Bl=c+1:=⟨bs.length * xs.length-v5 Bl-1,by omega⟩
         have TK:bs.length * xs.length-v5 (Bl.set i (c9 l x true))=c:=by omega
         rw[hc,TK,Nat.add_mul,Nat.one_mul]
         simp
         omega
        omega
      ·rintro y ws e v8 ⟨pre,post,add,o8,g1,g2,g3,g4,g5,rfl⟩
       cases post with
       |nil=>simp at g2
       |cons u post=>
        simp only[List.map_cons,List.cons.injEq] at g2
        obtain⟨rfl,rfl⟩:=g2
        have Lx:=Bb hS hi (u:=u) (by rw[g1];simp)
        have Y4:(fK S (i:Int)).length=pre.length+(post.length+1):=by rw[g1];simp
        have V6:add.length<=100:=by omega
        have hz:((L++add).map pairD).length<=1000000:=by simp;omega
        rcases Lx with rfl|⟨j,b,rfl,E3,Yw⟩
        ·repeat walk_at "u"
         refine v8 _ ⟨pre++[-1],post,add,_,by rw[g1];simp,rfl,by simp;omega,g4,fun j b hj=>?_,rfl⟩
         rcases List.mem_append.mp hj with z|z
         ·exact g5 j b z
         ·have:=List.mem_singleton.mp z;omega
        ·have hjl:=(List.getElem?_eq_some_iff.mp E3).1
         obtain⟨lp,VD⟩:∃lp,Ps[j]? = some lp:=⟨_,List.getElem?_eq_getElem (by omega)⟩
         have YX:g_ (Ps.map (f_ false)) (j:Int)=some (dT false lp):=fi VD
         have Yv:VS.bare (dT false lp)=true:=pT lp
         have ML:=hP j b lp E3 VD x
         have nW:=fun Pg o8 g3 g4 g5=>v8 [some (.tup [.int m,.lst false (bs.map (aU false))]),some (.lst false (bs.map (aU false))),some (.lst false ((List.range bs.length).map fun(b:Nat)=>dh false (fK S b))),some (.lst false (Ps.map (f_ false))),some (.lst true ((Bl.set i (c9 l x true)).map (f_ true))),some (.lst true ((L++Pg).map pairD)),some (.int i),some (.str x),o8] ⟨pre++[(j:Int)],post,Pg,o8,by rw[g1];simp,rfl,g3,g4,g5,rfl⟩
         have mem:∀{j':Nat},(j':Int)∈pre++[(j:Int)]->(j':Int)∈pre\/j'=j:=fun{j'} hj=>by
          rcases List.mem_append.mp hj with z|z
          ·exact .inl z
          ·have:=List.mem_singleton.mp z;exact .inr (by omega)
         repeat walk_at "u"
         rw[mG]
         by_cases QN:x∈aZ lp
         ·rw[show(!decide (x∈aZ lp))=false by simp[QN]]
          repeat walk_at "u"
          refine nW add _ (by simp;omega) g4 fun j' b' hj xH hp=>?_
          rcases mem hj with z|rfl
          ·exact g5 j' b' z xH hp
          ·rw[E3] at xH;cases xH;exact absurd (ML.mp QN) hp
         ·rw[show(!decide (x∈aZ lp))=true by simp[QN]]
          repeat walk_at "u"
          rw[show(L++add).map pairD++[D.tup [D.int j,D.str x]]=(L++(add++[(j,x)])).map pairD by simp]
          refine nW (add++[(j,x)]) _ (by simp;omega) (fun p hp=>?_) fun j' b' hj xH hp=>?_
          ·rcases List.mem_append.mp hp with z|z
           ·exact g4 p z
           ·rw[List.mem_singleton.mp z];exact⟨rfl,b,E3,fun q=>QN (ML.mpr q),Yw⟩
          ·rcases mem hj with z|rfl
           ·exact List.mem_append_left _ (g5 j' b' z xH hp)
           ·simp
 ·rintro x ws acc e ih ⟨pre,post,Ps,o0,o1,h1,h2,Rb,hP,rfl,rfl⟩
  cases post with
  |nil=>simp at h2
  |cons b post=>
   simp only[List.map_cons,List.cons.injEq] at h2
   obtain⟨rfl,rfl⟩:=h2
   obtain⟨dl,en⟩:=b
   have FJ:=hK (dl,en) (by rw[h1];simp)
   have hz:(Ps.map (f_ true)).length<=1000000:=by rw[List.length_map,Rb];rw[h1] at hn;simp at hn;omega
   have sW:=ja dl
   have zl:=cu (dl,en)
   simp only[aU] at zl ⊢
   repeat walk_at "u"
   rw[sW]
   refine oP (by simp only[] at FJ;omega) fun l hl=>?_
   have LH:=yA l
   repeat walk_at "u"
   rw[show Ps.map (f_ true)++[f_ true l]=(Ps++[l]).map (f_ true) by simp]
   refine ih _ _ ⟨pre++[(dl,en)],post,Ps++[l],_,_,by rw[h1];simp,rfl,by simp[Rb],fun i b q hb hq x=>?_,rfl,rfl⟩
   rcases Nat.lt_or_ge i pre.length with z|z
   ·rw[List.getElem?_append_left z] at hb
    rw[List.getElem?_append_left (by omega)] at hq
    exact hP i b q hb hq x
   ·rw[List.getElem?_append_right z] at hb
    rw[List.getElem?_append_right (by omega),Rb] at hq
    cases hd:i-pre.length with
    |zero=>rw[hd] at hb hq;simp at hb hq;subst hb hq;exact hl x
    |succ n=>rw[hd] at hb;simp at hb
theorem EM{m:Int}{bs:List b_}{xs:List Str}{P:D->ai->Prop}(h1:Bs bs)(h2:bs.length<=30)(h3:xs.length<=63)(h4:∀b∈bs,b.1.length<=100)(h5:∀b∈bs,∀d∈b.1,d.gY)(h6:∀b∈bs,∀x∈bY b,x∈xs)(k:∀Bl:List SS,k0 bs xs Bl []->P (.lst true (Bl.map (f_ true))) [none]):cZ [a6 false m bs] P:=⟨m,bs,xs,rfl,h1,h2,h3,h4,h5,h6,k⟩
theorem EL{e:End}{P:D->ai->Prop}(k:P (dh true (lead e)) [none]):cw [e.d] P:=⟨e,rfl,k⟩
abbrev fu(o:Bool)(p:List Str×List Str):D:=.tup [.lst o (p.1.map .str),.lst o (p.2.map .str)]
def Jt(r:Ref)(e:ai)(Q:Ref->ai->Prop):Prop:=∃(o:Bool) (xs:List Str) (ds:List D),r.at e=some (.cy o false (xs.map fun x=>.s (.inr x)) ds)/\xs.length<64/\∀ys:List Str,ys.Pairwise slt->(∀x,x∈ys↔x∈xs)->Q (.a8 (.lst true (ys.map D.str))) e
theorem H9{ua:UB}{env:ai}{Q:Ref->ai->Prop}(h:ua env fun r e=>Jt r e Q):lZ ua env Q:=h
theorem C9{o:Bool}{l:SS}{e:ai}{Q:Ref->ai->Prop}(h1:l.length<64)(h:∀ys:List Str,ys.Pairwise slt->(∀x,x∈ys↔x∈aZ l)->Q (.a8 (.lst true (ys.map D.str))) e):Jt (.a8 (dT o l)) e Q:=⟨o,aZ l,l.map fun p=>D.bl p.2,by simp[aZ,Ref.at,dT],by simpa[aZ] using h1,h⟩
theorem HQ(l:SS):(l.map fun p=>DK.s (.inr p.1)).map qY=(aZ l).map D.str:=by simp[aZ,qY]
structure Uh(bs:List b_)(i:Nat)(b:b_)(p:List Str×List Str):Prop where
 bg:∀x,x∈p.1↔iF bs x i
 en:∀x,x∈p.2↔∃j:Nat,(j:Int)∈lead b.2/\iF bs x j
abbrev gr:List Bool:=[false]
def j8:fH:=fun ds P=>∃(m:Int) (bs:List b_) (xs:List Str),ds=[a6 false m bs]/\Bs bs/\bs.length<=30/\xs.length<=63/\(∀b∈bs,b.1.length<=100)/\(∀b∈bs,∀d∈b.1,d.gY)/\(∀b∈bs,∀x∈bY b,x∈xs)/\∀W:List (List Str×List Str),W.length=bs.length->(∀(i:Nat) (b:b_) (p:List Str×List Str),bs[i]? = some b->W[i]? = some p->Uh bs i b p)->P (.lst true (W.map (fu true))) [none]
def x5:US:=
 (aC (aX (aA bL cZ (ae (aa 0) ao)) (bB 1))
 (aC (aX (cW ao) (au 2))
 (aC (eC (oD bx (aj bc (aa 0) (uC (.int 1)))) (fN 2 (bC (au 3) (bC (fN 2 (bC (au 4) (bC (au 5) fO))) fO)))
 (aC (aX (fP 2 (dI bx (aA bq cw (ae (aa 5) ao))) (au 0) lu (hX (dI du (aj dz (aa 3) (aa 0))) (au 1) lu (fE (a7 1)))) (bB 6))
 (cB 2 (ae (gf (ae (lZ (aj dz (aa 1) (aa 3))) (ae (iY (aa 6)) ao))) ao))))
 (bO (eZ 2)))))
theorem w6:∀ds P,ds.length=gr.length->j8 ds P->x5 (bF gr P) (ay (7-gr.length) ds):=by
 rintro ds P - ⟨m,bs,xs,rfl,hB,hn,hx,hK,B3,Ib,k⟩
 simp only[ay,gr,List.map_cons,List.map_nil,List.length_cons,List.length_nil,Nat.reduceAdd,Nat.reduceSub,List.replicate,List.cons_append,List.nil_append]
 unfold x5
 have uq:=bH (xs:=bs) cu
 have zm:VS.bare (.lst false (bs.map (aU false)))=true:=by rw[jr,uq];rfl
 have Jj:=dQ false m bs
 have Q9:d9 (bs.map (aU false))=bs.map (aU false):=aV (fh false)
 repeat walk_at "u"
 rw[Jj]
 refine EM hB hn hx hK B3 Ib fun Bl hI=>?_
 have hBn:VS.eJ (.lst true (Bl.map (f_ true)))=true:=by rw[pf,eI yA];rfl
 have Zj:VS.aT (.lst true (Bl.map (f_ true)))=.lst false (Bl.map (f_ false)):=by rw[b4,aV (uX true)]
 repeat walk_at "u"
 rw[Zj]
 simp only[a6]
 repeat walk_at "u"
 rw[Q9]
 refine bN (fun ws e=>∃(pre post:List b_) (W:List (List Str×List Str)) (o3 o4 o5 o6:Option D),bs=pre++post/\ws=ck pre.length (post.map (aU false))/\W.length=pre.length/\(∀(i:Nat) (b:b_) (p:List Str×List Str),pre[i]? = some b->W[i]? = some p->Uh bs i b p)/\e=[some (.tup [.int m,.lst false (bs.map (aU false))]),some (.lst false (Bl.map (f_ false))),some (.lst true (W.map (fu true))),o3,o4,o5,o6]) ?_ ?_ _ _ ⟨[],bs,[],_,_,_,_,rfl,rfl,rfl,(fun i b p h=>by simp at h),rfl⟩
 ·rintro e ⟨pre,post,W,o3,o4,o5,o6,h1,h2,h3,h4,rfl⟩
  have:post=[]:=by cases post with
   |nil=>rfl
   |cons b r=>simp[ck] at h2
  subst this
  rw[List.append_nil] at h1
  subst h1
  repeat walk_at "u"
  exact k W h3 h4
 ·rintro x ws e ih ⟨pre,post,W,o3,o4,o5,o6,h1,h2,h3,h4,rfl⟩
  cases post with
  |nil=>simp[ck] at h2
  |cons b post=>
   simp only[List.map_cons,ck,List.cons.injEq] at h2
   obtain⟨rfl,rfl⟩:=h2
   obtain⟨dl,en⟩:=b
   have Ap:(dl,en)∈bs:=by rw[h1];simp
   have Ra:bs[pre.length]? = some (dl,en):=by rw[h1];simp
   have r6:pre.length<bs.length:=by rw[h1];simp
   have FI:=en.aT
   have LH:=iJ (lead en)
   have Ih:(lead en).length<=2:=by
    cases en with
    |stop=>simp[lead]
    |go a=>simp[lead]
    |choose p a b=>simp only[lead];split<;>simp
   have EW:∀v∈lead en,0<=v/\v<(bs.length:Int):=hB.2.2 _ Ap
   have Wb:∀(j:Nat) (l:SS),Bl[j]? = some l->l.length<=63/\(∀x∈aZ l,x∈xs)/\∀x,x∈aZ l↔iF bs x j:=fun j l hl=>by
    have hm:=List.mem_of_getElem? hl
    have:=gL (aZ l) xs (hI.nd l hm) (hI.sub l hm)
    refine⟨by simp[aZ] at this;omega,hI.sub l hm,fun x=>?_⟩
    rw[<-hI.done (i:=j) (x:=x)]
    exact⟨fun h=>⟨l,hl,h⟩,fun⟨l',e,h⟩=>by rw[hl] at e;cases e;exact h⟩
   simp only[aU]
   repeat walk_at "u"
   rw[FI]
   refine EL ?_
   repeat walk_at "u"
   rw[fD]
   refine eM (fun ws acc e=>∃(ls qs:List Int) (bh:List Str) (o0 o1:Option D),lead en=ls++qs/\ws=qs.map .int/\acc=bh.map .str/\bh.length<=63 * ls.length/\(∀x∈bh,x∈xs)/\(∀x,x∈bh↔∃j:Nat,(j:Int)∈ls/\iF bs x j)/\e=[o0,o1,some (.tup [.int m,.lst false (bs.map (aU false))]),some (.lst false (Bl.map (f_ false))),some (.lst true (W.map (fu true))),some (.int pre.length),some (.lst false (dl.map az.d)),some en.d,o6]) ?_ ?_ _ _ _ ⟨[],lead en,[],_,_,rfl,rfl,rfl,by simp,(fun x hx=>nomatch hx),(fun x=>by simp),rfl⟩
   ·rintro acc e ⟨ls,qs,bh,o0,o1,g1,g2,rfl,g3,g4,g5,rfl⟩
    have:qs=[]:=by simpa using g2.symm
    subst this
    rw[List.append_nil] at g1
    have V4:bh.length<=126:=by rw[<-g1] at g3;omega
    obtain⟨l,hl⟩:∃l,Bl[pre.length]? = some l:=⟨_,List.getElem?_eq_getElem (by rw[hI.len];exact r6)⟩
    obtain⟨rn,rm,OE⟩:=Wb _ _ hl
    have lT:g_ (Bl.map (f_ false)) (pre.length:Int)=some (dT false l):=fi hl
    have Ii:VS.bare (dT false l)=true:=pT l
    have TN:VS.aT (.lst true (bh.map D.str))=.lst false (bh.map D.str):=by rw[b4,dY]
    have hWz:(W.map (fu true)).length<=1000000:=by rw[List.length_map,h3];omega
    repeat walk_at "u"
    rw[TN]
    repeat walk_at "u"
    refine H9 ?_
    repeat walk_at "u"
    refine C9 (by omega) fun ys y1 y2=>?_
    have Vk:=eD ys
    repeat walk_at "u"
    refine⟨fun zs hz hs=>?_,fun ts t1 t2=>?_⟩
    ·have:=gL zs xs hz fun z hz=>g4 z (hs z hz)
     omega
    ·repeat walk_at "u"
     rw[show W.map (fu true)++[D.tup [D.lst true (ys.map D.str),D.lst true (ts.map D.str)]]=(W++[(ys,ts)]).map (fu true) by simp]
     refine ih _ ⟨pre++[(dl,en)],post,W++[(ys,ts)],_,_,_,_,by rw[h1];simp,by simp,by simp[h3],fun i b p hb hp=>?_,rfl⟩
     rcases Nat.lt_or_ge i pre.length with z|z
     ·rw[List.getElem?_append_left z] at hb
      rw[List.getElem?_append_left (by omega)] at hp
      exact h4 i b p hb hp
     ·rw[List.getElem?_append_right z] at hb
      rw[List.getElem?_append_right (by omega),h3] at hp
      cases hd:i-pre.length with
      |zero=>
       rw[hd] at hb hp;simp at hb hp;subst hb hp
       have:i=pre.length:=by omega
       subst this
       exact⟨fun x=>by rw[y2,OE],fun x=>by rw[t2,g5,g1]⟩
      |succ n=>rw[hd] at hb;simp at hb
   ·rintro x ws acc e v8 ⟨ls,qs,bh,o0,o1,g1,g2,rfl,g3,g4,g5,rfl⟩
    cases qs with
    |nil=>simp at g2
    |cons v qs=>
     simp only[List.map_cons,List.cons.injEq] at g2
     obtain⟨rfl,rfl⟩:=g2
     obtain⟨v0,v1⟩:=EW v (by rw[g1];simp)
     obtain⟨j,rfl⟩:=Int.eq_ofNat_of_zero_le v0
     have hj:j<Bl.length:=by rw[hI.len];omega
     obtain⟨l,hl⟩:∃l,Bl[j]? = some l:=⟨_,List.getElem?_eq_getElem hj⟩
     obtain⟨rn,rm,OE⟩:=Wb _ _ hl
     have lT:g_ (Bl.map (f_ false)) (j:Int)=some (dT false l):=fi hl
     have Ii:VS.bare (dT false l)=true:=pT l
     repeat walk_at "u"
     refine xF ?_
     repeat walk_at "u"
     rw[HQ]
     refine eM (fun ws acc e=>∃(ps rs:List Str) (o1:Option D),aZ l=ps++rs/\ws=rs.map .str/\acc=(bh++ps).map .str/\e=[some (.int j),o1,some (.tup [.int m,.lst false (bs.map (aU false))]),some (.lst false (Bl.map (f_ false))),some (.lst true (W.map (fu true))),some (.int pre.length),some (.lst false (dl.map az.d)),some en.d,o6]) ?_ ?_ _ _ _ ⟨[],aZ l,_,rfl,rfl,by simp,rfl⟩
     ·rintro acc e ⟨ps,rs,o1,q1,q2,rfl,rfl⟩
      have:rs=[]:=by simpa using q2.symm
      subst this
      rw[List.append_nil] at q1
      subst q1
      refine v8 _ _ ⟨ls++[(j:Int)],qs,bh++aZ l,_,_,by rw[g1];simp,rfl,rfl,by simp[aZ];omega,fun x hx=>?_,fun x=>?_,rfl⟩
      ·rcases List.mem_append.mp hx with z|z
       ·exact g4 x z
       ·exact rm x z
      ·rw[List.mem_append,g5,OE]
       constructor
       ·rintro(⟨j',z,w⟩|w)
        ·exact⟨j',by simp[z],w⟩
        ·exact⟨j,by simp,w⟩
       ·rintro⟨j',z,w⟩
        rcases List.mem_append.mp z with z|z
        ·exact .inl ⟨j',z,w⟩
        ·have:j'=j:=by have:=List.mem_singleton.mp z;omega
         subst this;exact .inr w
     ·rintro x ws acc e SH ⟨ps,rs,o1,q1,q2,rfl,rfl⟩
      cases rs with
      |nil=>simp at q2
      |cons y rs=>
       simp only[List.map_cons,List.cons.injEq] at q2
       obtain⟨rfl,rfl⟩:=q2
       have hz:((bh++ps).map D.str).length<=1000000:=by
        have h9:(aZ l).length=ps.length+(rs.length+1):=by rw[q1];simp
        have h8:ls.length<=2:=by rw[g1] at Ih;simp at Ih;omega
        simp[aZ] at h9 ⊢;omega
       repeat walk_at "u"
       refine SH _ _ ⟨ps++[y],rs,_,by rw[q1];simp,rfl,?_,rfl⟩
       simp
def q_{α:Type}:List (Int×α)->Int->α->List (Int×α)
 | [],k,v=>[(k,v)]
 |(y,u)::l,k,v=>if y=k then(y,v)::l else(y,u)::q_ l k v
theorem Fl{α:Type}{f:α->D}(k:Int)(v:α):∀l:List (Int×α),dput (l.map fun p=>DK.s (.inl p.1)) (l.map fun p=>f p.2) (.s (.inl k)) (f v)=((q_ l k v).map (fun p=>DK.s (.inl p.1)),(q_ l k v).map fun p=>f p.2)
 | []=>rfl
 |(y,u)::l=>by
  simp only[List.map_cons,dput,q_]
  by_cases e:y=k
  ·subst e;simp
  ·rw[if_neg (by simpa using e),if_neg e,Fl k v l];rfl
theorem um{α:Type}{k:Int}{v:α}:∀{l:List (Int×α)},k∈keys l->keys (q_ l k v)=keys l
 | [],h=>by cases h
 |(y,u)::l,h=>by
  simp only[q_]
  split
  ·rfl
  ·rename_i e
   have h2:k∈keys l:=by
    simp only[keys,List.map_cons,List.mem_cons] at h
    exact h.resolve_left fun z=>e z.symm
   have:=um (v:=v) h2
   simp only[keys,List.map_cons] at this ⊢
   rw[this]
theorem n_{α:Type}{k z:Int}{v:α}:∀{l:List (Int×α)},(q_ l k v).lookup z=if z=k then some v else l.lookup z
 | []=>by
  simp only[q_,List.lookup_cons,List.lookup_nil]
  by_cases e:z=k
  ·simp[e]
  ·have:(z==k)=false:=by simpa using e
   simp[e,this]
 |(y,u)::l=>by
  simp only[q_]
  by_cases e:y=k
  ·subst e
   rw[if_pos rfl,List.lookup_cons,List.lookup_cons]
   by_cases q:z=y
   ·simp[q]
   ·have:(z==y)=false:=by simpa using q
    simp[q,this]
  ·rw[if_neg e,List.lookup_cons,List.lookup_cons,n_]
   by_cases q:z=y
   ·subst q;simp[e]
   ·have:(z==y)=false:=by simpa using q
    rw[this]
structure jg(bs:List b_)(x:Str)(n:Nat)(g:Gr):Prop where
 ks:keys g=keys (aQ bs)
 st:fK g (-1)=[0]
 at_:∀(i:Nat) (b:b_),bs[i]? = some b->fK g i=if i<n/\x∈b5 b.1 then [] else lead b.2
theorem jg.zero{bs:List b_}{x:Str}:jg bs x 0 (aQ bs):=⟨rfl,A8,fun i b h=>by rw[qd h,if_neg (by simp)]⟩
theorem jg.put{bs:List b_}{x:Str}{n:Nat}{g:Gr}{b:b_}(h:jg bs x n g)(hb:bs[n]? = some b)(hx:x∈b5 b.1):jg bs x (n+1) (q_ g n []):=by
 have hn:=(List.getElem?_eq_some_iff.mp hb).1
 refine⟨by rw[um (by rw[h.ks];exact cU.mpr (.inr ⟨by omega,by omega⟩)),h.ks],?_,fun i b' xH=>?_⟩
 ·unfold fK
  rw[n_,if_neg (by omega)]
  exact h.st
 ·unfold fK
  rw[n_]
  by_cases e:i=n
  ·subst e
   rw[hb] at xH
   cases xH
   rw[if_pos rfl,if_pos ⟨by omega,hx⟩];rfl
  ·rw[if_neg (by omega)]
   have:=h.at_ i b' xH
   unfold fK at this
   rw[this]
   by_cases q:i<n/\x∈b5 b'.1
   ·rw[if_pos q,if_pos ⟨by omega,q.2⟩]
   ·rw[if_neg q,if_neg fun z=>q ⟨by omega,z.2⟩]
theorem jg.skip{bs:List b_}{x:Str}{n:Nat}{g:Gr}{b:b_}(h:jg bs x n g)(hb:bs[n]? = some b)(hx:x∉b5 b.1):jg bs x (n+1) g:=by
 refine⟨h.ks,h.st,fun i b' xH=>?_⟩
 rw[h.at_ i b' xH]
 by_cases e:i=n
 ·subst e
  rw[hb] at xH
  cases xH
  rw[if_neg fun z=>hx z.2,if_neg fun z=>hx z.2]
 ·by_cases q:i<n/\x∈b5 b'.1
  ·rw[if_pos q,if_pos ⟨by omega,q.2⟩]
  ·rw[if_neg q,if_neg fun z=>q ⟨by omega,z.2⟩]
section
variable {bs:List b_}{x:Str}{g:Gr}
theorem jg.yy(h:jg bs x bs.length g)(hB:Bs bs){u v:Int}(hu:v∈fK g u):0<=v/\v<(bs.length:Int):=by
 by_cases hk:u∈keys g
 ·rw[h.ks] at hk
  rcases cU.mp hk with rfl|⟨h1,h2⟩
  ·rw[h.st] at hu
   rw[List.mem_singleton.mp hu]
   have:=hB.1
   exact⟨by omega,by omega⟩
  ·obtain⟨j,rfl⟩:=Int.eq_ofNat_of_zero_le h1
   have e:bs[j]? = some bs[j]:=List.getElem?_eq_getElem (by omega)
   have e2:=h.at_ j _ e
   rw[e2] at hu
   split at hu
   ·cases hu
   ·exact hB.2.2 _ (List.mem_of_getElem? e) v hu
 ·unfold fK at hu
  rw[lookup_none.mpr hk] at hu
  cases hu
theorem jg.Zn(h:jg bs x bs.length g)(hB:Bs bs):Mi g:=fun u v hv=>by
 rw[h.ks];exact cU.mpr (.inr (h.yy hB hv))
theorem jg.pos(h:jg bs x bs.length g)(hB:Bs bs){s v:Int}(hs:0<=s/\s<(bs.length:Int))(hr:Reach g none s v):0<=v/\v<(bs.length:Int):=by
 cases hr with
 |start=>exact hs
 |step _ hv _=>exact h.yy hB hv
theorem jg.to(h:jg bs x bs.length g){i:Nat}(w:iF bs x i):∀{s:Int},Reach g none s i->∃(v:Nat) (b:b_),Reach g none s v/\bs[v]? = some b/\x∈bY b:=by
 induction w with
 |here hb hx=>exact fun hr=>⟨_,_,hr,hb,hx⟩
 |on hb hp hl _ ih=>
  intro s hr
  refine ih (.step hr ?_ (by simp))
  rw[h.at_ _ _ hb,if_neg fun z=>hp z.2]
  exact hl
theorem jg.back(h:jg bs x bs.length g)(hB:Bs bs){s v:Int}(hs:0<=s/\s<(bs.length:Int))(hr:Reach g none s v):iF bs x v.toNat->iF bs x s.toNat:=by
 induction hr with
 |start=>exact id
 | @step u v hu hv hL ih=>
  intro w
  refine ih ?_
  obtain⟨u0,u1⟩:=h.pos hB hs hu
  obtain⟨v0,v1⟩:=h.yy hB hv
  obtain⟨j,rfl⟩:=Int.eq_ofNat_of_zero_le u0
  have e:bs[j]? = some bs[j]:=List.getElem?_eq_getElem (by omega)
  rw[h.at_ j _ e] at hv
  split at hv
  ·cases hv
  ·rename_i hn
   have hj:j<bs.length:=by omega
   refine .on (j:=v.toNat) e (fun z=>hn ⟨hj,z⟩) ?_ w
   rw[Int.toNat_of_nonneg v0];exact hv
end
theorem zb{g:Gr}{L:Option Int}{s b:Int}{c:gH}{P:D->ai->Prop}(h1:c.tree g L s)(h2:b∈keys c)(h3:c.length<=100000)(k:∀ws:List Int,P (dh true ws) [none,none]):gx [aD j5 false c,.int b] P:=⟨g,L,s,b,c,rfl,h1,h2,h3,k⟩
theorem h_{x:Str}:∀ys:List Str,((ys.map D.str).any fun z=>oj z (.str x))=decide (x∈ys)
 | []=>by simp
 |y::ys=>by
  rw[List.map_cons,List.any_cons,h_ ys]
  have:oj (.str y) (.str x)=decide (y=x):=by show(y==x)=decide (y=x);rw[Bool.eq_iff_iff];simp
  rw[this]
  by_cases e:x=y
  ·subst e;simp
  ·have:¬y=x:=fun z=>e z.symm
   simp[e,this]
abbrev e7:List Bool:=[false,false,false]
def iu:fH:=fun ds P=>∃(m:Int) (bs:List b_) (xs:List Str) (b:Nat) (x:Str),ds=[a6 false m bs,.int b,.str x]/\Bs bs/\bs.length<=30/\xs.length<=63/\(∀b∈bs,b.1.length<=100)/\(∀b∈bs,∀d∈b.1,d.gY)/\(aI bs).length<=4000/\(∀x∈aI bs,x∈xs)/\b<bs.length/\x∈aI bs/\(¬iF bs x b->P .bJ [none,none,none])/\(iF bs x b->∀ws,P (dh true ws) [none,none,none])
def rQ:US:=
 (aC (aX (aj bc (aa 0) (uC (.int 1))) (bB 3))
 (aC (di (ym (aN (nj (fun i j=>decide (i<=j)) (fun i j=>decide (i<j)) (uC (.int 0)) (a7 1) (pR jU (ae (aa 3) ao)))))
 ly
 cg)
 (aC (di (aN (aj (Im true) (aa 2) (aA ee gA (ae (aa 0) ao))))
 ly
 cg)
 (aC (aX (aA cS e9 (ae (aa 0) ao)) (au 4))
 (aC (eC (oD bx (aa 3)) (fN 2 (bC (au 5) (bC (fN 2 (bC (au 6) (bC (au 7) fO))) fO)))
 (di (aN (aj (jy false) (aa 2) (aA dm fM (ae (aa 6) ao))))
 (iZ 4 (aa 5) (cW ao))
 cg))
 (aC (aX (aA b7 dt (ae (aa 4) (ae (aa 1) (ae (uC .bJ) ao)))) (bB 8))
 (aC (eC (dI du (aa 8)) (au 9)
 (di (aN (aj (Im false) (aa 2) (aA bW dg (ae (aj dz (aa 3) (aa 9)) ao))))
 (bO (aA d_ gx (ae (aa 8) (ae (aa 9) ao))))
 cg))
 (bO (uC .bJ)))))))))
theorem sE:∀ds P,ds.length=e7.length->iu ds P->rQ (bF e7 P) (ay (10-e7.length) ds):=by
 rintro ds P - ⟨m,bs,xs,b,x,rfl,hB,hn,hx,hK,B3,Ji,Ib,hb,XY,k1,k2⟩
 simp only[ay,e7,List.map_cons,List.map_nil,List.length_cons,List.length_nil,Nat.reduceAdd,Nat.reduceSub,List.replicate,List.cons_append,List.nil_append]
 unfold rQ
 have uq:=bH (xs:=bs) cu
 have zm:VS.bare (.lst false (bs.map (aU false)))=true:=by rw[jr,uq];rfl
 have B7:VS.aT (.lst false (bs.map (aU false)))=.lst false (bs.map (aU false)):=by rw[b4,aV (fh false)]
 have Q9:d9 (bs.map (aU false))=bs.map (aU false):=aV (fh false)
 have Jj:=dQ false m bs
 simp only[a6] at Jj ⊢
 repeat walk_at "u"
 rw[B7]
 repeat walk_at "u"
 rw[show decide ((b:Int)<((bs.map (aU false)).length:Int))=true by simp;omega]
 repeat walk_at "u"
 rw[Jj]
 refine rg B3 Ji Ib (by omega) fun ys y1 y2=>?_
 have Vk:=eD ys
 have ZX:(ys.map D.str).all flat=true:=by simp[flat]
 have XU:((ys.map D.str).any fun z=>oj z (.str x))=true:=by rw[h_];simpa using (y2 x).mpr XY
 repeat walk_at "u"
 rw[XU]
 repeat walk_at "u"
 rw[Jj]
 refine Am (by omega) ?_
 have LH:=vW iJ (aQ bs)
 repeat walk_at "u"
 refine bN (fun ws e=>∃(pre post:List b_) (g:Gr) (o5 o6 o7:Option D),bs=pre++post/\ws=ck pre.length (post.map (aU false))/\jg bs x pre.length g/\e=[some (.tup [.int m,.lst false (bs.map (aU false))]),some (.int b),some (.str x),some (.lst false (bs.map (aU false))),some (aD (dh true) true g),o5,o6,o7,none,none]) ?_ ?_ _ _ ⟨[],bs,aQ bs,_,_,_,rfl,rfl,jg.zero,rfl⟩
 rotate_left
 ·rintro y ws e ih ⟨pre,post,g,o5,o6,o7,h1,h2,hg,rfl⟩
  cases post with
  |nil=>simp[ck] at h2
  |cons bb post=>
   simp only[List.map_cons,ck,List.cons.injEq] at h2
   obtain⟨rfl,rfl⟩:=h2
   obtain⟨dl,en⟩:=bb
   have Ra:bs[pre.length]? = some (dl,en):=by rw[h1];simp
   have FJ:=hK (dl,en) (by rw[h1];simp)
   have sW:=ja dl
   have YG:g.length=bs.length+1:=by have:=congrArg List.length hg.ks;simp[keys] at this;rw[this,iy]
   have hz:(g.map fun p=>dh true p.2).length<=1000000:=by rw[List.length_map];omega
   have hd:dput (g.map fun p=>DK.s (.inl p.1)) (g.map fun p=>dh true p.2) (.s (.inl (pre.length:Int))) (.lst true [])=_:=Fl (f:=dh true) (pre.length:Int) [] g
   simp only[aU]
   repeat walk_at "u"
   rw[sW]
   refine oP (by simp only[] at FJ;omega) fun l hl=>?_
   have LH:=yA l
   rw[R1] at LH ⊢
   repeat walk_at "u"
   rw[mG]
   by_cases FH:x∈aZ l
   ·rw[show decide (x∈aZ l)=true by simp[FH]]
    repeat walk_at "u"
    rw[hd]
    exact ih _ ⟨pre++[(dl,en)],post,q_ g pre.length [],_,_,_,by rw[h1];simp,by simp,by rw[List.length_append];exact hg.put Ra ((hl x).mp FH),rfl⟩
   ·rw[show decide (x∈aZ l)=false by simp[FH]]
    repeat walk_at "u"
    exact ih _ ⟨pre++[(dl,en)],post,g,_,_,_,by rw[h1];simp,by simp,by rw[List.length_append];exact hg.skip Ra fun z=>FH ((hl x).mpr z),rfl⟩
 ·rintro e ⟨pre,post,g,o5,o6,o7,h1,h2,hg,rfl⟩
  have:post=[]:=by cases post with
   |nil=>rfl
   |cons b r=>simp[ck] at h2
  subst this
  rw[List.append_nil] at h1
  subst h1
  have YG:g.length=bs.length+1:=by have:=congrArg List.length hg.ks;simp[keys] at this;rw[this,iy]
  have VR:=hg.Zn hB
  have MQ:0<=(b:Int)/\(b:Int)<(bs.length:Int):=⟨by omega,by omega⟩
  have V5:(b:Int)∈keys g:=by rw[hg.ks];exact cU.mpr (.inr MQ)
  repeat walk_at "u"
  rw[rO (kK true),show D.bJ=j5 none from rfl,vA,gX]
  refine Lo VR V5 (by omega) fun c hc=>?_
  have hcn:=vW HG c
  have vI:=hc.tree.len VR V5
  repeat walk_at "u"
  rw[rO vA]
  repeat walk_at "u"
  rw[n9]
  refine bN (fun ws e=>∃(pre post:List Int) (o9:Option D),keys c=pre++post/\ws=post.map .int/\(∀v∈pre,∀bb,bs[v.toNat]? = some bb->x∉bY bb)/\e=[some (.tup [.int m,.lst false (bs.map (aU false))]),some (.int b),some (.str x),some (.lst false (bs.map (aU false))),some (aD (dh true) true g),o5,o6,o7,some (aD j5 false c),o9]) ?_ ?_ _ _ ⟨[],keys c,_,rfl,rfl,(fun v hv=>nomatch hv),rfl⟩
  ·rintro e ⟨pre,post,o9,h1,h2,h3,rfl⟩
   have:post=[]:=by simpa using h2.symm
   subst this
   rw[List.append_nil] at h1
   repeat walk_at "u"
   refine k1 fun w=>?_
   obtain⟨v,bb,hr,uq,SM⟩:=hg.to w (s:=(b:Int)) .start
   have:=(hc.all v).mpr hr
   rw[h1] at this
   exact h3 v this bb (by simpa using uq) SM
  ·rintro y ws e ih ⟨pre,post,o9,h1,h2,h3,rfl⟩
   cases post with
   |nil=>simp at h2
   |cons v post=>
    simp only[List.map_cons,List.cons.injEq] at h2
    obtain⟨rfl,rfl⟩:=h2
    have Vq:v∈keys c:=by rw[h1];simp
    have hr:=(hc.all v).mp Vq
    obtain⟨v0,v1⟩:=hg.pos hB MQ hr
    obtain⟨j,rfl⟩:=Int.eq_ofNat_of_zero_le v0
    have E3:bs[j]? = some bs[j]:=List.getElem?_eq_getElem (by omega)
    have Ap:bs[j]∈bs:=List.getElem_mem _
    generalize bs[j]=bb at E3 Ap
    have lT:g_ (bs.map (aU false)) (j:Int)=some (aU false bb):=fi E3
    have YT:=cu bb
    have Ol:=eD (bY bb)
    have Vv:((bY bb).map D.str).all flat=true:=by simp[flat]
    repeat walk_at "u"
    rw[fh]
    refine uo (by have:=hK bb Ap;omega) (B3 bb Ap) ?_
    repeat walk_at "u"
    rw[h_]
    by_cases QQ:x∈bY bb
    ·rw[show decide (x∈bY bb)=true by simp[QQ]]
     repeat walk_at "u"
     rw[rO vA]
     refine zb hc.tree Vq (by omega) fun ws=>?_
     have Vm:=iJ ws
     repeat walk_at "u"
     refine k2 ?_ ws
     have:=hg.back hB MQ hr (.here (by simpa using E3) QQ)
     simpa using this
    ·rw[show decide (x∈bY bb)=false by simp[QQ]]
     repeat walk_at "u"
     refine ih _ ⟨pre++[(j:Int)],post,_,by rw[h1];simp,rfl,fun v hv b' xH=>?_,rfl⟩
     rcases List.mem_append.mp hv with z|z
     ·exact h3 v z b' xH
     ·rw[List.mem_singleton.mp z] at xH
      have:bs[j]? = some b':=by simpa using xH
      rw[E3] at this
      cases this
      exact QQ
theorem Part.eR{xs:List Str}{m:Int}{n:Nat}(hx:∀x∈xs,nY x):∀{p:Part},p.ok xs m->VS.eR (n+1) p.d=true
 | .num k,_=>by simp only[Part.d,xm,gZ,j4,t6,Em,Bool.and_true];decide +kernel
 | .name x,h=>by simp only[Part.d,xm,gZ,j4,t6,Bool.and_true,(hx x h).str];decide +kernel
theorem aR.eR{xs:List Str}{m:Int}{n:Nat}(hx:∀x∈xs,nY x):∀{w:aR},w.ok xs m->VS.eR (n+2) w.d=true
 | .one p,h=>Part.eR (n:=n+1) hx (p:=p) h
 | .two o p q,h=>by
  have ho:PyData.strOk o=true:=by
   have:=h.1
   simp only[dO,List.mem_cons,List.not_mem_nil,or_false] at this
   rcases this with rfl|rfl|rfl|rfl|rfl<;>decide +kernel
  simp only[aR.d,xm,gZ,j4,t6,ho,Part.eR hx h.2.1,Part.eR hx h.2.2,Bool.and_true]
def c8:End->List Int | .stop=>[] | .go a=>[a] | .choose _ a b=>[a,b]
theorem ud{e:End}{v:Int}:v∈c8 e↔v∈lead e:=by
 cases e with
 |stop=>exact Iff.rfl
 |go a=>exact Iff.rfl
 |choose p a b=>
  simp only[c8,lead]
  split
  ·rename_i h;subst h;simp
  ·exact Iff.rfl
theorem BV{e:End}:(c8 e).length<=2:=by cases e<;>simp[c8]
abbrev dE:List Bool:=[false]
def fV:fH:=fun ds P=>∃(m:Int) (bs:List b_),ds=[a6 false m bs]/\bs.length<=1000/\P (.lst true (bs.map fun b=>dh true (c8 b.2))) [none]
def mV:US:=
 (aC (aX (cW ao) (au 1))
 (aC (eC (dI bx (aj bc (aa 0) (uC (.int 1)))) (fN 2 (bC (au 2) (bC (au 3) fO)))
 (di (aN (aj (kc false) (aj bc (aa 3) (uC (.int 0))) (uC (.str "choose"))))
 (cB 1 (ae (cW (ae (aj bc (aa 3) (uC (.int 2))) (ae (aj bc (aa 3) (uC (.int 3))) ao))) ao))
 (cB 1 (ae (pR kM (ae (AZ (aa 3) (l0 (uC (.int 1))) hE) ao)) ao))))
 (bO (eZ 1))))
theorem pA:∀ds P,ds.length=dE.length->fV ds P->mV (bF dE P) (ay (4-dE.length) ds):=by
 rintro ds P - ⟨m,bs,rfl,hl,k⟩
 simp only[ay,dE,List.map_cons,List.map_nil,List.length_cons,List.length_nil,Nat.reduceAdd,Nat.reduceSub,List.replicate,List.cons_append,List.nil_append]
 unfold mV
 have uq:=bH (xs:=bs) cu
 have zm:VS.bare (.lst false (bs.map (aU false)))=true:=by rw[jr,uq];rfl
 have Q9:d9 (bs.map (aU false))=bs.map (aU false):=aV (fh false)
 simp only[a6]
 repeat walk_at "u"
 rw[Q9]
 refine bN (fun ws e=>∃(pre post:List b_) (o2 o3:Option D),bs=pre++post/\ws=post.map (aU false)/\e=[some (.tup [.int m,.lst false (bs.map (aU false))]),some (.lst true (pre.map fun b=>dh true (c8 b.2))),o2,o3]) ?_ ?_ _ _ ⟨[],bs,_,_,rfl,rfl,rfl⟩
 ·rintro e ⟨pre,post,o2,o3,h1,h2,rfl⟩
  have:post=[]:=by simpa using h2.symm
  subst this
  rw[List.append_nil] at h1
  subst h1
  repeat walk_at "u"
  exact k
 ·rintro x ws e ih ⟨pre,post,o2,o3,h1,h2,rfl⟩
  cases post with
  |nil=>simp at h2
  |cons b post=>
   simp only[List.map_cons,List.cons.injEq] at h2
   obtain⟨rfl,rfl⟩:=h2
   obtain⟨dl,en⟩:=b
   have hz:(pre.map fun b=>dh true (c8 b.2)).length<=1000000:=by rw[List.length_map];rw[h1] at hl;simp at hl;omega
   have nW:=fun o2 o3=>ih [some (.tup [.int m,.lst false (bs.map (aU false))]),some (.lst true ((pre++[(dl,en)]).map fun b=>dh true (c8 b.2))),o2,o3] ⟨pre++[(dl,en)],post,o2,o3,by rw[h1];simp,rfl,rfl⟩
   rw[List.map_append,List.map_singleton] at nW
   generalize (pre.map fun b=>dh true (c8 b.2))=AA at nW hz ⊢
   simp only[aU]
   cases en with
   |stop=>
    have e1:sY (.str "stop") (.str "choose")=some false:=by decide +kernel
    have nw:¬(HT.eQ [D.str "stop"].length 0 (some 1)=0/\HT.eQ [D.str "stop"].length [D.str "stop"].length none=[D.str "stop"].length):=i7 (by simp)
    simp only[End.d]
    repeat walk_at "u"
    exact nW _ _
   |go a=>
    have e1:sY (.str "go") (.str "choose")=some false:=by decide +kernel
    have nw:¬(HT.eQ [D.str "go",D.int a].length 0 (some 1)=0/\HT.eQ [D.str "go",D.int a].length [D.str "go",D.int a].length none=[D.str "go",D.int a].length):=i7 (by simp)
    have MP:a9 (eA [D.str "go",D.int a] (some 1) none)=true:=by rw[zy];rfl
    simp only[End.d]
    repeat walk_at "u"
    rw[zy]
    exact nW _ _
   |choose p a b=>
    have hb:=p.bare
    simp only[End.d]
    repeat walk_at "u"
    exact nW _ _
theorem qO{en:End}{x:Str}:∀{dl:List az}{put:List Str},x∈fR en put dl->(∃d∈dl,x∈aG d.parts)\/x∈aG en.parts
 | [],put,h=>.inr (List.mem_filter.mp h).1
 |d::dl,put,h=>by
  rcases List.mem_append.mp h with h|h
  ·exact .inl ⟨d,.head _,(List.mem_filter.mp h).1⟩
  ·rcases qO h with⟨d',h1,h2⟩|h
   ·exact .inl ⟨d',.tail _ h1,h2⟩
   ·exact .inr h
abbrev FG(x:Str):D:=.tup [.str "name",.str x]
theorem Et{x:Str}(h:PyData.strOk x=true):eR 60 (FG x)=true:=by
 have e:PyData.strOk "name" = true:=by decide +kernel
 simp only[FG,xm,gZ,j4,t6,h,e,Bool.and_true]
theorem N1{x:Str}(h:PyData.strOk x=true):eqT (FG x) (FG x)=true:=Aw (Et h) rfl
theorem aR.split{xs:List Str}{m:Int}(hn:∀x∈xs,nY x):∀{w:aR},w.ok xs m->∃s tl,w.d=.tup (.str s::tl)/\a9 tl=true/\eW 60 tl=true/\tl.length<=2/\∀x∈aG w.parts,FG x=w.d\/FG x∈tl
 | .one (.num n),_=>⟨"number",[.int n],rfl,rfl,by simp only[gZ,j4,Em,Bool.and_true],by simp,fun x hx=>by cases hx⟩
 | .one (.name y),h=>⟨"name",[.str y],rfl,rfl,by simp only[gZ,j4,t6,(hn y h).str,Bool.and_true],by simp,fun x hx=>by
  have:x=y:=by simpa[aG,aR.parts,Part.names] using hx
  subst this;exact .inl rfl⟩
 | .two o p q,h=>⟨o,[p.d,q.d],rfl,by simp only[bM,d7,Part.bare,Bool.and_self],by simp only[gZ,j4,Part.eR (n:=59) hn h.2.1,Part.eR (n:=59) hn h.2.2,Bool.and_true],by simp,fun x hx=>by
  simp only[aG,aR.parts,List.flatMap_cons,List.flatMap_nil,List.append_nil,List.mem_append] at hx
  rcases hx with hx|hx
  ·cases p with
   |num n=>cases hx
   |name y=>rw[List.mem_singleton.mp hx];exact .inr (.head _)
  ·cases q with
   |num n=>cases hx
   |name y=>rw[List.mem_singleton.mp hx];exact .inr (.tail _ (.head _))⟩
theorem Jd{d:D}{o:Bool}{ds:List D}{P:D->Prop}(h:eR 60 d=true/\eW 60 ds=true/\P (.bl (ds.any fun x=>eqT x d))):L4 d (.lst o ds) P:=h
abbrev cN:List Bool:=[false,false]
def fb:fH:=fun ds P=>∃(b:b_) (xs:List Str) (m many:Int) (x:Str),ds=[aU false b,.str x]/\(∀d∈b.1,d.ok xs m)/\b.2.ok xs m many/\(∀x∈xs,nY x)/\x∈xs/\b.1.length<=1000/\x∈bY b/\P (.bl true) [none,none]
def kz:US:=
 (aC (aX (a7 0) (fN 2 (bC (bB 2) (bC (bB 3) fO))))
 (aC (eC (dI bx (aa 2)) (au 4)
 (di (aN (aj L4 (gf (ae (uC (.str "name")) (ae (a7 1) ao))) (aj Ca (cW (ae (aj bc (aa 4) (uC (.int 1))) (ae (aj bc (aa 4) (pb (fU fun i=>.int (-i)) (uC (.int 1)))) ao))) (pR kM (ae (AZ (aj bc (aa 4) (pb (fU fun i=>.int (-i)) (uC (.int 1)))) (l0 (uC (.int 1))) hE) ao)))))
 (bO (uC (.bl true)))
 cg))
 (bO (zN (aj (kc false) (aj bc (aa 3) (uC (.int 0))) (uC (.str "choose"))) (aj (Fe false) (aj bc (aa 3) (uC (.int 1))) (gf (ae (uC (.str "name")) (ae (a7 1) ao))))))))
theorem ml:∀ds P,ds.length=cN.length->fb ds P->kz (bF cN P) (ay (5-cN.length) ds):=by
 rintro ds P - ⟨⟨dl,en⟩,xs,m,many,x,rfl,hd,he,hn,hx,hl,ha,k⟩
 simp only[ay,cN,List.map_cons,List.map_nil,List.length_cons,List.length_nil,Nat.reduceAdd,Nat.reduceSub,List.replicate,List.cons_append,List.nil_append]
 unfold kz
 have zl:=cu (dl,en)
 have i_:=bH (xs:=dl) az.bare
 have TB:=en.bare
 have sW:=ja dl
 have FI:=en.aT
 have Ib:=(hn x hx).str
 have yd:=Et Ib
 have my:=N1 Ib
 simp only[aU] at zl hl hd he ⊢
 repeat walk_at "u"
 rw[sW,FI]
 repeat walk_at "u"
 rw[aV az.aT]
 refine bN (fun ws e=>∃(pre post:List az) (o4:Option D),dl=pre++post/\ws=post.map az.d/\(∀d∈pre,x∉aG d.parts)/\e=[some (.tup [.lst false (dl.map az.d),en.d]),some (.str x),some (.lst false (dl.map az.d)),some en.d,o4]) ?_ ?_ _ _ ⟨[],dl,_,rfl,rfl,(fun d hd=>nomatch hd),rfl⟩
 ·rintro e ⟨pre,post,o4,h1,h2,h3,rfl⟩
  have:post=[]:=by simpa using h2.symm
  subst this
  rw[List.append_nil] at h1
  subst h1
  have QV:x∈aG en.parts:=by
   rcases qO ha with⟨d,h4,h5⟩|h4
   ·exact absurd h5 (h3 d h4)
   ·exact h4
  cases en with
  |stop=>cases QV
  |go a=>cases QV
  |choose p a b=>
   cases p with
   |num n=>cases QV
   |name y=>
    have:x=y:=by simpa[aG,End.parts,Part.names] using QV
    subst this
    simp only[End.d,Part.d]
    repeat walk_at "u"
    rw[my]
    exact k
 ·rintro y ws e ih ⟨pre,post,o4,h1,h2,h3,rfl⟩
  cases post with
  |nil=>simp at h2
  |cons d post=>
   simp only[List.map_cons,List.cons.injEq] at h2
   obtain⟨rfl,rfl⟩:=h2
   have LK:=hd d (by rw[h1];simp)
   have nW:=fun h o4=>ih [some (.tup [.lst false (dl.map az.d),en.d]),some (.str x),some (.lst false (dl.map az.d)),some en.d,o4] ⟨pre++[d],post,o4,by rw[h1];simp,rfl,h,rfl⟩
   have K1:x∉aG d.parts->∀d'∈pre++[d],x∉aG d'.parts:=fun h d' pJ=>by
    rcases List.mem_append.mp pJ with z|z
    ·exact h3 d' z
    ·rw[List.mem_singleton.mp z];exact h
   have yes:∀(A B:List D),x∈aG d.parts->(FG x∈A\/FG x∈B)->((A++B).any fun z=>eqT z (FG x))=true:=fun A B _ h=>List.any_eq_true.mpr ⟨FG x,List.mem_append.mpr h,my⟩
   cases d with
   |tell p=>
    obtain⟨s,tl,e1,e2,e3,e4,e5⟩:=aR.split hn (w:=.one p) LK
    have ep:p.d=.tup (.str s::tl):=e1
    have Ig:=p.bare
    have Ov:=Part.eR (n:=59) hn (p:=p) LK
    rw[ep] at Ig Ov
    have nw:¬(HT.eQ (D.str s::tl).length 0 (some 1)=0/\HT.eQ (D.str s::tl).length (D.str s::tl).length none=(D.str s::tl).length):=i7 (by simp)
    have MP:a9 (eA (D.str s::tl) (some 1) none)=true:=by rw[zy];exact e2
    have Lz:a9 (D.str s::tl)=true:=by rw[bM,e2];rfl
    have rm:[D.tup (D.str s::tl),D.tup (D.str s::tl)].length+tl.length<=1000000:=by simp;omega
    have OE:a9 [D.tup (D.str s::tl),D.tup (D.str s::tl)]=true:=by rw[bM,bM,d7,Ig];rfl
    have cb:eW 60 (D.tup (D.str s::tl)::D.tup (D.str s::tl)::tl)=true:=by rw[gZ,gZ,Ov,e3];rfl
    simp only[az.d,ep] at nW ⊢
    repeat walk_at "u"
    rw[zy]
    repeat walk_at "u"
    refine Jd ⟨yd,cb,?_⟩
    repeat walk_at "u"
    with_reducible refine fo ?_ ?_
    ·intro _
     repeat walk_at "u"
     exact k
    ·intro hf
     repeat walk_at "u"
     refine nW (K1 fun Oh=>?_) _
     have:=yes [D.tup (D.str s::tl),D.tup (D.str s::tl)] tl Oh (by
      rcases e5 x Oh with z|z
      ·rw[<-e1,<-z];exact .inl (.head _)
      ·exact .inr z)
     rw[show D.tup (D.str s::tl)::D.tup (D.str s::tl)::tl=[D.tup (D.str s::tl),D.tup (D.str s::tl)]++tl from rfl,this] at hf
     cases hf
   |put y w=>
    obtain⟨s,tl,e1,e2,e3,e4,e5⟩:=aR.split hn LK.2
    have Ig:=w.bare
    have Ov:=aR.eR (n:=58) hn LK.2
    have XS:eR 60 (.str y)=true:=by rw[t6];exact(hn y LK.1).str
    rw[e1] at Ig Ov
    have nw:¬(HT.eQ (D.str s::tl).length 0 (some 1)=0/\HT.eQ (D.str s::tl).length (D.str s::tl).length none=(D.str s::tl).length):=i7 (by simp)
    have MP:a9 (eA (D.str s::tl) (some 1) none)=true:=by rw[zy];exact e2
    have Lz:a9 (D.str s::tl)=true:=by rw[bM,e2];rfl
    have rm:[D.str y,D.tup (D.str s::tl)].length+tl.length<=1000000:=by simp;omega
    have OE:a9 [D.str y,D.tup (D.str s::tl)]=true:=by rw[bM,bM,d7,Ig];rfl
    have cb:eW 60 (D.str y::D.tup (D.str s::tl)::tl)=true:=by rw[gZ,gZ,XS,Ov,e3];rfl
    simp only[az.d,e1] at nW ⊢
    repeat walk_at "u"
    rw[zy]
    repeat walk_at "u"
    refine Jd ⟨yd,cb,?_⟩
    repeat walk_at "u"
    with_reducible refine fo ?_ ?_
    ·intro _
     repeat walk_at "u"
     exact k
    ·intro hf
     repeat walk_at "u"
     refine nW (K1 fun Oh=>?_) _
     have:=yes [D.str y,D.tup (D.str s::tl)] tl Oh (by
      rcases e5 x Oh with z|z
      ·rw[<-e1,<-z];exact .inl (.tail _ (.head _))
      ·exact .inr z)
     rw[show D.str y::D.tup (D.str s::tl)::tl=[D.str y,D.tup (D.str s::tl)]++tl from rfl,this] at hf
     cases hf
theorem HW{x y:Int}{P:D->ai->Prop}(k:∀(xs:List Str) z,0<xs.length->xs.length<=20->(∀x∈xs,nY x)->P (.lst true (xs.map .str)) [some (purse z y)]):fT [purse x y] P:=⟨x,y,rfl,k⟩
theorem HU{x y m:Int}{xs:List Str}{P:D->ai->Prop}(h1:0<xs.length)(h2:xs.length<=1000)(h3:2<=m)(h4:m<=2 ^ 62)(k:∀(p:aR) z,p.ok xs m->P p.d [some (purse z y),none,none]):eu [purse x y,.lst false (xs.map .str),.int m] P:=⟨x,y,xs,m,rfl,h1,h2,h3,h4,k⟩
theorem EK{x y m b many:Int}{xs:List Str}{P:D->ai->Prop}(h1:0<xs.length)(h2:xs.length<=1000)(h3:2<=m)(h4:m<=2 ^ 62)(h5:0<=b)(h6:0<many)(h7:many<=2 ^ 62)(k:∀(p:End) z,p.ok xs m many->P p.d [some (purse z y),none,none,none,none]):dH [purse x y,.lst false (xs.map .str),.int m,.int b,.int many] P:=⟨x,y,xs,m,b,many,rfl,h1,h2,h3,h4,h5,h6,h7,k⟩
abbrev cM:List Bool:=[true,false]
def e_:fH:=fun ds P=>∃x y most,ds=[purse x y,.int most]/\0<most/\most<=1000/\∀(xs:List Str) (m:Int) (bs:List b_) z,0<xs.length->xs.length<=20->(∀x∈xs,nY x)->2<=m->m<=1000000000->0<bs.length->(bs.length<=most\/bs.length<=24)->iS xs m bs->P (a6 true m bs) [some (purse z y),none]
def ku:US:=
 (aC (aX (aA dD fT (ae (aa 0) ao)) (bB 2))
 (aC (aX (aj dz (cW (ae (uC (.int 2)) (ae (uC (.int 3)) (ae (uC (.int 7)) (ae (aj (fI ya fun i j=>.int (i ^ j.toNat)) (uC (.int 10)) (uC (.int 9))) (ae (aj (kZ fun i j=>.int (i+j)) (uC (.int 2)) (aA aq av (ae (aa 0) (ae (uC (.int 1000)) ao)))) ao)))))) (aA aq av (ae (aa 0) (ae (uC (.int 5)) ao)))) (au 3))
 (aC (aX (aj (kZ fun i j=>.int (i+j)) (uC (.int 1)) (aA aq av (ae (aa 0) (ae (aa 1) ao)))) (au 4))
 (aC (di (qb (aN (aj (kZ fun i j=>.bl (decide (j<i))) (aa 1) (uC (.int 5)))) (aN (aj (kc false) (aA aq av (ae (aa 0) (ae (uC (.int 16)) ao))) (uC (.int 0)))))
 (aC (aX (uC (.int 24)) (au 4))
 (aX (Nk (aa 2) hE (l0 (uC (.int 4)))) (bB 2)))
 cg)
 (aC (aX (cW ao) (au 5))
 (aC (eC (fw (ae (a7 4) ao)) (au 6)
 (aC (aX (cW ao) (au 7))
 (aC (eC (fw (ae (aA aq av (ae (aa 0) (ae (aj dz (cW (ae (uC (.int 4)) (ae (uC (.int 4)) (ae (uC (.int 4)) (ae (uC (.int 9)) ao))))) (aA aq av (ae (aa 0) (ae (uC (.int 4)) ao)))) ao))) ao)) (au 8)
 (di (aN (aj (kc false) (aA aq av (ae (aa 0) (ae (uC (.int 3)) ao))) (uC (.int 0))))
 (cB 7 (ae (gf (ae (uC (.str "tell")) (ae (aA bS cT (ae (aa 0) (ae (aa 2) (ae (aa 3) ao)))) ao))) ao))
 (aC (aX (aj dz (aa 2) (aA aq av (ae (aa 0) (ae (pR jU (ae (aa 2) ao)) ao)))) (au 9))
 (cB 7 (ae (gf (ae (uC (.str "put")) (ae (a7 9) (ae (aA cC eu (ae (aa 0) (ae (aa 2) (ae (aa 3) ao)))) ao)))) ao)))))
 (cB 5 (ae (gf (ae (eZ 7) (ae (aA b8 dH (ae (aa 0) (ae (aa 2) (ae (aa 3) (ae (aa 6) (ae (aa 4) ao)))))) ao))) ao)))))
 (bO (gf (ae (a7 3) (ae (eZ 5) ao))))))))))
theorem mj:∀ds P,ds.length=cM.length->e_ ds P->ku (bF cM P) (ay (10-cM.length) ds):=by
 rintro ds P - ⟨x,y,most,rfl,VB,Yt,k⟩
 simp only[ay,cM,List.map_cons,List.map_nil,List.length_cons,List.length_nil,Nat.reduceAdd,Nat.reduceSub,List.replicate,List.cons_append,List.nil_append]
 unfold ku
 repeat walk_at "u"
 refine HW fun xs z x0 x1 x2=>?_
 have hnn:VS.eJ (.lst true (xs.map D.str))=true:=by rw[pf,xo];rfl
 repeat walk_at "u"
 refine⟨⟨by decide,by decide,by decide⟩,?_⟩
 rw[b4,dY]
 repeat walk_at "u"
 refine cm (by omega) (by omega) fun a z a0 a1=>?_
 repeat walk_at "u"
 refine cm (by omega) (by omega) fun b z b0 b1=>?_
 have hx:∃n:Int,g_ [D.int 2,D.int 3,D.int 7,D.int (10 ^ 9),D.int (2+a)] b=some (.int n)/\2<=n/\n<=1000000000:=by
  have:b=0\/b=1\/b=2\/b=3\/b=4:=by omega
  rcases this with rfl|rfl|rfl|rfl|rfl
  ·exact⟨2,rfl,by omega,by omega⟩
  ·exact⟨3,rfl,by omega,by omega⟩
  ·exact⟨7,rfl,by omega,by omega⟩
  ·exact⟨10 ^ 9,rfl,by decide,by decide⟩
  ·exact⟨2+a,rfl,by omega,by omega⟩
 obtain⟨m,em,m0,m1⟩:=hx
 repeat walk_at "u"
 refine cm (by omega) (by omega) fun c z c0 c1=>?_
 repeat walk_at "u"
 have rest:∀(xs:List Str) (many:Int) z,0<xs.length->xs.length<=20->(∀x∈xs,nY x)->0<many->many<=1000->(many<=most\/many<=24) ->
   (aC (aX (cW ao) (au 5)) (aC (eC (fw (ae (a7 4) ao)) (au 6)
 (aC (aX (cW ao) (au 7))
 (aC (eC (fw (ae (aA aq av (ae (aa 0) (ae (aj dz (cW (ae (uC (.int 4)) (ae (uC (.int 4)) (ae (uC (.int 4)) (ae (uC (.int 9)) ao))))) (aA aq av (ae (aa 0) (ae (uC (.int 4)) ao)))) ao))) ao)) (au 8)
 (di (aN (aj (kc false) (aA aq av (ae (aa 0) (ae (uC (.int 3)) ao))) (uC (.int 0))))
 (cB 7 (ae (gf (ae (uC (.str "tell")) (ae (aA bS cT (ae (aa 0) (ae (aa 2) (ae (aa 3) ao)))) ao))) ao))
 (aC (aX (aj dz (aa 2) (aA aq av (ae (aa 0) (ae (pR jU (ae (aa 2) ao)) ao)))) (au 9))
 (cB 7 (ae (gf (ae (uC (.str "put")) (ae (a7 9) (ae (aA cC eu (ae (aa 0) (ae (aa 2) (ae (aa 3) ao)))) ao)))) ao)))))
 (cB 5 (ae (gf (ae (eZ 7) (ae (aA b8 dH (ae (aa 0) (ae (aa 2) (ae (aa 3) (ae (aa 6) (ae (aa 4) ao)))))) ao))) ao)))))
 (bO (gf (ae (a7 3) (ae (eZ 5) ao)))))) (bF [true,false] P) [some (purse z y),some (.int most),some (.lst false (xs.map .str)),some (.int m),some (.int many),none,none,none,none,none]:=by
  intro xs many z x0 x1 x2 n0 n1 n2
  have eN:aT (.lst false (xs.map D.str))=.lst false (xs.map D.str):=by rw[b4,dY]
  repeat walk_at "u"
  refine bN (fun is e=>(∀x∈is,∃i:Int,x=.int i/\0<=i/\i<many)/\∃(z:Int) (bs:List b_) (o6 o7 o8 o9:Option D),(bs.length+is.length:Int)=many/\(∀b∈bs,b_.ok xs m many b)/\e=[some (purse z y),some (.int most),some (.lst false (xs.map .str)),some (.int m),some (.int many),some (.lst true (bs.map (aU true))),o6,o7,o8,o9]) ?_ ?_ _ _ ⟨fun x h=>?_,z,[],_,_,_,_,?_,fun b h=>by simp at h,rfl⟩
  ·rintro e ⟨-,z,bs,o6,o7,o8,o9,hl,hb,rfl⟩
   simp only[List.length_nil] at hl
   repeat walk_at "u"
   exact k xs m bs z x0 x1 x2 m0 m1 (by omega) (by omega) fun b h=>by have:=hb b h;rwa [show many=(bs.length:Int) by omega] at this
  ·rintro x is e ih ⟨hx,z,bs,o6,o7,o8,o9,hl,hb,rfl⟩
   obtain⟨i,rfl,i0,i1⟩:=hx x (.head _)
   simp only[List.length_cons] at hl
   have V4:(bs.map (aU true)).length<=1000000:=by rw[List.length_map];omega
   repeat walk_at "u"
   refine cm (by omega) (by omega) fun g z g0 g1=>?_
   obtain⟨q,eq,q0,q1⟩:∃q:Int,g_ [D.int 4,D.int 4,D.int 4,D.int 9] g=some (.int q)/\0<q/\q<=9:=by
    have:g=0\/g=1\/g=2\/g=3:=by omega
    rcases this with rfl|rfl|rfl|rfl
    ·exact⟨4,rfl,by omega,by omega⟩
    ·exact⟨4,rfl,by omega,by omega⟩
    ·exact⟨4,rfl,by omega,by omega⟩
    ·exact⟨9,rfl,by omega,by omega⟩
   repeat walk_at "u"
   refine cm q0 (by omega) fun a z a0 a1=>?_
   repeat walk_at "u"
   refine bN (fun js e=>∃(z:Int) (ds:List az) (o8 o9:Option D),(ds.length+js.length:Int)<=8/\(∀d∈ds,d.ok xs m)/\e=[some (purse z y),some (.int most),some (.lst false (xs.map .str)),some (.int m),some (.int many),some (.lst true (bs.map (aU true))),some (.int i),some (.lst true (ds.map az.d)),o8,o9]) ?_ ?_ _ _ ⟨z,[],_,_,?_,fun d h=>by simp at h,rfl⟩
   ·rintro e ⟨z,ds,o8,o9,rm,hd,rfl⟩
    simp only[List.length_nil] at rm
    repeat walk_at "u"
    rw[eN]
    refine EK x0 (by omega) m0 (by omega) i0 n0 (by omega) fun w z hw=>?_
    have Vm:=w.eJ
    repeat walk_at "u"
    refine ih _ ⟨fun x h=>hx x (.tail _ h),z,bs++[(ds,w)],_,_,_,_,by simp only[List.length_append,List.length_cons,List.length_nil];omega,fun b h=>?_,by rw[List.map_append];rfl⟩
    rcases List.mem_append.mp h with h|h
    ·exact hb b h
    ·rw[List.mem_singleton.mp h];exact⟨by simp only[];omega,hd,hw⟩
   ·rintro x js e v8 ⟨z,ds,o8,o9,rm,hd,rfl⟩
    simp only[List.length_cons] at rm
    have FJ:(ds.map az.d).length<=1000000:=by rw[List.length_map];omega
    have nil:∀d:az,Unit->d.ok xs m->∀x∈ds++[d],x.ok xs m:=fun d _ h x hx=>by
     rcases List.mem_append.mp hx with hx|hx
     ·exact hd x hx
     ·rw[List.mem_singleton.mp hx];exact h
    repeat walk_at "u"
    refine cm (by omega) (by omega) fun a z a0 a1=>?_
    repeat walk_at "u"
    with_reducible refine fo ?_ ?_
    ·intro h
     repeat walk_at "u"
     rw[eN]
     refine vG x0 (by omega) m0 (by omega) fun p z hp=>?_
     have Ji:=p.eJ
     repeat walk_at "u"
     exact v8 _ ⟨z,ds++[.tell p],_,_,by simp only[List.length_append,List.length_cons,List.length_nil];omega,nil (.tell p) () hp,by rw[List.map_append];rfl⟩
    ·intro h
     have hl:(0:Int)<((xs.map D.str).length:Int):=by rw[List.length_map];omega
     have To:((xs.map D.str).length:Int)<=2 ^ 62:=by rw[List.length_map];omega
     repeat walk_at "u"
     refine cm hl To fun a z a0 a1=>?_
     obtain⟨s,hs,es⟩:=mL (f:=D.str) (xs:=xs) a0 (by simpa using a1)
     repeat walk_at "u"
     rw[eN]
     refine HU x0 (by omega) m0 (by omega) fun p z hp=>?_
     have Ji:=p.eJ
     repeat walk_at "u"
     exact v8 _ ⟨z,ds++[.put s p],_,_,by simp only[List.length_append,List.length_cons,List.length_nil];omega,nil (.put s p) () ⟨hs,hp⟩,by rw[List.map_append];rfl⟩
   ·simp[ff];omega
  ·obtain⟨i,rfl,a,b⟩:=oe h
   exact⟨i,rfl,a,by omega⟩
  ·simp[ff];omega
 generalize (aC (aX (cW ao) (au 5)) (aC (eC (fw (ae (a7 4) ao)) (au 6)
 (aC (aX (cW ao) (au 7))
 (aC (eC (fw (ae (aA aq av (ae (aa 0) (ae (aj dz (cW (ae (uC (.int 4)) (ae (uC (.int 4)) (ae (uC (.int 4)) (ae (uC (.int 9)) ao))))) (aA aq av (ae (aa 0) (ae (uC (.int 4)) ao)))) ao))) ao)) (au 8)
 (di (aN (aj (kc false) (aA aq av (ae (aa 0) (ae (uC (.int 3)) ao))) (uC (.int 0))))
 (cB 7 (ae (gf (ae (uC (.str "tell")) (ae (aA bS cT (ae (aa 0) (ae (aa 2) (ae (aa 3) ao)))) ao))) ao))
 (aC (aX (aj dz (aa 2) (aA aq av (ae (aa 0) (ae (pR jU (ae (aa 2) ao)) ao)))) (au 9))
 (cB 7 (ae (gf (ae (uC (.str "put")) (ae (a7 9) (ae (aA cC eu (ae (aa 0) (ae (aa 2) (ae (aa 3) ao)))) ao)))) ao)))))
 (cB 5 (ae (gf (ae (eZ 7) (ae (aA b8 dH (ae (aa 0) (ae (aa 2) (ae (aa 3) (ae (aa 6) (ae (aa 4) ao)))))) ao))) ao)))))
 (bO (gf (ae (a7 3) (ae (eZ 5) ao))))))=T at rest ⊢
 with_reducible refine fo ?_ ?_
 ·intro h
  repeat walk_at "u"
  refine cm (by omega) (by omega) fun a z a0 a1=>?_
  repeat walk_at "u"
  with_reducible refine fo ?_ ?_
  ·intro h
   have V2:=cX (xs:=xs)
   repeat walk_at "u"
   rw[kj,b4,dY]
   have hlen:0<(eA xs none (some 4)).length:=by
    match xs,x0 with
    |a::as,_=>
     have:eA (a::as) none (some 4)=(a::as).take (HT.eQ (as.length+1) (as.length+1) (some 4)):=by simp[eA,HT.eQ]
     rw[this];simp[HT.eQ];omega
   exact rest _ 24 z hlen (by have:=rJ (xs:=xs) (a:=none) (b:=some 4);omega) (fun x h=>x2 x (xV h)) (by omega) (by omega) (by omega)
  ·intro h
   repeat walk_at "u"
   exact rest xs (1+c) z x0 x1 x2 (by omega) (by omega) (by omega)
 ·intro h
  repeat walk_at "u"
  exact rest xs (1+c) z x0 x1 x2 (by omega) (by omega) (by omega)
theorem B0{x y most:Int}{P:D->ai->Prop}(h1:0<most)(h2:most<=1000)(k:∀(xs:List Str) (m:Int) (bs:List b_) z,0<xs.length->xs.length<=20->(∀x∈xs,nY x)->2<=m->m<=1000000000->0<bs.length->(bs.length<=most\/bs.length<=24)->iS xs m bs->P (a6 true m bs) [some (purse z y),none]):e_ [purse x y,.int most] P:=⟨x,y,most,rfl,h1,h2,k⟩
theorem xf{en:End}{y:Str}{p:List Str}:∀{dl:List az}{q:List Str},y∈fR en (p++q) dl↔y∉p/\y∈fR en q dl
 | [],q=>by simp only[fR,List.mem_filter,decide_eq_true_eq,List.mem_append,not_or];constructor<;>(intro h;simp_all)
 |d::dl,q=>by
  simp only[fR,List.mem_append,List.mem_filter,decide_eq_true_eq,List.append_assoc]
  rw[xf (dl:=dl) (q:=q++d.putN)]
  constructor
  ·rintro(⟨h1,h2⟩|⟨h1,h2⟩)
   ·exact⟨fun z=>h2 (.inl z),.inl ⟨h1,fun z=>h2 (.inr z)⟩⟩
   ·exact⟨h1,.inr h2⟩
  ·rintro⟨h1,⟨h2,h3⟩|h2⟩
   ·exact .inl ⟨h2,fun z=>z.elim h1 h3⟩
   ·exact .inr ⟨h1,h2⟩
section
variable {m:Int}{bs:List b_}{en:End}{Out:Str->Prop}
theorem rG:∀{dl:List az}{W W':cP}{T:List Int},(∀y,(y∈fR en [] dl\/(y∉b5 dl/\Out y))->look W y=look W' y) ->
  (bz m dl (W,T)).2=(bz m dl (W',T)).2/\∀y,(y∈aG en.parts\/Out y)->look (bz m dl (W,T)).1 y=look (bz m dl (W',T)).1 y
 | [],W,W',T,h=>⟨rfl,fun y hy=>h y (hy.imp (fun z=>by simp[fR,z]) fun z=>⟨by simp[b5],z⟩)⟩
 |d::dl,W,W',T,h=>by
  have hp:Agree (aG d.parts) W W':=fun y hy=>h y (.inl (by simp[fR,hy]))
  cases d with
  |put z w=>
   have hv:w.val m W=w.val m W':=aR.agree hp fun x hx=>hx
   have:=rG (dl:=dl) (W:=c9 W z (w.val m W)) (W':=c9 W' z (w.val m W')) (T:=T) fun y hy=>by
    rw[n5,n5]
    by_cases e:y=z
    ·rw[if_pos e,if_pos e,hv]
    ·rw[if_neg e,if_neg e]
     refine h y (hy.imp (fun q=>?_) fun q=>⟨fun r=>?_,q.2⟩)
     ·simp only[fR,List.mem_append]
      exact .inr (by have:=(xf (p:=[z]) (q:=[]) (dl:=dl) (en:=en) (y:=y)).mpr ⟨by simpa using e,q⟩;simpa[az.putN] using this)
     ·simp only[b5,List.flatMap_cons,az.putN,List.mem_append,List.mem_singleton] at r
      exact r.elim e q.1
   exact this
  |tell p=>
   have hv:p.val W=p.val W':=Part.agree hp fun x hx=>by simpa[aG,az.parts] using hx
   have:=rG (dl:=dl) (W:=W) (W':=W') (T:=T++[p.val W]) fun y hy=>h y (hy.imp (fun q=>by
    simp only[fR,List.mem_append]
    exact .inr (by simpa[az.putN] using q)) fun q=>⟨fun r=>q.1 (by simpa[b5,az.putN] using r),q.2⟩)
   show(bz m dl (W,T++[p.val W])).2=(bz m dl (W',T++[p.val W'])).2/\∀y,(y∈aG en.parts\/Out y)->look (bz m dl (W,T++[p.val W])).1 y=look (bz m dl (W',T++[p.val W'])).1 y
   rw[<-hv]
   exact this
theorem z6(hB:Bs bs):∀(n:Nat) (b:Int) (W W':cP) (T:List Int),(∀x,iF bs x b.toNat->look W x=look W' x)->gj m bs n b W T=gj m bs n b W' T
 |0,b,W,W',T,_=>rfl
 |n+1,b,W,W',T,h=>by
  simp only[gj]
  cases hb:bs[b.toNat]? with
  |none=>rfl
  |some dA=>
   obtain⟨dl,e⟩:=dA
   have kX:=List.mem_of_getElem? hb
   have EW:=hB.2.2 _ kX
   obtain⟨h1,h2⟩:=rG (m:=m) (en:=e) (Out:=fun y=>∃j:Nat,(j:Int)∈lead e/\iF bs y j) (dl:=dl) (T:=T) (W:=W) (W':=W') fun y hy=>h y (by
    rcases hy with z|⟨z,j,q,r⟩
    ·exact .here hb z
    ·exact .on hb z q r)
   have go:∀v∈lead e,gj m bs n v (bz m dl (W,T)).1 (bz m dl (W,T)).2=gj m bs n v (bz m dl (W',T)).1 (bz m dl (W',T)).2:=fun v hv=>by
    rw[h1]
    exact z6 hB n v _ _ _ fun x w=>h2 x (.inr ⟨v.toNat,by rw[Int.toNat_of_nonneg (EW v hv).1];exact hv,w⟩)
   cases e with
   |stop=>simp only[];rw[h1]
   |go a=>exact go a (by simp[lead])
   |choose p a c=>
    have hv:p.val (bz m dl (W,T)).1=p.val (bz m dl (W',T)).1:=Part.agree (N:=aG [p]) (fun x hx=>h2 x (.inl hx)) fun x hx=>by simpa[aG] using hx
    simp only[End.next]
    rw[hv]
    split
    ·exact go c (by simp only[lead];split<;>simp_all)
    ·exact go a (by simp only[lead];split<;>simp_all)
end
theorem EI{m:Int}{bs:List b_}{xs:List Str}{P:D->ai->Prop}(h1:Bs bs)(h2:bs.length<=30)(h3:xs.length<=63)(h4:∀b∈bs,b.1.length<=100)(h5:∀b∈bs,∀d∈b.1,d.gY)(h6:∀b∈bs,∀x∈bY b,x∈xs)(k:∀W:List (List Str×List Str),W.length=bs.length->(∀(i:Nat) (b:b_) (p:List Str×List Str),bs[i]? = some b->W[i]? = some p->Uh bs i b p)->P (.lst true (W.map (fu true))) [none]):j8 [a6 false m bs] P:=⟨m,bs,xs,rfl,h1,h2,h3,h4,h5,h6,k⟩
theorem zd{m:Int}{bs:List b_}{xs:List Str}{b:Nat}{x:Str}{P:D->ai->Prop}(h1:Bs bs)(h2:bs.length<=30)(h3:xs.length<=63)(h4:∀b∈bs,b.1.length<=100)(h5:∀b∈bs,∀d∈b.1,d.gY)(h6:(aI bs).length<=4000)(h7:∀x∈aI bs,x∈xs)(h8:b<bs.length)(h9:x∈aI bs)(k1:¬iF bs x b->P .bJ [none,none,none])(k2:iF bs x b->∀ws,P (dh true ws) [none,none,none]):iu [a6 false m bs,.int b,.str x] P:=⟨m,bs,xs,b,x,rfl,h1,h2,h3,h4,h5,h6,h7,h8,h9,k1,k2⟩
theorem EJ{m:Int}{bs:List b_}{P:D->ai->Prop}(h:bs.length<=1000)(k:P (.lst true (bs.map fun b=>dh true (c8 b.2))) [none]):fV [a6 false m bs] P:=⟨m,bs,rfl,h,k⟩
theorem Lm{b:b_}{xs:List Str}{m many:Int}{x:Str}{P:D->ai->Prop}(h1:∀d∈b.1,d.ok xs m)(h2:b.2.ok xs m many)(h3:∀x∈xs,nY x)(h4:x∈xs)(h5:b.1.length<=1000)(h6:x∈bY b)(k:P (.bl true) [none,none]):fb [aU false b,.str x] P:=⟨b,xs,m,many,x,rfl,h1,h2,h3,h4,h5,h6,k⟩
theorem FW(p:List Str×List Str):VS.eJ (fu true p)=true:=by rw[w5,eU,eU,gM,eD,eD];rfl
theorem FX(o:Bool)(p:List Str×List Str):VS.aT (fu o p)=fu false p:=by simp only[fu,jq,eV,fC,b4,dY]
theorem p5(p:List Str×List Str):VS.bare (fu false p)=true:=by simp only[fu,yP,jr,bM,d7,cX];rfl
theorem yY{b:b_}{x:Str}(h:x∈bY b):x∈b.names:=by
 rcases qO h with⟨d,h1,h2⟩|h1
 ·refine List.mem_append_left _ (List.mem_flatMap.mpr ⟨d,h1,?_⟩)
  cases d with
  |put y w=>exact .tail _ h2
  |tell p=>exact h2
 ·exact List.mem_append_right _ h1
theorem AO{bs:List b_}{x:Str}{i:Nat}{b:b_}(hb:bs[i]? = some b)(w:iF bs x i)(hn:¬∃j:Nat,(j:Int)∈lead b.2/\iF bs x j):x∈bY b:=by
 cases w with
 |here h1 h2=>rw[hb] at h1;cases h1;exact h2
 |on h1 _ h3 h4=>rw[hb] at h1;cases h1;exact absurd ⟨_,h3,h4⟩ hn
abbrev lH:List Bool:=[false]
def Ah(L:Addr->List Int->Prop):fH:=fun ds P=>∃(ns:List Int) (d:D),ds=[d]/\(d=.lst false (ns.map .int)\/∃a,d=.fn a/\L a ns)/\ns.length<=100000/\P (.bl true) [none]
def Js(L:Addr->List Int->Prop):US:=
 (aC (aX (aA dC (fS L) (ae (aa 0) ao)) (au 1))
 (aC (aX (aA cM e_ (ae (aa 1) (ae (uC (.int 8)) ao))) (bB 2))
 (aC (aX (aA dF fW (ae (aa 1) (ae (aa 2) ao))) (bB 3))
 (aC (aX (aA gr j8 (ae (aa 2) ao)) (bB 4))
 (aC (aX (aA dE fV (ae (aa 2) ao)) (bB 5))
 (aC (aX (aA j6 qU (ae (aa 2) (ae (aa 3) (ae (uC (.int 30)) ao)))) (bB 6))
 (aC (eC (dI bx (aA ee gA (ae (aa 2) ao))) (au 7)
 (aC (di (aN (aj (kc true) (pb (Fd true) (aA e7 iu (ae (aa 2) (ae (uC (.int 0)) (ae (aa 7) ao))))) (aj (Im false) (aa 7) (aj bc (aj dz (aa 4) (uC (.int 0))) (uC (.int 0))))))
 (bO (uC (.bl false)))
 cg)
 (di (aN (aj (Im true) (aa 7) (aj bc (aj dz (aa 4) (uC (.int 0))) (uC (.int 0)))))
 (aC (aX (pb vM (aa 3)) (au 8))
 (aC (iZ 8 (aa 7) (aA aq av (ae (aa 1) (ae (aj bc (aa 2) (uC (.int 0))) ao))))
 (di (aN (aj (Fe true) (aA j6 qU (ae (aa 2) (ae (aa 8) (ae (uC (.int 30)) ao)))) (aa 6)))
 (bO (uC (.bl false)))
 cg)))
 cg)))
 (aC (eC (fw (ae (pR jU (ae (aa 5) ao)) ao)) (au 9)
 (aC (eC (dI bx (aj bc (aj dz (aa 4) (aa 9)) (uC (.int 1)))) (au 7)
 (di (aN (aj (kc false) (pR jU (ae (fP 1 (dI bx (aj dz (aa 5) (aa 9))) (au 0) (aN (aj (Im false) (aa 8) (aj bc (aj dz (aa 5) (aa 0)) (uC (.int 0))))) (fE (a7 0))) ao)) (uC (.int 0))))
 (bO (uC (.bl false)))
 cg))
 (eC (dI bx (aj bc (aj dz (aa 4) (aa 9)) (uC (.int 0)))) (au 7)
 (di (qb (aN (aj (Im true) (aa 7) (aj bc (aj dz (aa 4) (aa 9)) (uC (.int 1))))) (ym (lx (aA cN fb (ae (aj dz (aj bc (aa 2) (uC (.int 1))) (aa 9)) (ae (aa 7) ao))))))
 (bO (uC (.bl false)))
 cg))))
 (bO (uC (.bl true)))))))))))
theorem DX{L:Addr->List Int->Prop}:∀ds P,ds.length=lH.length->Ah L ds P->Js L (bF lH P) (ay (10-lH.length) ds):=by
 rintro ds P - ⟨ns,d,rfl,hd,hl,k⟩
 simp only[ay,lH,List.map_cons,List.map_nil,List.length_cons,List.length_nil,Nat.reduceAdd,Nat.reduceSub,List.replicate,List.cons_append,List.nil_append]
 unfold Js
 have sW:aT d=d:=by
  rcases hd with rfl|⟨a,rfl,_⟩
  ·rw[b4,fD]
  ·simp only[aT]
 repeat walk_at "u"
 rw[sW]
 refine HV hd hl fun px py=>?_
 repeat walk_at "u"
 refine B0 (by omega) (by omega) fun xs m bs px x0 x1 x2 m0 m1 b0 b1 ok=>?_
 have YW:bs.length<=24:=by omega
 have Ji:=D7 m bs
 have Ti:=ok.nb
 have B3:∀b∈bs,∀d∈b.1,d.gY:=fun b hb d hd=>az.nb.op (m:=m) ((Ti b hb).1 d hd)
 have FJ:=ok.O9
 have hK:∀b∈bs,b.1.length<=8:=fun b hb=>(ok b hb).1
 have V_:∀b∈bs,b.1.length<=100:=fun b hb=>by have:=hK b hb;omega
 have OC:m<=2 ^ 61:=by omega
 have Vy:=ok.Sv
 have ML:=ok.names
 have hB:Bs bs:=⟨b0,by omega,fun b hb v hv=>by
  have:=(Ti b hb).2
  cases he:b.2 with
  |stop=>rw[he] at hv;cases hv
  |go a=>rw[he] at hv this;rw[List.mem_singleton.mp hv];exact this
  |choose p a c=>
   rw[he] at hv this
   simp only[lead] at hv
   split at hv
   ·rw[List.mem_singleton.mp hv];exact⟨this.2.1,this.2.2.1⟩
   ·rcases List.mem_cons.mp hv with rfl|hv
    ·exact⟨this.2.1,this.2.2.1⟩
    ·rw[List.mem_singleton.mp hv];exact this.2.2.2⟩
 have Vl:∀b∈bs,∀x∈bY b,x∈xs:=fun b hb x hx=>ML x (List.mem_flatMap.mpr ⟨b,hb,yY hx⟩)
 repeat walk_at "u"
 rw[dQ]
 repeat walk_at "u"
 rw[dQ]
 refine HZ m0 OC B3 (by omega) fun W px hW hWl=>?_
 have hWn:=Ax W
 repeat walk_at "u"
 rw[fY]
 repeat walk_at "u"
 rw[dQ]
 refine EI hB (by omega) (by omega) V_ B3 Vl fun F hFl hF=>?_
 have hFn:VS.eJ (.lst true (F.map (fu true)))=true:=by rw[pf,eI FW];rfl
 have Zh:VS.aT (.lst true (F.map (fu true)))=.lst false (F.map (fu false)):=by rw[b4,aV (FX true)]
 repeat walk_at "u"
 rw[Zh]
 repeat walk_at "u"
 rw[dQ]
 refine EJ (by omega) ?_
 have hLn:VS.eJ (.lst true (bs.map fun b=>dh true (c8 b.2)))=true:=by rw[pf,eI (fun b=>iJ _)];rfl
 have Zf:VS.aT (.lst true (bs.map fun b=>dh true (c8 b.2)))=.lst false (bs.map fun b=>dh false (c8 b.2)):=by rw[b4,aV (fun b=>kK true _)]
 repeat walk_at "u"
 rw[Zf]
 have Ot:∀(V:cP) (n:Nat) (Q:D->ai->Prop),gQ m V->V.length<=400->n<=300->Q (jo true (gj m bs n 0 V [])) [none,none,none]->qU [a6 false m bs,dJ false V,.int n] Q:=fun V n Q h1 h2 h3 q=>Oa m0 OC b0 Ti h1 hK (by omega) (by omega) q
 have Yg:=fun V n=>G0 (gj m bs n 0 V [])
 have Yh:=Yg W 30
 repeat walk_at "u"
 rw[dQ,fY]
 refine Ot W 30 _ hW.ok (by omega) (by omega) ?_
 repeat walk_at "u"
 rw[vi]
 repeat walk_at "u"
 rw[dQ]
 refine rg B3 (by omega) ML (by omega) fun ys y1 y2=>?_
 have Vk:=eD ys
 repeat walk_at "u"
 rw[dY]
 have h0:∃bb,bs[0]? = some bb:=⟨bs[0],List.getElem?_eq_getElem (by omega)⟩
 obtain⟨Zx,Jl⟩:=h0
 obtain⟨p0,Vw⟩:∃p0,F[0]? = some p0:=⟨_,List.getElem?_eq_getElem (by omega)⟩
 have Rc:=hF 0 Zx p0 Jl Vw
 have Y2:g_ (F.map (fu false)) 0=some (fu false p0):=fi (i:=0) Vw
 have X1:=p5 p0
 have Yn:VS.bare (.lst false (p0.1.map D.str))=true:=by rw[jr,cX];rfl
 have YJ:(p0.1.map D.str).all flat=true:=by simp[flat]
 have Y9:=uw W
 refine bN (fun ws e=>∃(post:List Str) (px:Int) (o7 o8:Option D),ws=post.map .str/\(∀y∈post,y∈aI bs)/\e=[some d,some (purse px py),some (a6 false m bs),some (dJ false W),some (.lst false (F.map (fu false))),some (.lst false (bs.map fun b=>dh false (c8 b.2))),some (jo false (gj m bs 30 0 W [])),o7,o8,none]) ?_ ?_ _ _ ⟨ys,px,_,_,rfl,fun y hy=>(y2 y).mp hy,rfl⟩
 rotate_left
 ·rintro z ws e ih ⟨post,px,o7,o8,h1,h2,rfl⟩
  cases post with
  |nil=>simp at h1
  |cons x post=>
   simp only[List.map_cons,List.cons.injEq] at h1
   obtain⟨rfl,rfl⟩:=h1
   have hx:=h2 x (.head _)
   have nW:=fun px o8=>ih [some d,some (purse px py),some (a6 false m bs),some (dJ false W),some (.lst false (F.map (fu false))),some (.lst false (bs.map fun b=>dh false (c8 b.2))),some (jo false (gj m bs 30 0 W [])),some (.str x),o8,none] ⟨post,px,_,o8,rfl,fun y hy=>h2 y (.tail _ hy),rfl⟩
   repeat walk_at "u"
   rw[dQ,show VS.aT (D.int 0)=D.int ((0:Nat):Int) from gX,show VS.aT (D.str x)=D.str x from iQ]
   refine zd (xs:=xs) hB (by omega) (by omega) V_ B3 (by omega) ML b0 hx (fun hw=>?_) (fun hw ws=>?_)
   ·repeat walk_at "u"
    rw[h_,show decide (x∈p0.1)=false by simp[Rc.bg,hw]]
    repeat walk_at "u"
    rw[h_,show decide (x∈p0.1)=false by simp[Rc.bg,hw]]
    rw[show dJ false W=.cy false false (W.map fun p=>DK.s (.inr p.1)) (W.map fun p=>D.int p.2) from rfl]
    have hz:(W.map fun p=>D.int p.2).length<=1000000:=by rw[List.length_map];omega
    simp only[a6]
    repeat walk_at "u"
    refine cm (by omega) (by omega) fun r px r0 r1=>?_
    repeat walk_at "u"
    rw[kg (f:=D.int),<-zu]
    have OP:=hW.put (x:=x) r0 r1
    have Y8:=ij x r W
    have hkn:=yM true (gj m bs 30 0 W [])
    have hkf:=yM false (gj m bs 30 0 W [])
    repeat walk_at "u"
    rw[show VS.aT (.tup [.int m,.lst false (bs.map (aU false))])=a6 false m bs from dQ false m bs,fY]
    refine Ot (c9 W x r) 30 _ OP.ok (by omega) (by omega) ?_
    have Yp:gj m bs 30 0 (c9 W x r) []=gj m bs 30 0 W []:=z6 hB 30 0 _ _ _ fun y wy=>by
     rw[n5,if_neg fun e=>hw (by rw[<-e];exact wy)]
    rw[Yp]
    repeat walk_at "u"
    rw[Kc]
    repeat walk_at "u"
    exact nW _ _
   ·have Vm:=iJ ws
    repeat walk_at "u"
    rw[h_,show decide (x∈p0.1)=true by simp[Rc.bg,hw]]
    repeat walk_at "u"
    rw[h_,show decide (x∈p0.1)=true by simp[Rc.bg,hw]]
    repeat walk_at "u"
    exact nW _ _
 ·rintro e ⟨post,px,o7,o8,h1,h2,rfl⟩
  repeat walk_at "u"
  rw[show((bs.map fun b=>dh false (c8 b.2)).length:Int)=bs.length by rw[List.length_map],show((bs.length:Int)).toNat=bs.length from rfl]
  refine⟨by omega,?_⟩
  refine bN (fun ws e=>∃(i c:Nat) (o7 o8 o9:Option D),ws=ff i c/\i+c=bs.length/\e=[some d,some (purse px py),some (a6 false m bs),some (dJ false W),some (.lst false (F.map (fu false))),some (.lst false (bs.map fun b=>dh false (c8 b.2))),some (jo false (gj m bs 30 0 W [])),o7,o8,o9]) ?_ ?_ _ _ ⟨0,bs.length,_,_,_,rfl,by omega,rfl⟩
  ·rintro e ⟨i,c,o7,o8,o9,h1,h2,rfl⟩
   repeat walk_at "u"
   exact k
  ·rintro z ws e ih ⟨i,c,o7,o8,o9,h1,h2,rfl⟩
   cases c with
   |zero=>simp[ff] at h1
   |succ c=>
    rw[y'] at h1
    simp only[List.cons.injEq] at h1
    obtain⟨rfl,rfl⟩:=h1
    have hi:i<bs.length:=by omega
    have nW:=fun o7 o8 o9=>ih [some d,some (purse px py),some (a6 false m bs),some (dJ false W),some (.lst false (F.map (fu false))),some (.lst false (bs.map fun b=>dh false (c8 b.2))),some (jo false (gj m bs 30 0 W [])),o7,o8,o9] ⟨i+1,c,o7,o8,o9,by simp,by omega,rfl⟩
    obtain⟨b,hb⟩:∃b,bs[i]? = some b:=⟨_,List.getElem?_eq_getElem hi⟩
    obtain⟨p,hp⟩:∃p,F[i]? = some p:=⟨_,List.getElem?_eq_getElem (by omega)⟩
    have TX:=hF i b p hb hp
    have Y0:g_ (F.map (fu false)) (i:Int)=some (fu false p):=fi hp
    have X0:=p5 p
    have hp1:VS.bare (.lst false (p.1.map D.str))=true:=by rw[jr,cX];rfl
    have ET:VS.bare (.lst false (p.2.map D.str))=true:=by rw[jr,cX];rfl
    have YI:(p.2.map D.str).all flat=true:=by simp[flat]
    have YY:g_ (bs.map fun b=>dh false (c8 b.2)) (i:Int)=some (dh false (c8 b.2)):=fi (f:=fun b:b_=>dh false (c8 b.2)) hb
    have Ii:=j_ (c8 b.2)
    have Ih:=BV (e:=b.2)
    have Ap:=List.mem_of_getElem? hb
    have EW:=hB.2.2 _ Ap
    repeat walk_at "u"
    rw[dY]
    refine bN (fun ws e=>∃(post:List Str) (o7 o8:Option D),ws=post.map .str/\(∀y∈post,y∈p.2)/\e=[some d,some (purse px py),some (a6 false m bs),some (dJ false W),some (.lst false (F.map (fu false))),some (.lst false (bs.map fun b=>dh false (c8 b.2))),some (jo false (gj m bs 30 0 W [])),o7,o8,some (.int i)]) ?_ ?_ _ _ ⟨p.2,_,_,rfl,fun y hy=>hy,rfl⟩
    ·rintro e ⟨post,o7,o8,h1,h3,rfl⟩
     repeat walk_at "u"
     rw[dY]
     refine bN (fun ws e=>∃(post:List Str) (o7 o8:Option D),ws=post.map .str/\(∀y∈post,y∈p.1)/\e=[some d,some (purse px py),some (a6 false m bs),some (dJ false W),some (.lst false (F.map (fu false))),some (.lst false (bs.map fun b=>dh false (c8 b.2))),some (jo false (gj m bs 30 0 W [])),o7,o8,some (.int i)]) ?_ ?_ _ _ ⟨p.1,_,_,rfl,fun y hy=>hy,rfl⟩
     ·rintro e ⟨post,o7,o8,h1,h3,rfl⟩
      exact nW _ _ _
     ·rintro z ws e ih ⟨post,o7,o8,h1,h3,rfl⟩
      cases post with
      |nil=>simp at h1
      |cons x post=>
       simp only[List.map_cons,List.cons.injEq] at h1
       obtain⟨rfl,rfl⟩:=h1
       have hx:=h3 x (.head _)
       have K1:=fun o8=>ih [some d,some (purse px py),some (a6 false m bs),some (dJ false W),some (.lst false (F.map (fu false))),some (.lst false (bs.map fun b=>dh false (c8 b.2))),some (jo false (gj m bs 30 0 W [])),some (.str x),o8,some (.int i)] ⟨post,_,o8,rfl,fun y hy=>h3 y (.tail _ hy),rfl⟩
       have uq:=bH (xs:=bs) cu
       have zm:VS.bare (.lst false (bs.map (aU false)))=true:=by rw[jr,uq];rfl
       have Y1:g_ (bs.map (aU false)) (i:Int)=some (aU false b):=fi hb
       have YS:=cu b
       repeat walk_at "u"
       rw[h_]
       by_cases SQ:x∈p.2
       ·rw[show decide (x∈p.2)=true by simp[SQ]]
        repeat walk_at "u"
        exact K1 _
       ·rw[show decide (x∈p.2)=false by simp[SQ]]
        have hu:=AO hb ((TX.bg x).mp hx) fun z=>SQ ((TX.en x).mpr z)
        simp only[a6]
        repeat walk_at "u"
        rw[fh,show VS.aT (D.str x)=D.str x from iQ]
        refine Lm (fun d hd=>(ok b Ap).2.1 d hd) (ok b Ap).2.2 x2 (Vl b Ap x hu) (by have:=hK b Ap;omega) hu ?_
        repeat walk_at "u"
        exact K1 _
    ·rintro z ws e ih ⟨post,o7,o8,h1,h3,rfl⟩
     cases post with
     |nil=>simp at h1
     |cons x post=>
      simp only[List.map_cons,List.cons.injEq] at h1
      obtain⟨rfl,rfl⟩:=h1
      have hx:=h3 x (.head _)
      have K1:=fun o8=>ih [some d,some (purse px py),some (a6 false m bs),some (dJ false W),some (.lst false (F.map (fu false))),some (.lst false (bs.map fun b=>dh false (c8 b.2))),some (jo false (gj m bs 30 0 W [])),some (.str x),o8,some (.int i)] ⟨post,_,o8,rfl,fun y hy=>h3 y (.tail _ hy),rfl⟩
      repeat walk_at "u"
      rw[fD]
      refine eM (fun ws acc e=>∃(ps qs fl:List Int) (o0:Option D),c8 b.2=ps++qs/\ws=qs.map .int/\acc=fl.map .int/\fl.length<=ps.length/\(∀v∈ps,iF bs x v.toNat->fl≠[])/\e=[o0,some d,some (purse px py),some (a6 false m bs),some (dJ false W),some (.lst false (F.map (fu false))),some (.lst false (bs.map fun b=>dh false (c8 b.2))),some (jo false (gj m bs 30 0 W [])),some (.str x),o8,some (.int i)]) ?_ ?_ _ _ _ ⟨[],c8 b.2,[],_,rfl,rfl,rfl,by simp,(fun v hv=>nomatch hv),rfl⟩
      ·rintro acc e ⟨ps,qs,fl,o0,g1,g2,rfl,g3,g4,rfl⟩
       have:qs=[]:=by simpa using g2.symm
       subst this
       rw[List.append_nil] at g1
       obtain⟨j,hj,wj⟩:=(TX.en x).mp hx
       have OJ:=g4 (j:Int) (by rw[<-g1];exact ud.mpr hj) (by simpa using wj)
       have B7:decide (((fl.map D.int).length:Int)=0)=false:=by
        cases fl with
        |nil=>exact absurd rfl OJ
        |cons a l=>simp;omega
       repeat walk_at "u"
       rw[B7]
       repeat walk_at "u"
       exact K1 _
      ·rintro z ws acc e v8 ⟨ps,qs,fl,o0,g1,g2,rfl,g3,g4,rfl⟩
       cases qs with
       |nil=>simp at g2
       |cons v qs=>
        simp only[List.map_cons,List.cons.injEq] at g2
        obtain⟨rfl,rfl⟩:=g2
        obtain⟨v0,v1⟩:=EW v (ud.mp (by rw[g1];simp))
        obtain⟨j,rfl⟩:=Int.eq_ofNat_of_zero_le v0
        obtain⟨bj,E3⟩:∃bj,bs[j]? = some bj:=⟨_,List.getElem?_eq_getElem (by omega)⟩
        obtain⟨pj,QU⟩:∃pj,F[j]? = some pj:=⟨_,List.getElem?_eq_getElem (by omega)⟩
        have Zg:=hF j bj pj E3 QU
        have YZ:g_ (F.map (fu false)) (j:Int)=some (fu false pj):=fi QU
        have XZ:=p5 pj
        have Ym:VS.bare (.lst false (pj.1.map D.str))=true:=by rw[jr,cX];rfl
        have YH:(pj.1.map D.str).all flat=true:=by simp[flat]
        have B7:(fl.map D.int).length<=1000000:=by
         have:(c8 b.2).length=ps.length+(qs.length+1):=by rw[g1];simp
         rw[List.length_map];omega
        repeat walk_at "u"
        rw[h_]
        by_cases SN:x∈pj.1
        ·rw[show decide (x∈pj.1)=true by simp[SN]]
         repeat walk_at "u"
         refine v8 _ _ ⟨ps++[(j:Int)],qs,fl++[(j:Int)],_,by rw[g1];simp,rfl,by simp,by simp;omega,fun v _ _=>by simp,rfl⟩
        ·rw[show decide (x∈pj.1)=false by simp[SN]]
         repeat walk_at "u"
         refine v8 _ _ ⟨ps++[(j:Int)],qs,fl,_,by rw[g1];simp,rfl,rfl,by simp;omega,fun v hv w=>?_,rfl⟩
         rcases List.mem_append.mp hv with q|q
         ·exact g4 v q w
         ·rw[List.mem_singleton.mp q] at w
          exact absurd ((Zg.bg x).mpr (by simpa using w)) SN
end ON
end
section
set_option maxHeartbeats 4000000
namespace ON
open PySem L2 VS
structure Txt(mg:Str->Option Value):Prop where
 range:mg "range" = none
 len:mg "len" = none
 enumerate:mg "enumerate" = none
 list:mg "list" = none
 dict:mg "dict" = none
 isinstance:mg "isinstance" = none
 sorted:mg "sorted" = none
 set:mg "set" = none
 str:mg "str" = none
 tuple:mg "tuple" = none
 Jx:∃t,mg "BEGIN" = some (.int (-1) t)
def sig(K:PySem.W.Frag):List Ent:=[⟨"plus",1,hJ,vC⟩,⟨"less",1,kJ,vD⟩,⟨"times",1,i8,pW⟩,⟨"below",1,i9,pX⟩,⟨"same",1,kI,vB⟩,⟨"part_now",1,cj,dG⟩,⟨"worth_now",2,dk,fL⟩,⟨"led_on",2,gu,j9⟩,⟨"do_deeds",3,e8,iw⟩,⟨"run",4,j6,qU⟩,⟨"parts_of_ending",1,bE,cH⟩,⟨"parts_of_worth",1,b6,dS⟩,⟨"parts_of_deed",2,bV,de⟩,⟨"names_used",1,bZ,dn⟩,⟨"names_of_deed",3,cv,eK⟩,⟨"names_of",4,ee,gA⟩,⟨"blocks_of_ending",1,bq,cw⟩,⟨"leads_of",2,cS,e9⟩,⟨"sources_of",1,dB,hU⟩,⟨"into",3,jw,qV⟩,⟨"came_from",1,b7,dt⟩,⟨"way_back",1,d_,gx⟩,⟨"names_put",1,dm,fM⟩,⟨"names_at_once",3,bW,dg⟩,⟨"wanted_at_begins",4,bL,cZ⟩,⟨"wanted",5,gr,j8⟩,⟨"want_way",5,e7,iu⟩,⟨"_law_mixed",1,cD,ez⟩,⟨"_law_purse",2,dC,(fS (KL K))⟩,⟨"_law_draw",1,aq,av⟩,⟨"_law_names",2,dD,fT⟩,⟨"_law_part",2,bS,cT⟩,⟨"_law_worth",3,cC,eu⟩,⟨"_law_ending",3,b8,dH⟩,⟨"_law_program",4,cM,e_⟩,⟨"_law_given",2,dF,fW⟩,⟨"_law_leads",1,dE,fV⟩,⟨"_law_is_used",1,cN,fb⟩,⟨"law",6,lH,(Ah (KL K))⟩]
def top(i:Nat):Stmt:=PySem.Challenge.pw_oncenames_k18_whole_unwanted_is_unneeded.main.body.getD i (.Pass ⟨0,0,0,0⟩)
abbrev DI:Stmt:=top 5
theorem GW:aK ["first", "second", "measure"] ["first", "second", "measure"] (ax DI):=⟨rfl,rfl,rfl,by decide +kernel,rfl,by decide +kernel,by decide +kernel⟩
abbrev DJ:Stmt:=top 6
theorem GX:aK ["first", "second", "measure"] ["first", "second", "measure"] (ax DJ):=⟨rfl,rfl,rfl,by decide +kernel,rfl,by decide +kernel,by decide +kernel⟩
abbrev z0:Stmt:=top 7
theorem DD:aK ["first", "second", "measure"] ["first", "second", "measure"] (ax z0):=⟨rfl,rfl,rfl,by decide +kernel,rfl,by decide +kernel,by decide +kernel⟩
abbrev z5:Stmt:=top 8
theorem DG:aK ["first", "second", "measure"] ["first", "second", "measure"] (ax z5):=⟨rfl,rfl,rfl,by decide +kernel,rfl,by decide +kernel,by decide +kernel⟩
abbrev s_same:Stmt:=top 9
theorem GV:aK ["first", "second", "measure"] ["first", "second", "measure"] (ax s_same):=⟨rfl,rfl,rfl,by decide +kernel,rfl,by decide +kernel,by decide +kernel⟩
abbrev qt:Stmt:=top 15
theorem wU:aK ["part", "worths"] ["part", "worths"] (ax qt):=⟨rfl,rfl,rfl,by decide +kernel,rfl,by decide +kernel,by decide +kernel⟩
abbrev oF:Stmt:=top 14
theorem vc:aK ["worth", "worths", "measure", "op"] ["worth", "worths", "measure"] (ax oF):=⟨rfl,rfl,rfl,by decide +kernel,rfl,by decide +kernel,by decide +kernel⟩
abbrev wZ:Stmt:=top 13
theorem BB:aK ["ending", "worths"] ["ending", "worths"] (ax wZ):=⟨rfl,rfl,rfl,by decide +kernel,rfl,by decide +kernel,by decide +kernel⟩
abbrev qx:Stmt:=top 12
theorem wX:aK ["deeds", "worths", "told", "measure", "deed"] ["deeds", "worths", "told", "measure"] (ax qx):=⟨rfl,rfl,rfl,by decide +kernel,rfl,by decide +kernel,by decide +kernel⟩
abbrev IM:Stmt:=top 11
theorem J6:aK ["program", "given", "many", "measure", "blocks", "worths", "told", "block", "entered", "deeds", "ending"] ["program", "given", "many"] (ax IM):=⟨rfl,rfl,rfl,by decide +kernel,rfl,by decide +kernel,by decide +kernel⟩
abbrev iI:Stmt:=top 21
theorem lz:aK ["ending"] ["ending"] (ax iI):=⟨rfl,rfl,rfl,by decide +kernel,rfl,by decide +kernel,by decide +kernel⟩
abbrev i5:Stmt:=top 20
theorem l8:aK ["worth"] ["worth"] (ax i5):=⟨rfl,rfl,rfl,by decide +kernel,rfl,by decide +kernel,by decide +kernel⟩
abbrev jG:Stmt:=top 19
theorem nH:aK ["deed"] ["deed"] (ax jG):=⟨rfl,rfl,rfl,by decide +kernel,rfl,by decide +kernel,by decide +kernel⟩
abbrev l_:Stmt:=top 18
theorem si:aK ["parts"] ["parts"] (ax l_):=⟨rfl,rfl,rfl,by decide +kernel,rfl,by decide +kernel,by decide +kernel⟩
abbrev jH:Stmt:=top 17
theorem nI:aK ["deed", "used"] ["deed"] (ax jH):=⟨rfl,rfl,rfl,by decide +kernel,rfl,by decide +kernel,by decide +kernel⟩
abbrev qu:Stmt:=top 16
theorem wV:aK ["program", "names", "deeds", "ending", "deed"] ["program"] (ax qu):=⟨rfl,rfl,rfl,by decide +kernel,rfl,by decide +kernel,by decide +kernel⟩
abbrev il:Stmt:=top 26
theorem kS:aK ["ending"] ["ending"] (ax il):=⟨rfl,rfl,rfl,by decide +kernel,rfl,by decide +kernel,by decide +kernel⟩
abbrev qv:Stmt:=top 25
theorem wW:aK ["program", "leads", "block", "deeds", "ending"] ["program"] (ax qv):=⟨rfl,rfl,rfl,by decide +kernel,rfl,by decide +kernel,by decide +kernel⟩
abbrev l9:Stmt:=top 27
theorem sf:aK ["leads", "sources", "source", "block"] ["leads"] (ax l9):=⟨rfl,rfl,rfl,by decide +kernel,rfl,by decide +kernel,by decide +kernel⟩
abbrev DL:Stmt:=top 24
theorem GY:aK ["program", "sources"] ["program"] (ax DL):=⟨rfl,rfl,rfl,by decide +kernel,rfl,by decide +kernel,by decide +kernel⟩
abbrev oJ:Stmt:=top 28
theorem ve:aK ["leads", "start", "left_out", "came", "line", "at", "source", "block"] ["leads", "start", "left_out"] (ax oJ):=⟨rfl,rfl,rfl,by decide +kernel,rfl,by decide +kernel,by decide +kernel⟩
abbrev qp:Stmt:=top 29
theorem wQ:aK ["came", "block", "way"] ["came", "block"] (ax qp):=⟨rfl,rfl,rfl,by decide +kernel,rfl,by decide +kernel,by decide +kernel⟩
abbrev oH:Stmt:=top 34
theorem vd:aK ["deeds"] ["deeds"] (ax oH):=⟨rfl,rfl,rfl,by decide +kernel,rfl,by decide +kernel,by decide +kernel⟩
abbrev jI:Stmt:=top 35
theorem nJ:aK ["block", "deeds", "ending", "put", "used", "deed"] ["block"] (ax jI):=⟨rfl,rfl,rfl,by decide +kernel,rfl,by decide +kernel,by decide +kernel⟩
abbrev ik:Stmt:=top 33
theorem kR:aK ["program", "blocks", "sources", "puts", "begins", "line", "at", "name", "source"] ["program"] (ax ik):=⟨rfl,rfl,rfl,by decide +kernel,rfl,by decide +kernel,by decide +kernel⟩
abbrev wY:Stmt:=top 31
theorem BA:aK ["program", "begins", "told", "at", "deeds", "ending", "behind"] ["program"] (ax wY):=⟨rfl,rfl,rfl,by decide +kernel,rfl,by decide +kernel,by decide +kernel⟩
abbrev qr:Stmt:=top 32
theorem wR:aK ["program", "block", "name", "blocks", "leads", "source", "deeds", "ending", "came", "last"] ["program", "block", "name"] (ax qr):=⟨rfl,rfl,rfl,by decide +kernel,rfl,by decide +kernel,by decide +kernel⟩
abbrev mf:Stmt:=top 37
theorem su:aK ["_law_cell", "_law_k", "_law_number"] ["_law_cell", "_law_k"] (ax mf):=⟨rfl,rfl,rfl,by decide +kernel,rfl,by decide +kernel,by decide +kernel⟩
abbrev md:Stmt:=top 38
theorem sq:aK ["_law_script", "_law_cells", "_law_number", "_law_k"] ["_law_script"] (ax md):=⟨rfl,rfl,rfl,by decide +kernel,rfl,by decide +kernel,by decide +kernel⟩
abbrev oM:Stmt:=top 39
theorem vg:aK ["_law_purse_here", "_law_out_of", "_law_drawn"] ["_law_purse_here", "_law_out_of"] (ax oM):=⟨rfl,rfl,rfl,by decide +kernel,rfl,by decide +kernel,by decide +kernel⟩
abbrev me:Stmt:=top 40
theorem sr:aK ["_law_purse_here", "_law_letters", "_law_stem", "_law_base", "_law_some"] ["_law_purse_here"] (ax me):=⟨rfl,rfl,rfl,by decide +kernel,rfl,by decide +kernel,by decide +kernel⟩
abbrev oK:Stmt:=top 41
theorem vf:aK ["_law_purse_here", "_law_names_here", "_law_measure"] ["_law_purse_here", "_law_names_here", "_law_measure"] (ax oK):=⟨rfl,rfl,rfl,by decide +kernel,rfl,by decide +kernel,by decide +kernel⟩
abbrev ma:Stmt:=top 42
theorem sk:aK ["_law_purse_here", "_law_names_here", "_law_measure", "_law_way", "_law_one"] ["_law_purse_here", "_law_names_here", "_law_measure"] (ax ma):=⟨rfl,rfl,rfl,by decide +kernel,rfl,by decide +kernel,by decide +kernel⟩
abbrev k_:Stmt:=top 43
theorem qo:aK ["_law_purse_here", "_law_names_here", "_law_measure", "_law_block", "_law_many", "_law_way", "_law_one", "_law_other"] ["_law_purse_here", "_law_names_here", "_law_measure", "_law_block", "_law_many"] (ax k_):=⟨rfl,rfl,rfl,by decide +kernel,rfl,by decide +kernel,by decide +kernel⟩
abbrev jY:Stmt:=top 44
theorem pd:aK ["_law_purse_here", "_law_most", "_law_names_here", "_law_measure", "_law_many", "_law_blocks", "_law_block", "_law_deeds", "_law_k", "_law_name"] ["_law_purse_here", "_law_most"] (ax jY):=⟨rfl,rfl,rfl,by decide +kernel,rfl,by decide +kernel,by decide +kernel⟩
abbrev mi:Stmt:=top 46
theorem sA:aK ["_law_purse_here", "_law_program_here", "_law_given_here", "_law_deeds", "_law_ending_here", "_law_deed", "_law_part_here"] ["_law_purse_here", "_law_program_here"] (ax mi):=⟨rfl,rfl,rfl,by decide +kernel,rfl,by decide +kernel,by decide +kernel⟩
abbrev mh:Stmt:=top 47
theorem sv:aK ["_law_program_here", "_law_found", "_law_deeds", "_law_ending_here"] ["_law_program_here"] (ax mh):=⟨rfl,rfl,rfl,by decide +kernel,rfl,by decide +kernel,by decide +kernel⟩
abbrev jZ:Stmt:=top 48
theorem pe:aK ["_law_block", "_law_name", "_law_deeds", "_law_ending_here", "_law_deed"] ["_law_block", "_law_name"] (ax jZ):=⟨rfl,rfl,rfl,by decide +kernel,rfl,by decide +kernel,by decide +kernel⟩
abbrev IP:Stmt:=top 49
theorem J8:aK ["_law_script", "_law_purse_here", "_law_program_here", "_law_given_here", "_law_found", "_law_leads_here", "_law_due", "_law_name", "_law_other", "_law_block"] ["_law_script"] (ax IP):=⟨rfl,rfl,rfl,by decide +kernel,rfl,by decide +kernel,by decide +kernel⟩
section
variable {P:Program}{w:World}{K:PySem.W.Frag}{mg:Str->Option Value}{base:Heap}{f:Addr}{fd:FuncData}
theorem HC(F:ic K "plus" "plus" DI f fd)(T:Txt mg)(G:Gs P w K mg base (sig K) 0):cA P w K mg base ie 1 f fd ["first", "second", "measure"] (gb hJ vC):=
 ju F GW rfl (by decide) BF fun dZ A outer s H E hr hu dU=>
  (ak (aJ (aM gq cn (aM fQ dw pP pP) pP)))
theorem HD(F:ic K "less" "less" DJ f fd)(T:Txt mg)(G:Gs P w K mg base (sig K) 1):cA P w K mg base ie 1 f fd ["first", "second", "measure"] (gb kJ vD):=
 ju F GX rfl (by decide) BG fun dZ A outer s H E hr hu dU=>
  (ak (aJ (aM gq cn (aM yW dw pP pP) pP)))
theorem Ek(F:ic K "times" "times" z0 f fd)(T:Txt mg)(G:Gs P w K mg base (sig K) 2):cA P w K mg base ie 1 f fd ["first", "second", "measure"] (gb i8 pW):=
 ju F DD rfl (by decide) yQ fun dZ A outer s H E hr hu dU=>
  (ak (aJ (aM gq cn (aM iT cn pP pP) pP)))
theorem El(F:ic K "below" "below" z5 f fd)(T:Txt mg)(G:Gs P w K mg base (sig K) 3):cA P w K mg base ie 1 f fd ["first", "second", "measure"] (gb i9 pX):=
 ju F DG rfl (by decide) yR fun dZ A outer s H E hr hu dU=>
  (ak (aJ (lY (aS xb lN pP pP (bp _)) af af)))
theorem HB(F:ic K "same" "same" s_same f fd)(T:Txt mg)(G:Gs P w K mg base (sig K) 4):cA P w K mg base ie 1 f fd ["first", "second", "measure"] (gb kI vB):=
 ju F GV rfl (by decide) BE fun dZ A outer s H E hr hu dU=>
  (ak (aJ (lY (aS eE eO pP pP (bp _)) af af)))
theorem xi(F:ic K "part_now" "part_now" qt f fd)(T:Txt mg)(G:Gs P w K mg base (sig K) 5):cA P w K mg base ie 1 f fd ["part", "worths"] (gb cj dG):=
 ju F wU rfl (by decide) sG fun dZ A outer s H E hr hu dU=>
  (ak (aJ (lY (aS eE eO (eT pP af) bK (bp _)) (eT pP af) (g2 pP (eT pP af) af))))
theorem vp(F:ic K "worth_now" "worth_now" oF f fd)(T:Txt mg)(G:Gs P w K mg base (sig K) 6){x4 gE gG fj fk gD:Addr}(Ai:mg "OPS" = some (.ref x4))(AM:mZ P w base x4 (mr [("plus",gE),("less",gG),("times",fj),("below",fk),("same",gD)]))(Pu:∀a m,QB gE gG fj fk gD a m->oY P w K mg base a 1 (gb hJ m)):cA P w K mg base ie 2 f fd ["worth", "worths", "measure"] (gb dk fL):=
 ju F vc rfl (by decide) (qB gE gG fj fk gD) fun dZ A outer s H E hr hu dU=>
  (ag (cR (ji (oO Ai AM (eT pP af)))
   (ak (aJ (cl (G.at 5) (ab pP (ab pP ah)))))
   br)
   (ag (sO (oG Ai AM (eT pP af)))
   (ak (aJ (cL Pu (ab (cl (G.at 5) (ab (eT pP af) (ab pP ah))) (ab (cl (G.at 5) (ab (eT pP af) (ab pP ah))) (ab pP ah))))))))
theorem BO(F:ic K "led_on" "led_on" wZ f fd)(T:Txt mg)(G:Gs P w K mg base (sig K) 7):cA P w K mg base ie 2 f fd ["ending", "worths"] (gb gu j9):=
 ju F BB rfl (by decide) w8 fun dZ A outer s H E hr hu dU=>
  (ag (cR (aS eE eO (eT pP af) bK (bp _))
   (ak (aJ (eT pP af)))
   br)
   (ak (aJ (lY (aS Ae Au (cl (G.at 5) (ab (eT pP af) (ab pP ah))) af (bp _)) (eT pP af) (eT pP af)))))
theorem xl(F:ic K "do_deeds" "do_deeds" qx f fd)(T:Txt mg)(G:Gs P w K mg base (sig K) 8):cA P w K mg base ie 3 f fd ["deeds", "worths", "told", "measure"] (gb e8 iw):=
 ju F wX rfl (by decide) sJ fun dZ A outer s H E hr hu dU=>
  (ak (cY PassesOwn.never rfl (b3 pP) gN
   (ak (cR (aS eE eO (eT pP af) bK (bp _))
   (ak (dP (eT pP af) (cl (G.at 6) (ab (eT pP af) (ab pP (ab pP ah))))))
   (ak (mA (ab (cl (G.at 5) (ab (eT pP af) (ab pP ah))) ah)))))))
theorem KZ(F:ic K "run" "run" IM f fd)(T:Txt mg)(G:Gs P w K mg base (sig K) 9):cA P w K mg base ie 4 f fd ["program", "given", "many"] (gb j6 qU):=
 ju F J6 rfl (by decide) pure_run fun dZ A outer s H E hr hu dU=>
  (ag (p8 pC (fq rfl (aW gN (aW gF dM))))
   (ag (sO (nD T.dict (ab pP ah)))
   (ag (sO (bG ah))
   (ag (sO af)
   (ag (cY PassesOwn.never rfl (iR T.range (ab pC ah)) gN
   (ag (p8 (eL pP pP) (fq rfl (aW gF (aW gF dM))))
   (ag (F6 (cl (G.at 8) (ab pP (ab pP (ab pP (ab pP ah))))))
   (ag (cR (aS eE eO (eT pP af) bK (bp _))
   (ak (aJ (eY (ab pM (ab k5 ah)))))
   br)
   (ak (sO (cl (G.at 7) (ab pP (ab pP ah)))))))))
   (ak (aJ (eY (ab pM (ab k5 ah))))))))))
theorem lF(F:ic K "parts_of_ending" "parts_of_ending" iI f fd)(T:Txt mg)(G:Gs P w K mg base (sig K) 10):cA P w K mg base ie 1 f fd ["ending"] (gb bE cH):=
 ju F lz rfl (by decide) j0 fun dZ A outer s H E hr hu dU=>
  (ak (aJ (lY (aS eE eO (eT pP af) bK (bp _)) (bG (ab (eT pP af) ah)) (bG ah))))
theorem mv(F:ic K "parts_of_worth" "parts_of_worth" i5 f fd)(T:Txt mg)(G:Gs P w K mg base (sig K) 11){x4 gE gG fj fk gD:Addr}(Ai:mg "OPS" = some (.ref x4))(AM:mZ P w base x4 (mr [("plus",gE),("less",gG),("times",fj),("below",fk),("same",gD)])):cA P w K mg base ie 1 f fd ["worth"] (gb b6 dS):=
 ju F l8 rfl (by decide) kT fun dZ A outer s H E hr hu dU=>
  (ak (aJ (lY (ji (oI Ai AM (eT pP af))) (bG (ab (eT pP af) (ab (eT pP af) ah))) (bG (ab pC ah)))))
theorem nQ(F:ic K "parts_of_deed" "parts_of_deed" jG f fd)(T:Txt mg)(G:Gs P w K mg base (sig K) 12):cA P w K mg base ie 2 f fd ["deed"] (gb bV de):=
 ju F nH rfl (by decide) lA fun dZ A outer s H E hr hu dU=>
  (ak (aJ (lY (aS eE eO (eT pP af) bK (bp _)) (cl (G.at 11) (ab (eT pP af) ah)) (bG (ab (eT pP af) ah)))))
theorem sM(F:ic K "names_used" "names_used" l_ f fd)(T:Txt mg)(G:Gs P w K mg base (sig K) 13):cA P w K mg base ie 1 f fd ["parts"] (gb bZ dn):=
 ju F si rfl (by decide) pk fun dZ A outer s H E hr hu dU=>
  (ak (aJ (jj (oo (ks:=["part"]) (N2:=["#0"]) (by decide +kernel)) rfl (b3 pP) (fun _ _ _ _ _=>gN) (fun _ _ _ _ _=>(lW (aS eE eO (eT pP af) bK (bp _)))) (fun _ _ _ _ _=>(eT pP af)))))
theorem nR(F:ic K "names_of_deed" "names_of_deed" jH f fd)(T:Txt mg)(G:Gs P w K mg base (sig K) 14):cA P w K mg base ie 3 f fd ["deed"] (gb cv eK):=
 ju F nI rfl (by decide) lB fun dZ A outer s H E hr hu dU=>
  (ag (sO (cl (G.at 13) (ab (cl (G.at 12) (ab pP ah)) ah)))
   (ak (aJ (lY (aS eE eO (eT pP af) bK (bp _)) (aM pV vJ (bG (ab (eT pP af) ah)) pP) pM))))
theorem xj(F:ic K "names_of" "names_of" qu f fd)(T:Txt mg)(G:Gs P w K mg base (sig K) 15):cA P w K mg base ie 4 f fd ["program"] (gb ee gA):=
 ju F wV rfl (by decide) sH fun dZ A outer s H E hr hu dU=>
  (ag (sO (bG ah))
   (ag (cY PassesOwn.never rfl (b3 (eT pP af)) (fq rfl (aW gN (aW gN dM)))
   (ag (cY PassesOwn.never rfl (b3 pP) gN
   (ak (mE (ab (cl (G.at 14) (ab pP ah)) ah))))
   (ak (mE (ab (cl (G.at 13) (ab (cl (G.at 10) (ab pP ah)) ah)) ah)))))
   (ak (aJ (UZ T.sorted T.set pP)))))
theorem kW(F:ic K "blocks_of_ending" "blocks_of_ending" il f fd)(T:Txt mg)(G:Gs P w K mg base (sig K) 16):cA P w K mg base ie 1 f fd ["ending"] (gb bq cw):=
 ju F kS rfl (by decide) jT fun dZ A outer s H E hr hu dU=>
  (ag (cR (aS eE eO (eT pP af) bK (bp _))
   (ak (aJ (bG (ab (eT pP af) ah))))
   br)
   (ag (cR (aS eE eO (eT pP af) bK (bp _))
   (ak (aJ (lY (aS eE eO (eT pP af) (eT pP af) (bp _)) (bG (ab (eT pP af) ah)) (bG (ab (eT pP af) (ab (eT pP af) ah))))))
   br)
   (ak (aJ (bG ah)))))
theorem xk(F:ic K "leads_of" "leads_of" qv f fd)(T:Txt mg)(G:Gs P w K mg base (sig K) 17):cA P w K mg base ie 2 f fd ["program"] (gb cS e9):=
 ju F wW rfl (by decide) sI fun dZ A outer s H E hr hu dU=>
  (ag (sO (p9 (pG T.Jx) (bG (ab af ah))))
   (ag (cY PassesOwn.never rfl (iE T.enumerate (eT pP af)) (fq rfl (aW gN (aW (fq rfl (aW gN (aW gN dM))) dM)))
   (ak (dP pP (cl (G.at 16) (ab pP ah)))))
   (ak (aJ pM))))
theorem sL(F:ic K "sources_of" "sources_of" l9 f fd)(T:Txt mg)(G:Gs P w K mg base (sig K) 18):cA P w K mg base ie 1 f fd ["leads"] (gb dB hU):=
 ju F sf rfl (by decide) ph fun dZ A outer s H E hr hu dU=>
  (ag (uP false hu gN (oo (ks:=["block"]) (N2:=["#0", "#1", "#2", "#3"]) (by decide +kernel)) rfl pP (fun _ _ _ _ _=>gN) (fun _ _ _ _ _=>gI) (fun _ _ _ _ _=>pC) (fun _ _ _ _ _=>(bG ah)) rfl)
   (ag (zG PassesOwn.never rfl pP gN
   (ak (cY PassesOwn.never rfl (b3 (eG pP pP)) gN
   (ak (wo (tD PH) PH)))))
   (ak (aJ pM))))
theorem HE(F:ic K "into" "into" DL f fd)(T:Txt mg)(G:Gs P w K mg base (sig K) 19):cA P w K mg base ie 3 f fd ["program"] (gb jw qV):=
 ju F GY rfl (by decide) BH fun dZ A outer s H E hr hu dU=>
  (ag (sF (cl (G.at 18) (ab (cl (G.at 17) (ab pP ah)) ah)))
   (ak (aJ (jj (oo (ks:=["block"]) (N2:=["#0", "sources"]) (by decide +kernel)) rfl (iR T.range (ab (nL T.len (ab (eT pP af) ah)) ah)) (fun _ _ _ _ _=>gN) (fun _ _ _ _ _=>gI) (fun _ _ _ _ _=>(eG pP pP))))))
theorem vw(F:ic K "came_from" "came_from" oJ f fd)(T:Txt mg)(G:Gs P w K mg base (sig K) 20):cA P w K mg base ie 1 f fd ["leads", "start", "left_out"] (gb b7 dt):=
 ju F ve rfl (by decide) qD fun dZ A outer s H E hr hu dU=>
  (ag (sO (p9 pC yl))
   (ag (sO (bG (ab pC ah)))
   (ag (sO af)
   (ag (p6 PassesOwn.never (aS xb lN pP (nL T.len (ab pP ah)) (bp _))
   (ag (sO (eL pP pP))
   (ag (cY PassesOwn.never rfl (b3 (eG pP pP)) gN
   (ak (cR (lr (aS Ae Au pP pP (bp _)) (kA (ji (cO pP pP)))).vt
   (ag (dP pP pC)
   (ak (mA (ab pC ah))))
   br)))
   (ak (uA af)))))
   (ak (aJ pM))))))
theorem xg(F:ic K "way_back" "way_back" qp f fd)(T:Txt mg)(G:Gs P w K mg base (sig K) 21):cA P w K mg base ie 1 f fd ["came", "block"] (gb d_ gx):=
 ju F wQ rfl (by decide) sC fun dZ A outer s H E hr hu dU=>
  (ag (sO (bG ah))
   (ag (p6 PassesOwn.never (ji (zI pP))
   (ag (mA (ab pC ah))
   (ak (sO (eG pP pP)))))
   (ag mR
   (ak (aJ pM)))))
theorem vq(F:ic K "names_put" "names_put" oH f fd)(T:Txt mg)(G:Gs P w K mg base (sig K) 22):cA P w K mg base ie 1 f fd ["deeds"] (gb dm fM):=
 ju F vd rfl (by decide) qC fun dZ A outer s H E hr hu dU=>
  (ak (aJ (CN false hu (oo (ks:=["deed"]) (N2:=["#0"]) (by decide +kernel)) rfl (b3 pP) (fun _ _ _ _ _=>gN) (fun _ _ _ _ _=>(lW (aS eE eO (eT pP af) bK (bp _)))) (fun _ _ _ _ _=>(eT pP af)) (fun _ _ _ _ _=>k5))))
theorem nS(F:ic K "names_at_once" "names_at_once" jI f fd)(T:Txt mg)(G:Gs P w K mg base (sig K) 23):cA P w K mg base ie 3 f fd ["block"] (gb bW dg):=
 ju F nJ rfl (by decide) lC fun dZ A outer s H E hr hu dU=>
  (ag (p8 pC (fq rfl (aW gF (aW gF dM))))
   (ag (sO zH)
   (ag (sO (bG ah))
   (ag (cY PassesOwn.never rfl (b3 pP) gN
   (ag (mE (ab (jj (oo (ks:=["name"]) (N2:=["#0", "#1", "#2", "put", "#4", "#5"]) (by decide +kernel)) rfl (b3 (cl (G.at 13) (ab (cl (G.at 12) (ab pP ah)) ah))) (fun _ _ _ _ _=>gN) (fun _ _ _ _ _=>(lW (ji (cO pP pP)))) (fun _ _ _ _ _=>pC)) ah))
   (ak (cR (aS eE eO (eT pP af) bK (bp _))
   (ak (dP (eT pP af) k5))
   br))))
   (ag (mE (ab (jj (oo (ks:=["name"]) (N2:=["#0", "#1", "#2", "put", "#4", "#5"]) (by decide +kernel)) rfl (b3 (cl (G.at 13) (ab (cl (G.at 10) (ab pP ah)) ah))) (fun _ _ _ _ _=>gN) (fun _ _ _ _ _=>(lW (ji (cO pP pP)))) (fun _ _ _ _ _=>pC)) ah))
   (ak (aJ pM)))))))
theorem kU(F:ic K "wanted_at_begins" "wanted_at_begins" ik f fd)(T:Txt mg)(G:Gs P w K mg base (sig K) 24):cA P w K mg base ie 4 f fd ["program"] (gb bL cZ):=
 ju F kR rfl (by decide) jS fun dZ A outer s H E hr hu dU=>
  (ag (sF (eT pP af))
   (ag (sF (cz (G.at 19) (ab pP ah)))
   (ag (p7 gF (oo (ks:=["deeds", "ending"]) (N2:=["#0", "#1", "#2", "#3", "#4", "#5", "#6", "#7", "#8"]) (by decide +kernel)) rfl (b3 pP) (fun _ _ _ _ _=>(fq rfl (aW gN (aW gN dM)))) (fun _ _ _ _ _=>gI) (fun _ _ _ _ _=>(cl (G.at 22) (ab pP ah))) rfl)
   (ag (p7 gN (oo (ks:=["block"]) (N2:=["#0", "#1", "#2", "#3", "#4", "#5", "#6", "#7", "#8"]) (by decide +kernel)) rfl (b3 pP) (fun _ _ _ _ _=>gN) (fun _ _ _ _ _=>gI) (fun _ _ _ _ _=>zH) rfl)
   (ag (wg gN (oo (ks:=["at", "block", "name"]) (N2:=["#0", "#1", "#2", "#3", "#4", "#5", "#6", "#7", "#8"]) (by decide +kernel)) rfl (iE T.enumerate pP) (fun _ _ _ _ _=>(fq rfl (aW gN (aW gN dM)))) (fun _ _ _ _ _=>gI) (fun _ _ _ _ _=>(b3 (cl (G.at 23) (ab pP ah)))) (fun _ _ _ _ _=>gN) (fun _ _ _ _ _=>gI) (fun _ _ _ _ _=>(eY (ab pC (ab pC ah)))) hr.hd rfl)
   (ag (p6 PassesOwn.never (lX pP (fun _=>rfl))
   (ag (p8 mP (fq rfl (aW gN (aW gN dM))))
   (ag (cR (F3 (ji (cI pP (eL pP pP))))
   (ak wm)
   br)
   (ag (aP (tL PH) PH Nj)
   (ak (cY PassesOwn.never rfl (b3 (eL pP pP)) gN
   (ak (cR (lr (aS Ae Au pP (pG T.Jx) (bp _)) (kA (ji (cO pP (eL pP pP))))).vt
   (ak (mA (ab (eY (ab pC (ab pC ah))) ah)))
   br))))))))
   (ak (aJ pM))))))))
theorem BN(F:ic K "wanted" "wanted" wY f fd)(T:Txt mg)(G:Gs P w K mg base (sig K) 25):cA P w K mg base ie 5 f fd ["program"] (gb gr j8):=
 ju F BA rfl (by decide) w6 fun dZ A outer s H E hr hu dU=>
  (ag (sF (cl (G.at 24) (ab pP ah)))
   (ag (sO (bG ah))
   (ag (cY PassesOwn.never rfl (iE T.enumerate (eT pP af)) (fq rfl (aW gN (aW (fq rfl (aW gN (aW gN dM))) dM)))
   (ag (uQ gF (oo (ks:=["block", "name"]) (N2:=["#0", "begins", "#2", "#3", "#4", "#5", "#6"]) (by decide +kernel)) rfl (b3 (cl (G.at 16) (ab pP ah))) (fun _ _ _ _ _=>gN) (fun _ _ _ _ _=>gI) (fun _ _ _ _ _=>(eL pP pP)) (fun _ _ _ _ _=>gN) (fun _ _ _ _ _=>gI) (fun _ _ _ _ _=>pC) hr.hd rfl)
   (ak (mA (ab (eY (ab (Xv T.sorted (eL pP pP)) (ab (UZ T.sorted T.set pP) ah))) ah)))))
   (ak (aJ pM)))))
theorem xh(F:ic K "want_way" "want_way" qr f fd)(T:Txt mg)(G:Gs P w K mg base (sig K) 26):cA P w K mg base ie 5 f fd ["program", "block", "name"] (gb e7 iu):=
 ju F wR rfl (by decide) sE fun dZ A outer s H E hr hu dU=>
  (ag (sF (eT pP af))
   (ag (cR (CF (CG NQ xb af pC (nL T.len (ab pP ah))))
   (ak wk)
   br)
   (ag (cR (aS jt ur pP (cl (G.at 15) (ab pP ah)) (by with_unfolding_all rfl))
   (ak wk)
   br)
   (ag (sO (cl (G.at 17) (ab pP ah)))
   (ag (cY PassesOwn.never rfl (iE T.enumerate pP) (fq rfl (aW gN (aW (fq rfl (aW gN (aW gN dM))) dM)))
   (ak (cR (ji (cI pP (cl (G.at 22) (ab pP ah))))
   (ak (dP pP (bG ah)))
   br)))
   (ag (sF (cl (G.at 20) (ab pP (ab pP (ab yl ah)))))
   (ag (zG PassesOwn.never rfl pP gN
   (ak (cR (aS nP ur pP (cl (G.at 23) (ab (eL pP pP) ah)) (by with_unfolding_all rfl))
   (ak (aJ (cl (G.at 21) (ab pP (ab pP ah)))))
   br)))
   (ak (aJ yl)))))))))
theorem sR(F:ic K "_law_mixed" "_law_mixed" mf f fd)(T:Txt mg)(G:Gs P w K mg base (sig K) 27):cA P w K mg base ie 1 f fd ["_law_cell", "_law_k"] (gb cD ez):=
 ju F su rfl (by decide) pz fun dZ A outer s H E hr hu dU=>
  (ag (sO (aM gq cn pP af))
   (ag (sO (aM gq cn (aM iT cn (aM fQ dw (aM fQ dw (aM fQ dw (aM iT cn pP pP) (aM iT cn af pP)) (aM iT cn af pP)) af) af) af))
   (ag (sO (aM gq cn (aM fQ dw (aM iT cn pP pP) af) af))
   (ak (aJ (aM gq cn (aM iT cn pP (aM fQ dw pP af)) af))))))
theorem sP(F:ic K "_law_purse" "_law_purse" md f fd)(T:Txt mg)(G:Gs P w K mg base (sig K) 28):cA P w K mg base ie 2 f fd ["_law_script"] (gb dC (fS (KL K))):=
 ju F sq rfl (by decide) pv fun dZ A outer s H E hr hu dU=>
  (ag (sF (aM pV vJ (AW pP kC (kB af)) (bG (ab af ah))))
   (ag (sO af)
   (ag (cY PassesOwn.never rfl (iR T.range (ab af ah)) gN
   (ak (sO (aM fQ dw (aM iT cn pP af) (cl (G.at 27) (ab (eL pP (aM gq cn pP (nL T.len (ab pP ah)))) (ab pP ah)))))))
   (ag (cR (aS NR lN (eL pP af) (aM yX cn af af) (bp _))
   (ak (aJ (bG (ab (aM xc cn (eL pP af) (aM yX cn af af)) (ab pC ah)))))
   br)
   (ak (aJ (bG (ab pC (ab pC ah)))))))))
theorem vz(F:ic K "_law_draw" "_law_draw" oM f fd)(T:Txt mg)(G:Gs P w K mg base (sig K) 29):cA P w K mg base ie 1 f fd ["_law_purse_here", "_law_out_of"] (gb aq av):=
 ju F vg rfl (by decide) qF fun dZ A outer s H E hr hu dU=>
  (ag (cR (aS eE eO (eL pP af) af (bp _))
   (ak (lP af (eL pP af)))
   br)
   (ag (sO (aM gq cn (eL pP af) pP))
   (ag (lP af (aM xc cn (eL pP af) pP))
   (ak (aJ pC)))))
theorem sQ(F:ic K "_law_names" "_law_names" me f fd)(T:Txt mg)(G:Gs P w K mg base (sig K) 30):cA P w K mg base ie 2 f fd ["_law_purse_here"] (gb dD fT):=
 ju F sr rfl (by decide) pw fun dZ A outer s H E hr hu dU=>
  (ag (sO bK)
   (ag (sO (aM Hz Ij (eS pP (cl (G.at 29) (ab pP (ab af ah)))) (cl (G.at 29) (ab pP (ab af ah)))))
   (ag (sO (cl (G.at 29) (ab pP (ab af ah))))
   (ag (sO (aM pV vJ (jj (oo (ks:=["_law_k"]) (N2:=["#0", "_law_letters", "_law_stem", "_law_base", "#4"]) (by decide +kernel)) rfl (iR T.range (ab af ah)) (fun _ _ _ _ _=>gN) (fun _ _ _ _ _=>gI) (fun _ _ _ _ _=>(aM lE vK pP (eS pP (aM gq cn (aM fQ dw pP (aM iT cn af pP)) af))))) (bG (ab (aM lE vK pP bK) ah))))
   (ag (cR (aS eE eO (cl (G.at 29) (ab pP (ab af ah))) af (bp _))
   (ak (aJ (jj (oo (ks:=["_law_k"]) (N2:=["#0", "_law_letters", "_law_stem", "_law_base", "#4"]) (by decide +kernel)) rfl (iR T.range (ab af ah)) (fun _ _ _ _ _=>gN) (fun _ _ _ _ _=>gI) (fun _ _ _ _ _=>(aM lE vK pP (eS pP (aM gq cn (aM fQ dw pP (aM iT cn af pP)) af)))))))
   br)
   (ak (aJ (wu pP kC (kB (aM fQ dw af (cl (G.at 29) (ab pP (ab af ah)))))))))))))
theorem vy(F:ic K "_law_part" "_law_part" oK f fd)(T:Txt mg)(G:Gs P w K mg base (sig K) 31):cA P w K mg base ie 2 f fd ["_law_purse_here", "_law_names_here", "_law_measure"] (gb bS cT):=
 ju F vf rfl (by decide) qE fun dZ A outer s H E hr hu dU=>
  (ag (cR (aS eE eO (cl (G.at 29) (ab pP (ab af ah))) af (bp _))
   (ak (aJ (eY (ab bK (ab (eL (bG (ab af (ab af (ab (aM yW dw pP af) (ab (cl (G.at 29) (ab pP (ab pP ah))) ah))))) (cl (G.at 29) (ab pP (ab af ah)))) ah)))))
   br)
   (ak (aJ (eY (ab bK (ab (eL pP (cl (G.at 29) (ab pP (ab (nL T.len (ab pP ah)) ah)))) ah))))))
theorem sN(F:ic K "_law_worth" "_law_worth" ma f fd)(T:Txt mg)(G:Gs P w K mg base (sig K) 32):cA P w K mg base ie 3 f fd ["_law_purse_here", "_law_names_here", "_law_measure"] (gb cC eu):=
 ju F sk rfl (by decide) pq fun dZ A outer s H E hr hu dU=>
  (ag (sO (cl (G.at 29) (ab pP (ab af ah))))
   (ag (sF (cl (G.at 31) (ab pP (ab pP (ab pP ah)))))
   (ag (cR (aS xb lN pP af (bp _))
   (ak (aJ pC))
   br)
   (ak (aJ (eY (ab (eL (bG (ab bK (ab bK (ab bK (ab bK (ab bK (ab bK ah))))))) (aM yW dw pP af)) (ab pC (ab (cl (G.at 31) (ab pP (ab pP (ab pP ah)))) ah)))))))))
theorem qP(F:ic K "_law_ending" "_law_ending" k_ f fd)(T:Txt mg)(G:Gs P w K mg base (sig K) 33):cA P w K mg base ie 3 f fd ["_law_purse_here", "_law_names_here", "_law_measure", "_law_block", "_law_many"] (gb b8 dH):=
 ju F qo rfl (by decide) nK fun dZ A outer s H E hr hu dU=>
  (ag (sO (cl (G.at 29) (ab pP (ab af ah))))
   (ag (sO (eL (bG (ab (aM gq cn (aM fQ dw pP af) pP) (ab (cl (G.at 29) (ab pP (ab pP ah))) ah))) (cl (G.at 29) (ab pP (ab af ah)))))
   (ag (sO (eL (bG (ab (aM gq cn (aM fQ dw pP af) pP) (ab (cl (G.at 29) (ab pP (ab pP ah))) ah))) (cl (G.at 29) (ab pP (ab af ah)))))
   (ag (cR (aS eE eO pP af (bp _))
   (ak (aJ (eY (ab bK ah))))
   br)
   (ag (cR (aS xb lN pP af (bp _))
   (ak (aJ (eY (ab bK (ab pC ah)))))
   br)
   (ak (aJ (eY (ab bK (ab (cl (G.at 31) (ab pP (ab pP (ab pP ah)))) (ab pC (ab pC ah))))))))))))
theorem pD(F:ic K "_law_program" "_law_program" jY f fd)(T:Txt mg)(G:Gs P w K mg base (sig K) 34):cA P w K mg base ie 4 f fd ["_law_purse_here", "_law_most"] (gb cM e_):=
 ju F pd rfl (by decide) mj fun dZ A outer s H E hr hu dU=>
  (ag (sF (cl (G.at 30) (ab pP ah)))
   (ag (sO (eL (bG (ab af (ab af (ab af (ab (aM yX cn af af) (ab (aM fQ dw af (cl (G.at 29) (ab pP (ab af ah)))) ah)))))) (cl (G.at 29) (ab pP (ab af ah)))))
   (ag (sO (aM fQ dw af (cl (G.at 29) (ab pP (ab pP ah)))))
   (ag (cR (lr (aS I_ lN pP af (bp _)) (kA (aS eE eO (cl (G.at 29) (ab pP (ab af ah))) af (bp _)))).vt
   (ag (sO af)
   (ak (sF (wu pP kC (kB af)))))
   br)
   (ag (sO (bG ah))
   (ag (cY PassesOwn.never rfl (iR T.range (ab pC ah)) gN
   (ag (sO (bG ah))
   (ag (cY PassesOwn.never rfl (iR T.range (ab (cl (G.at 29) (ab pP (ab (eL (bG (ab af (ab af (ab af (ab af ah))))) (cl (G.at 29) (ab pP (ab af ah)))) ah))) ah)) gN
   (ak (cR (aS eE eO (cl (G.at 29) (ab pP (ab af ah))) af (bp _))
   (ak (mA (ab (eY (ab bK (ab (cl (G.at 31) (ab pP (ab pP (ab pP ah)))) ah))) ah)))
   (ag (sO (eL pP (cl (G.at 29) (ab pP (ab (nL T.len (ab pP ah)) ah)))))
   (ak (mA (ab (eY (ab bK (ab pC (ab (cl (G.at 32) (ab pP (ab pP (ab pP ah)))) ah)))) ah)))))))
   (ak (mA (ab (eY (ab pM (ab (cl (G.at 33) (ab pP (ab pP (ab pP (ab pP (ab pP ah)))))) ah))) ah))))))
   (ak (aJ (eY (ab pC (ab pM ah)))))))))))
theorem sT(F:ic K "_law_given" "_law_given" mi f fd)(T:Txt mg)(G:Gs P w K mg base (sig K) 35):cA P w K mg base ie 2 f fd ["_law_purse_here", "_law_program_here"] (gb dF fW):=
 ju F sA rfl (by decide) pB fun dZ A outer s H E hr hu dU=>
  (ag (sO (p9 bK af))
   (ag (cY PassesOwn.never rfl (b3 (eT pP af)) (fq rfl (aW gN (aW gN dM)))
   (ak (cY PassesOwn.never rfl (b3 pP) gN
   (ak (cY PassesOwn.never rfl (JH (m9 pP (kB af) kC)) gN
   (ag (cR (lr (lX (vF T.isinstance T.str pP) (fun _=>rfl)) (kA (aS eE eO (cl (G.at 29) (ab pP (ab af ah))) af (bp _)))).vt
   (ak (dP pP (cl (G.at 29) (ab pP (ab (eT pP af) ah)))))
   br)
   (ak (cR (lr (lX (is_tup T.isinstance T.tuple pP) (fun _=>rfl)) (lr (aS eE eO (eT pP af) bK (bp _)) (kA (aS I_ lN (cl (G.at 29) (ab pP (ab af ah))) af (bp _))))).vt
   (ak (dP (eT pP af) (cl (G.at 29) (ab pP (ab (eT pP af) ah)))))
   br))))))))
   (ak (aJ pM))))
theorem sS(F:ic K "_law_leads" "_law_leads" mh f fd)(T:Txt mg)(G:Gs P w K mg base (sig K) 36):cA P w K mg base ie 1 f fd ["_law_program_here"] (gb dE fV):=
 ju F sv rfl (by decide) pA fun dZ A outer s H E hr hu dU=>
  (ag (sO (bG ah))
   (ag (cY PassesOwn.never rfl (b3 (eT pP af)) (fq rfl (aW gN (aW gN dM)))
   (ak (cR (aS eE eO (eT pP af) bK (bp _))
   (ak (mA (ab (bG (ab (eT pP af) (ab (eT pP af) ah))) ah)))
   (ak (mA (ab (nT T.list (ab (m9 pP (kB af) kC) ah)) ah))))))
   (ak (aJ pM))))
theorem pE(F:ic K "_law_is_used" "_law_is_used" jZ f fd)(T:Txt mg)(G:Gs P w K mg base (sig K) 37):cA P w K mg base ie 1 f fd ["_law_block", "_law_name"] (gb cN fb):=
 ju F pe rfl (by decide) ml fun dZ A outer s H E hr hu dU=>
  (ag (p8 pC (fq rfl (aW gF (aW gF dM))))
   (ag (cY PassesOwn.never rfl (b3 pP) gN
   (ak (cR (aS (KQ dU) L1 (eY (ab bK (ab pC ah))) (aM pV vJ (bG (ab (eT pP af) (ab (eT pP (CJ af)) ah))) (nT T.list (ab (m9 (eT pP (CJ af)) (kB af) kC) ah))) (by with_unfolding_all rfl))
   (ak (aJ k5))
   br)))
   (ak (aJ (JL (uR eE eO (eT pP af) bK (bp _)) (JJ (uR (KS dU) L3 (eT pP af) (eY (ab bK (ab pC ah))) (bp _))))))))
theorem K0(F:ic K "law" "law" IP f fd)(T:Txt mg)(G:Gs P w K mg base (sig K) 38):cA P w K mg base ie 6 f fd ["_law_script"] (gb lH (Ah (KL K))):=
 ju F J8 rfl (by decide) DX fun dZ A outer s H E hr hu dU=>
  (ag (sO (cl (G.at 28) (ab pP ah)))
   (ag (sF (cl (G.at 34) (ab pP (ab af ah))))
   (ag (sF (cl (G.at 35) (ab pP (ab pP ah))))
   (ag (sF (cl (G.at 25) (ab pP ah)))
   (ag (sF (cl (G.at 36) (ab pP ah)))
   (ag (sF (cl (G.at 9) (ab pP (ab pP (ab af ah)))))
   (ag (cY PassesOwn.never rfl (b3 (cl (G.at 15) (ab pP ah))) gN
   (ag (cR (aS Ae Au (JK (zI (cl (G.at 26) (ab pP (ab af (ab pP ah)))))) (uR nP ur pP (eT (eL pP af) af) (by with_unfolding_all rfl)) (bp _))
   (ak (aJ k5))
   br)
   (ak (cR (aS jt ur pP (eT (eL pP af) af) (by with_unfolding_all rfl))
   (ag (sO (CM pP))
   (ag (dP pP (cl (G.at 29) (ab pP (ab (eT pP af) ah))))
   (ak (cR (aS (KP dU) LW (cl (G.at 9) (ab pP (ab pP (ab af ah)))) pP (bp _))
   (ak (aJ k5))
   br))))
   br))))
   (ag (cY PassesOwn.never rfl (iR T.range (ab (nL T.len (ab pP ah)) ah)) gN
   (ag (cY PassesOwn.never rfl (b3 (eT (eL pP pP) af)) gN
   (ak (cR (aS eE eO (nL T.len (ab (jj (oo (ks:=["_law_one"]) (N2:=["#0", "#1", "#2", "#3", "_law_found", "#5", "#6", "_law_name", "#8", "#9"]) (by decide +kernel)) rfl (b3 (eL pP pP)) (fun _ _ _ _ _=>gN) (fun _ _ _ _ _=>(lW (aS nP ur pP (eT (eL pP pP) af) (by with_unfolding_all rfl)))) (fun _ _ _ _ _=>pC)) ah)) af (bp _))
   (ak (aJ k5))
   br)))
   (ak (cY PassesOwn.never rfl (b3 (eT (eL pP pP) af)) gN
   (ak (cR (lr (aS jt ur pP (eT (eL pP pP) af) (by with_unfolding_all rfl)) (kA (CF (lX (cl (G.at 37) (ab (eL (eT pP af) pP) (ab pP ah))) (fun _=>rfl))))).vt
   (ak (aJ k5))
   br))))))
   (ak (aJ k5))))))))))
end
end ON
end
set_option maxHeartbeats 4000000
namespace ON
open PySem L2 VS
abbrev Lw:Rows:=[("plus",5),("less",6),("times",7),("below",8),("same",9),("part_now",15),("worth_now",14),("led_on",13),("do_deeds",12),("run",11),("parts_of_ending",21),("parts_of_worth",20),("parts_of_deed",19),("names_used",18),("names_of_deed",17),("names_of",16),("blocks_of_ending",26),("leads_of",25),("sources_of",27),("into",24),("came_from",28),("way_back",29),("names_put",34),("names_at_once",35),("wanted_at_begins",33),("wanted",31),("want_way",32),("_law_mixed",37),("_law_purse",38),("_law_draw",39),("_law_names",40),("_law_part",41),("_law_worth",42),("_law_ending",43),("_law_program",44),("_law_given",46),("_law_leads",47),("_law_is_used",48),("law",49)]
abbrev Bw:List Str:=["range", "len", "enumerate", "list", "dict", "isinstance", "sorted", "set", "str", "tuple"]
abbrev Cw:List (Str×Int):=[("BEGIN",-1)]
abbrev Ok(K:PySem.W.Frag)(w:World):Prop:=Cf Lw Bw Cw true K=Cm top Lw Bw Cw true w
section
variable {P:Program}{w:World}{K:PySem.W.Frag}{mg:Str->Option Value}{base:Heap} (e:Ok K w) (N:K.In base) (G:base.Ns mainGlobals mg)
include e N G
theorem txt:Txt mg:=⟨lj e N G 0 rfl,lj e N G 1 rfl,lj e N G 2 rfl,lj e N G 3 rfl,lj e N G 4 rfl,lj e N G 5 rfl,lj e N G 6 rfl,lj e N G 7 rfl,lj e N G 8 rfl,lj e N G 9 rfl,Mb e N G 0 rfl⟩
theorem g1:Gs P w K mg base (sig K) 1:=Gs.zero.snoc rfl (bf (b9 e 0 rfl) N G (fun _ _ _ _ _ _ us hl=>match us,hl with | [_,_,_],_=>rfl) fun F=>HC F (txt e N G) Gs.zero)
theorem g2:Gs P w K mg base (sig K) 2:=(g1 e N G).snoc rfl (bf (b9 e 1 rfl) N G (fun _ _ _ _ _ _ us hl=>match us,hl with | [_,_,_],_=>rfl) fun F=>HD F (txt e N G) (g1 e N G))
theorem g3:Gs P w K mg base (sig K) 3:=(g2 e N G).snoc rfl (bf (b9 e 2 rfl) N G (fun _ _ _ _ _ _ us hl=>match us,hl with | [_,_,_],_=>rfl) fun F=>Ek F (txt e N G) (g2 e N G))
theorem g4:Gs P w K mg base (sig K) 4:=(g3 e N G).snoc rfl (bf (b9 e 3 rfl) N G (fun _ _ _ _ _ _ us hl=>match us,hl with | [_,_,_],_=>rfl) fun F=>El F (txt e N G) (g3 e N G))
theorem g5:Gs P w K mg base (sig K) 5:=(g4 e N G).snoc rfl (bf (b9 e 4 rfl) N G (fun _ _ _ _ _ _ us hl=>match us,hl with | [_,_,_],_=>rfl) fun F=>HB F (txt e N G) (g4 e N G))
theorem Sj{f1 f2 f3 f4 f5:Addr}(m1:mg "plus" = some (.ref f1))(m2:mg "less" = some (.ref f2))(m3:mg "times" = some (.ref f3))(m4:mg "below" = some (.ref f4))(m5:mg "same" = some (.ref f5)):∀a m,QB f1 f2 f3 f4 f5 a m->oY P w K mg base a 1 (gb hJ m):=by
 have h:=g5 (P:=P) e N G
 rintro a m (⟨rfl,rfl⟩|⟨rfl,rfl⟩|⟨rfl,rfl⟩|⟨rfl,rfl⟩|⟨rfl,rfl⟩)
 ·exact(h.at 0).to m1
 ·exact(h.at 1).to m2
 ·exact(h.at 2).to m3
 ·exact(h.at 3).to m4
 ·exact(h.at 4).to m5
theorem g6:Gs P w K mg base (sig K) 6:=(g5 e N G).snoc rfl (bf (b9 e 5 rfl) N G (fun _ _ _ _ _ _ us hl=>match us,hl with | [_,_],_=>rfl) fun F=>xi F (txt e N G) (g5 e N G))
theorem g7:Gs P w K mg base (sig K) 7:=let ⟨_,_,_,_,_,_,mo,D,m1,m2,m3,m4,m5⟩:=Fs e N G;(g6 e N G).snoc rfl (bf (b9 e 6 rfl) N G (fun _ _ _ _ _ _ us hl=>match us,hl with | [_,_,_],_=>rfl) fun F=>vp F (txt e N G) (g6 e N G) mo D (Sj e N G m1 m2 m3 m4 m5))
theorem g8:Gs P w K mg base (sig K) 8:=(g7 e N G).snoc rfl (bf (b9 e 7 rfl) N G (fun _ _ _ _ _ _ us hl=>match us,hl with | [_,_],_=>rfl) fun F=>BO F (txt e N G) (g7 e N G))
theorem g9:Gs P w K mg base (sig K) 9:=(g8 e N G).snoc rfl (bf (b9 e 8 rfl) N G (fun _ _ _ _ _ _ us hl=>match us,hl with | [_,_,_,_],_=>rfl) fun F=>xl F (txt e N G) (g8 e N G))
theorem WH:Gs P w K mg base (sig K) 10:=(g9 e N G).snoc rfl (bf (b9 e 9 rfl) N G (fun _ _ _ _ _ _ us hl=>match us,hl with | [_,_,_],_=>rfl) fun F=>KZ F (txt e N G) (g9 e N G))
theorem WG:Gs P w K mg base (sig K) 11:=(WH e N G).snoc rfl (bf (b9 e 10 rfl) N G (fun _ _ _ _ _ _ us hl=>match us,hl with | [_],_=>rfl) fun F=>lF F (txt e N G) (WH e N G))
theorem WE:Gs P w K mg base (sig K) 12:=let ⟨_,_,_,_,_,_,mo,D,m1,m2,m3,m4,m5⟩:=Fs e N G;(WG e N G).snoc rfl (bf (b9 e 11 rfl) N G (fun _ _ _ _ _ _ us hl=>match us,hl with | [_],_=>rfl) fun F=>mv F (txt e N G) (WG e N G) mo D)
theorem WD:Gs P w K mg base (sig K) 13:=(WE e N G).snoc rfl (bf (b9 e 12 rfl) N G (fun _ _ _ _ _ _ us hl=>match us,hl with | [_],_=>rfl) fun F=>nQ F (txt e N G) (WE e N G))
theorem WC:Gs P w K mg base (sig K) 14:=(WD e N G).snoc rfl (bf (b9 e 13 rfl) N G (fun _ _ _ _ _ _ us hl=>match us,hl with | [_],_=>rfl) fun F=>sM F (txt e N G) (WD e N G))
theorem WB:Gs P w K mg base (sig K) 15:=(WC e N G).snoc rfl (bf (b9 e 14 rfl) N G (fun _ _ _ _ _ _ us hl=>match us,hl with | [_],_=>rfl) fun F=>nR F (txt e N G) (WC e N G))
theorem WA:Gs P w K mg base (sig K) 16:=(WB e N G).snoc rfl (bf (b9 e 15 rfl) N G (fun _ _ _ _ _ _ us hl=>match us,hl with | [_],_=>rfl) fun F=>xj F (txt e N G) (WB e N G))
theorem Wz:Gs P w K mg base (sig K) 17:=(WA e N G).snoc rfl (bf (b9 e 16 rfl) N G (fun _ _ _ _ _ _ us hl=>match us,hl with | [_],_=>rfl) fun F=>kW F (txt e N G) (WA e N G))
theorem Wy:Gs P w K mg base (sig K) 18:=(Wz e N G).snoc rfl (bf (b9 e 17 rfl) N G (fun _ _ _ _ _ _ us hl=>match us,hl with | [_],_=>rfl) fun F=>xk F (txt e N G) (Wz e N G))
theorem Wx:Gs P w K mg base (sig K) 19:=(Wy e N G).snoc rfl (bf (b9 e 18 rfl) N G (fun _ _ _ _ _ _ us hl=>match us,hl with | [_],_=>rfl) fun F=>sL F (txt e N G) (Wy e N G))
theorem Ww:Gs P w K mg base (sig K) 20:=(Wx e N G).snoc rfl (bf (b9 e 19 rfl) N G (fun _ _ _ _ _ _ us hl=>match us,hl with | [_],_=>rfl) fun F=>HE F (txt e N G) (Wx e N G))
theorem Wv:Gs P w K mg base (sig K) 21:=(Ww e N G).snoc rfl (bf (b9 e 20 rfl) N G (fun _ _ _ _ _ _ us hl=>match us,hl with | [_,_,_],_=>rfl) fun F=>vw F (txt e N G) (Ww e N G))
theorem Wu:Gs P w K mg base (sig K) 22:=(Wv e N G).snoc rfl (bf (b9 e 21 rfl) N G (fun _ _ _ _ _ _ us hl=>match us,hl with | [_,_],_=>rfl) fun F=>xg F (txt e N G) (Wv e N G))
theorem Wt:Gs P w K mg base (sig K) 23:=(Wu e N G).snoc rfl (bf (b9 e 22 rfl) N G (fun _ _ _ _ _ _ us hl=>match us,hl with | [_],_=>rfl) fun F=>vq F (txt e N G) (Wu e N G))
theorem Ws:Gs P w K mg base (sig K) 24:=(Wt e N G).snoc rfl (bf (b9 e 23 rfl) N G (fun _ _ _ _ _ _ us hl=>match us,hl with | [_],_=>rfl) fun F=>nS F (txt e N G) (Wt e N G))
theorem Wr:Gs P w K mg base (sig K) 25:=(Ws e N G).snoc rfl (bf (b9 e 24 rfl) N G (fun _ _ _ _ _ _ us hl=>match us,hl with | [_],_=>rfl) fun F=>kU F (txt e N G) (Ws e N G))
theorem Wq:Gs P w K mg base (sig K) 26:=(Wr e N G).snoc rfl (bf (b9 e 25 rfl) N G (fun _ _ _ _ _ _ us hl=>match us,hl with | [_],_=>rfl) fun F=>BN F (txt e N G) (Wr e N G))
theorem Wo:Gs P w K mg base (sig K) 27:=(Wq e N G).snoc rfl (bf (b9 e 26 rfl) N G (fun _ _ _ _ _ _ us hl=>match us,hl with | [_,_,_],_=>rfl) fun F=>xh F (txt e N G) (Wq e N G))
theorem Wn:Gs P w K mg base (sig K) 28:=(Wo e N G).snoc rfl (bf (b9 e 27 rfl) N G (fun _ _ _ _ _ _ us hl=>match us,hl with | [_,_],_=>rfl) fun F=>sR F (txt e N G) (Wo e N G))
theorem Wm:Gs P w K mg base (sig K) 29:=(Wn e N G).snoc rfl (bf (b9 e 28 rfl) N G (fun _ _ _ _ _ _ us hl=>match us,hl with | [_],_=>rfl) fun F=>sP F (txt e N G) (Wn e N G))
theorem Wl:Gs P w K mg base (sig K) 30:=(Wm e N G).snoc rfl (bf (b9 e 29 rfl) N G (fun _ _ _ _ _ _ us hl=>match us,hl with | [_,_],_=>rfl) fun F=>vz F (txt e N G) (Wm e N G))
theorem Wj:Gs P w K mg base (sig K) 31:=(Wl e N G).snoc rfl (bf (b9 e 30 rfl) N G (fun _ _ _ _ _ _ us hl=>match us,hl with | [_],_=>rfl) fun F=>sQ F (txt e N G) (Wl e N G))
theorem Wi:Gs P w K mg base (sig K) 32:=(Wj e N G).snoc rfl (bf (b9 e 31 rfl) N G (fun _ _ _ _ _ _ us hl=>match us,hl with | [_,_,_],_=>rfl) fun F=>vy F (txt e N G) (Wj e N G))
theorem Wh:Gs P w K mg base (sig K) 33:=(Wi e N G).snoc rfl (bf (b9 e 32 rfl) N G (fun _ _ _ _ _ _ us hl=>match us,hl with | [_,_,_],_=>rfl) fun F=>sN F (txt e N G) (Wi e N G))
theorem Wg:Gs P w K mg base (sig K) 34:=(Wh e N G).snoc rfl (bf (b9 e 33 rfl) N G (fun _ _ _ _ _ _ us hl=>match us,hl with | [_,_,_,_,_],_=>rfl) fun F=>qP F (txt e N G) (Wh e N G))
theorem Wf:Gs P w K mg base (sig K) 35:=(Wg e N G).snoc rfl (bf (b9 e 34 rfl) N G (fun _ _ _ _ _ _ us hl=>match us,hl with | [_,_],_=>rfl) fun F=>pD F (txt e N G) (Wg e N G))
theorem We:Gs P w K mg base (sig K) 36:=(Wf e N G).snoc rfl (bf (b9 e 35 rfl) N G (fun _ _ _ _ _ _ us hl=>match us,hl with | [_,_],_=>rfl) fun F=>sT F (txt e N G) (Wf e N G))
theorem Wd:Gs P w K mg base (sig K) 37:=(We e N G).snoc rfl (bf (b9 e 36 rfl) N G (fun _ _ _ _ _ _ us hl=>match us,hl with | [_],_=>rfl) fun F=>sS F (txt e N G) (We e N G))
theorem Zp:Gs P w K mg base (sig K) 38:=(Wd e N G).snoc rfl (bf (b9 e 37 rfl) N G (fun _ _ _ _ _ _ us hl=>match us,hl with | [_,_],_=>rfl) fun F=>pE F (txt e N G) (Wd e N G))
end
theorem walk{l:PySem.W.OpenLaw}{q:Program}{loose:List Str}{XP:(Str->Option Value)->Heap->Prop}{d:DefRec}(hn:l.most=some 63)(sW:d.params.defaults=[])(hd:d.name = "law") :
  PySem.W.WalkO q loose XP (fun w h=>∃K:PySem.W.Frag,K.In h/\Ok K w) l.row.toRowW d [] (fun f vs=>PySem.call f vs):=
 FY (n:=63) (k:=6) (i:=38) (sp:=fun K=>gb lH (Ah (KL K))) hn (by decide) sW ⟨rfl,by decide,by decide⟩ hd rfl (fun _ _ _ _ _ _ _ _=>.of_eq rfl) (fun e N G F=>K0 F (txt e N G) (Zp e N G)) (fun _ _ a ns hl hS=>Bd hS fun d hd=>⟨ns,d,rfl,hd.imp id fun z=>⟨a,z.1,z.2⟩,by omega,rfl⟩)
end ON
section
open PySem PySem.W PyProof.Rows VS
set_option maxHeartbeats 0
namespace ON
abbrev lw:=PySem.Challenge.rw_oncenames_k18_whole_unwanted_is_unneeded
abbrev qw:Program:=view PySem.Challenge.pw_oncenames_k18_whole_unwanted_is_unneeded ((List.range 50).filter fun i=>!([0,4,22,30,36]:List Nat).contains i)
theorem Xs:x9 false lw.prog 4104 xu (fun _=>true):=fun _=>by kernel_rfl
theorem Xr:x9 true lw.prog 4104 xu (fun _=>true):=fun _=>by kernel_rfl
theorem Xp:x9 false lw.prog 4104 (sees qw ["OPS"]) (fun _=>openGood qw ["OPS"]):=fun _=>by kernel_rfl
theorem Xo:x9 true lw.prog 4104 (sees qw ["OPS"]) (fun _=>openGood qw ["OPS"]):=fun _=>by kernel_rfl
theorem Xn:x9 false lw.prog 4104 (fun _ _ s=>Cf Lw Bw Cw true (KH s.heap)) (Cm top Lw Bw Cw true):=fun _=>by kernel_rfl
theorem Xm:x9 true lw.prog 4104 (fun _ _ s=>Cf Lw Bw Cw true (KH s.heap)) (Cm top Lw Bw Cw true):=fun _=>by kernel_rfl
theorem tW:lw.wellSaid=true:=(congrFun Fast.te9446332074065402090 _).trans (by kernel_rfl)
theorem tD:(chainsOk qw&&opensWell lw.prog&&(frees lw.row.toRowW&&true))=true:=by kernel_rfl
theorem tE:defOf qw lw.name=some (dr (top 49),[]):=by kernel_rfl
theorem tF:lw.prog.bare:=⟨rfl,rfl,rfl,rfl,rfl,by kernel_rfl⟩
theorem tG:lw.row.toRowW.promised:=by w_witness2
end ON
end
set_option maxRecDepth 100000 in
set_option maxHeartbeats 0 in
theorem PySem.Challenge.cw_oncenames_k18_whole_unwanted_is_unneeded_holds : PySem.Challenge.rw_oncenames_k18_whole_unwanted_is_unneeded.Holds :=
 VS.hold ON.tW (by kernel_rfl) (by kernel_rfl) (fun _=>by kernel_rfl) ⟨ON.Xs,ON.Xr⟩ ⟨ON.Xp,ON.Xo⟩ ⟨ON.Xn,ON.Xm⟩ ON.tE (by kernel_rfl) (by kernel_rfl) ON.tD ON.tF ON.tG (ON.walk rfl (by kernel_rfl) (by kernel_rfl)) rfl
#print axioms PySem.Challenge.cw_oncenames_k18_whole_unwanted_is_unneeded_holds
