import PyProof.Rows.All
import Wide.All
import OpenK.AllK
import Wide.FinOn
import Lean
import PyProof.EqAt
import PyProof.EqKinds
import PyProof.TupleCall
import PySem.Challenge.RW_oncenames_k01_runs
set_option Elab.async false
set_option linter.all false
set_option maxRecDepth 100000
namespace L2
open PySem PySem.Spec PyProof.Rows
abbrev Key := Sum Int Str
def keyIs : Key → Value → Bool
  | .inl k, v => Value.isInt k v
  | .inr x, v => Value.isStrOf x v
def keyH (w : World) : Key → Int
  | .inl k => hashInt k
  | .inr x => hashStr w x
theorem keyIs_shape : ∀ {k : Key} {v : Value}, keyIs k v = true → (∃ i t, k = Sum.inl i ∧ v = Value.int i t) ∨ (∃ x t, k = Sum.inr x ∧ v = Value.str x t)
  | .inl i, v, h => by
    obtain ⟨t, e⟩ := Value.isInt_shape (k := i) (v := v) h
    exact .inl ⟨i, t, rfl, e⟩
  | .inr x, v, h => by
    obtain ⟨t, e⟩ := Value.isStrOf_shape (x := x) (v := v) h
    exact .inr ⟨x, t, rfl, e⟩
theorem keyIs_int (i : Int) (t : Tok) : keyIs (.inl i) (.int i t) = true := by simp [keyIs, Value.isInt]
theorem keyIs_str (x : Str) (t : Tok) : keyIs (.inr x) (.str x t) = true := by simp [keyIs, Value.isStrOf]
theorem key_ll (a b : Int) : decide ((Sum.inl a : Key) = Sum.inl b) = (a == b) := by
  by_cases e : a = b
  · subst e; simp
  · have h : ¬ (Sum.inl a : Key) = Sum.inl b := fun q => e (Sum.inl.inj q)
    rw [decide_eq_false h]
    exact (beq_eq_false_iff_ne.mpr e).symm
theorem key_rr (a b : Str) : decide ((Sum.inr a : Key) = Sum.inr b) = decide (a = b) := by
  by_cases e : a = b
  · subst e; simp
  · have h : ¬ (Sum.inr a : Key) = Sum.inr b := fun q => e (Sum.inr.inj q)
    rw [decide_eq_false h, decide_eq_false e]
theorem key_lr (a : Int) (b : Str) : decide ((Sum.inl a : Key) = Sum.inr b) = false := decide_eq_false (fun q => nomatch q)
theorem key_rl (a : Str) (b : Int) : decide ((Sum.inr a : Key) = Sum.inl b) = false := decide_eq_false (fun q => nomatch q)
def mixKind (prog : Program) (w : World) : PySem.KeyKind prog w Key where
  is := keyIs
  hash := keyH w
  inj := fun v a b ha hb => by
    rcases keyIs_shape ha with ⟨i, t, rfl, rfl⟩ | ⟨x, t, rfl, rfl⟩
    · rcases keyIs_shape hb with ⟨j, u, rfl, e⟩ | ⟨y, u, rfl, e⟩
      · injection e with e1 _; rw [e1]
      · exact nomatch e
    · rcases keyIs_shape hb with ⟨j, u, rfl, e⟩ | ⟨y, u, rfl, e⟩
      · exact nomatch e
      · injection e with e1 _; rw [e1]
  byValue := fun k v h => by
    rcases keyIs_shape h with ⟨i, t, rfl, rfl⟩ | ⟨x, t, rfl, rfl⟩ <;> rfl
  pyHash := fun hv h => by
    rcases keyIs_shape hv with ⟨i, t, rfl, rfl⟩ | ⟨x, t, rfl, rfl⟩
    · exact wpAny_pyHash_int h
    · exact wpAny_pyHash_str h
  eqBool := fun hu hv h => by
    rcases keyIs_shape hu with ⟨i, t, rfl, rfl⟩ | ⟨x, t, rfl, rfl⟩
    · rcases keyIs_shape hv with ⟨j, u, rfl, rfl⟩ | ⟨y, u, rfl, rfl⟩
      · rw [key_ll] at h; exact wpAny_eqBool_int h
      · rw [key_lr] at h; exact SeqAt.EqAt.int_str i t y u _ _ _ _ h
    · rcases keyIs_shape hv with ⟨j, u, rfl, rfl⟩ | ⟨y, u, rfl, rfl⟩
      · rw [key_rl] at h; exact SeqAt.EqAt.str_int x t j u _ _ _ _ h
      · rw [key_rr] at h; exact wpAny_eqBool_str h
  «strs» := fun k x t v h => by
    rcases keyIs_shape h with ⟨i, u, rfl, e⟩ | ⟨y, u, rfl, e⟩
    · exact nomatch e
    · injection e with e1 _
      subst e1
      cases v <;> rfl
theorem mixKind_int (prog : Program) (w : World) (i : Int) (t : Tok) : (mixKind prog w).is (.inl i) (.int i t) = true := keyIs_int i t
theorem mixKind_str (prog : Program) (w : World) (x : Str) (t : Tok) : (mixKind prog w).is (.inr x) (.str x t) = true := keyIs_str x t
end L2
namespace L2
open PySem PySem.Spec PyProof.Rows
inductive V where
  | non | bl (b : Bool) | int (i : Int) | str (x : Str) | byt (b : Array UInt8) | flt (b : UInt64) | ref (a : Addr) | ty (n : String)
  deriving DecidableEq
def RelV : V → Value → Prop
  | .non, u => u = Value.none
  | .bl b, u => u = Value.bool b
  | .int i, u => ∃ t, u = Value.int i t
  | .str x, u => ∃ t, u = Value.str x t
  | .byt b, u => ∃ t, u = Value.bytes b t
  | .flt b, u => ∃ t, u = Value.float b t
  | .ref a, u => u = Value.ref a
  | .ty n, u => u = Value.type n
abbrev Vals : List V → List Value → Prop := Paired RelV
theorem Vals.length {xs : List V} {us : List Value} (r : Vals xs us) : xs.length = us.length := Paired.length r
theorem Vals.get : ∀ {xs : List V} {us : List Value} {i : Nat} {x : V}, Vals xs us → xs[i]? = some x → ∃ u, us[i]? = some u ∧ RelV x u
  | _, _, _, _, .nil, e => by simp at e
  | _, _, 0, _, .cons r _, e => by simp at e; subst e; exact ⟨_, rfl, r⟩
  | _, _, i + 1, x, .cons _ t, e => by
    obtain ⟨u, h1, h2⟩ := Vals.get (i := i) (x := x) t (by simpa using e)
    exact ⟨u, by simpa using h1, h2⟩
theorem Vals.set {x : V} {u : Value} (r : RelV x u) : ∀ {xs : List V} {us : List Value} (i : Nat), Vals xs us → Vals (xs.set i x) (us.set i u)
  | _, _, _, .nil => .nil
  | _, _, 0, .cons _ t => .cons r t
  | _, _, i + 1, .cons q t => .cons q (Vals.set r i t)
theorem Vals.append : ∀ {xs ys : List V} {us ws : List Value}, Vals xs us → Vals ys ws → Vals (xs ++ ys) (us ++ ws)
  | _, _, _, _, .nil, s => s
  | _, _, _, _, .cons r t, s => .cons r (Vals.append t s)
theorem Vals.take : ∀ {xs : List V} {us : List Value} (n : Nat), Vals xs us → Vals (xs.take n) (us.take n)
  | _, _, 0, _ => .nil
  | _, _, _ + 1, .nil => .nil
  | _, _, n + 1, .cons r t => .cons r (Vals.take n t)
theorem Vals.drop : ∀ {xs : List V} {us : List Value} (n : Nat), Vals xs us → Vals (xs.drop n) (us.drop n)
  | _, _, 0, r => r
  | _, _, _ + 1, .nil => .nil
  | _, _, n + 1, .cons _ t => Vals.drop n t
theorem Vals.none_of : ∀ {xs : List V} {us : List Value} {i : Nat}, Vals xs us → xs[i]? = none → us[i]? = none := fun {xs us i} r e => by
  have h1 := r.length
  have h2 : xs.length ≤ i := List.getElem?_eq_none_iff.mp e
  exact List.getElem?_eq_none_iff.mpr (by omega)
def RelO : Option V → Option Value → Prop
  | some v, some u => RelV v u
  | none, none => True
  | _, _ => False
def KV {κ : Type} : List (κ × V) → List (κ × Value) → Prop := Paired fun (p : κ × V) (q : κ × Value) => p.1 = q.1 ∧ RelV p.2 q.2
def kV : Key → V
  | .inl i => .int i
  | .inr x => .str x
inductive HO where
  | lst (xs : List V)
  | tup (xs : List V)
  | dK (kvs : List (Key × V)) | dT (kvs : List (List Key × V))
  | set (S : Int → Bool) (n : Nat)
  | ins (C dx : Addr) (fs : List (Str × V))
  | own (x : Addr)
  | xd (fs : List (Str × V))
  | met (f x : Addr)
  | rng (lo hi : Int)
  | frz (o : Obj) (u : HO)
  | tbl (ps : Array Value)
  | ext (φ : Heap → Prop)
abbrev Hp := Addr → Option HO
def upd (H : Hp) (a : Addr) (o : HO) : Hp := fun b => if b = a then some o else H b
theorem upd_same {H : Hp} {a : Addr} {o : HO} : upd H a o a = some o := by unfold upd; rw [if_pos rfl]
theorem upd_ne {H : Hp} {a b : Addr} {o : HO} (h : b ≠ a) : upd H a o b = H b := by unfold upd; rw [if_neg h]
theorem ne_of {H : Hp} {a b : Addr} {o u : HO} (h : H a = some o) (h' : H b = some u) (d : o ≠ u) : a ≠ b := by
  intro e; subst e; rw [h] at h'; exact d (Option.some.inj h')
theorem ne_of_none {H : Hp} {a b : Addr} {o : HO} (h : H a = some o) (h' : H b = none) : a ≠ b := by
  intro e; subst e; rw [h] at h'; cases h'
section
variable (P : Program) (w : World)
def ObjOk (H : Hp) (h : Heap) (a : Addr) : HO → Prop
  | .lst xs => xs.length ≤ sizeLine ∧ ∃ (its : List Value) (n : Nat), Vals xs its ∧ h.get? a = some { cls := .type "list", data := .seq its.toArray n }
  | .tup xs => xs.length ≤ sizeLine ∧ ∃ its : List Value, Vals xs its ∧ IsTup h a its.toArray
  | .dK kvs => kvs.length ≤ sizeLine ∧ (a == sysModules) = false ∧ ∃ vs, KV kvs vs ∧ h.DictOf (mixKind P w) a vs
  | .dT kvs => kvs.length ≤ sizeLine ∧ (a == sysModules) = false ∧ ∃ xs : List (List Key × Addr × Value),
      Paired (fun (p : List Key × V) (q : List Key × Addr × Value) => p.1 = q.1 ∧ H q.2.1 = some (.tup (p.1.map kV)) ∧ RelV p.2 q.2.2) kvs xs ∧
      ∃ o es ep, h.get? a = some o ∧ o.ExactDict ∧ o.data = .dict es ep ∧ es.toList = xs.map (entryOfKey (tupleKind (mixKind P w))) ∧ (xs.map (·.1)).Nodup
  | .set S n => h.SetOf (intKind P w) a S n
  | .ins C dx fs => H dx = some (.own a) ∧ fs.length ≤ 1000 ∧ dx ≠ a ∧ h.get? a = some (PySem.W.instObj C dx) ∧
      ∃ mA, h.Ns1 dx mA ∧ (∀ f, RelO (fs.lookup f) (mA f)) ∧ PySem.Within mA (fs.map (·.1))
  | .own _ => ∃ o, h.get? a = some o
  | .xd fs => ∃ mA, h.Ns1 a mA ∧ ∀ f, RelO (fs.lookup f) (mA f)
  | .rng lo hi => ∃ t u v, h.get? a = some { cls := .type "range", data := .fields #[.int lo t, .int hi u, .int 1 v] }
  | .frz o u => h.get? a = some o ∧ ObjOk H h a u
  | .tbl ps => h.get? a = some { cls := .none, data := .fields ps }
  | .met f x => h.get? a = some (PySem.W.methodObj (.ref f) (.ref x))
  | .ext φ => φ h ∧ (∃ o, h.get? a = some o) ∧ ∀ h1 h2 : Heap, φ h1 → (∀ o, h1.get? a = some o → h2.get? a = some o) → φ h2
def HOk (H : Hp) (h : Heap) : Prop := ∀ a o, H a = some o → ObjOk P w H h a o
end
section
variable {P : Program} {w : World} {H H' : Hp} {h h' : Heap} {a : Addr} {o : HO}
theorem ObjOk.lt (x : ObjOk P w H h a o) : a < h.objs.size := by
  cases o with
  | lst xs => obtain ⟨_, _, _, _, e⟩ := x; exact Heap.lt_size e
  | tup xs => obtain ⟨_, _, _, p⟩ := x; exact p.lt
  | dK kvs => obtain ⟨_, _, _, _, o, _, _, e, _⟩ := x; exact Heap.lt_size e
  | dT kvs => obtain ⟨_, _, _, _, o, _, _, e, _⟩ := x; exact Heap.lt_size e
  | set S n => obtain ⟨o, _, _, _, e, _⟩ := x; exact Heap.lt_size e
  | ins C dx fs => obtain ⟨_, _, _, e, _⟩ := x; exact Heap.lt_size e
  | own y => obtain ⟨_, e⟩ := x; exact Heap.lt_size e
  | xd fs => obtain ⟨_, ⟨_, _, _, e, _⟩, _⟩ := x; exact Heap.lt_size e
  | rng lo hi => obtain ⟨_, _, _, e⟩ := x; exact Heap.lt_size e
  | frz ob u => obtain ⟨e, _⟩ := x; exact Heap.lt_size e
  | tbl ps => exact Heap.lt_size (show h.get? a = some _ from x)
  | met f y => exact Heap.lt_size (show h.get? a = some _ from x)
  | ext φ => obtain ⟨_, ⟨_, e⟩, _⟩ := x; exact Heap.lt_size e
theorem Paired.mapP {α β : Type} {F G : α → β → Prop} : ∀ {l₁ : List α} {l₂ : List β}, Paired F l₁ l₂ → (∀ a b, F a b → G a b) → Paired G l₁ l₂
  | _, _, .nil, _ => .nil
  | _, _, .cons r t, f => .cons (f _ _ r) (Paired.mapP t f)
theorem ObjOk.stay (x : ObjOk P w H h a o) (k : ∀ b u, (b = a ∨ H b = some (.own a)) → h.get? b = some u → h'.get? b = some u)
    (ho : ∀ b, H b = some (.own a) → H' b = some (.own a)) (ht : ∀ b xs, H b = some (.tup xs) → H' b = some (.tup xs)) : ObjOk P w H' h' a o := by
  induction o with
  | lst xs => obtain ⟨z, its, n, r, e⟩ := x; exact ⟨z, its, n, r, k _ _ (.inl rfl) e⟩
  | tup xs => obtain ⟨z, its, r, ob, e, c⟩ := x; exact ⟨z, its, r, ob, k _ _ (.inl rfl) e, c⟩
  | dK kvs => obtain ⟨z, y, vs, r, ob, es, ep, e, c⟩ := x; exact ⟨z, y, vs, r, ob, es, ep, k _ _ (.inl rfl) e, c⟩
  | dT kvs =>
    obtain ⟨z, y, xs, r, ob, es, ep, e, c⟩ := x
    exact ⟨z, y, xs, Paired.mapP r fun p q z => ⟨z.1, ht _ _ z.2.1, z.2.2⟩, ob, es, ep, k _ _ (.inl rfl) e, c⟩
  | set S n => obtain ⟨ob, es, ep, t, e, c⟩ := x; exact ⟨ob, es, ep, t, k _ _ (.inl rfl) e, c⟩
  | ins C dx fs =>
    obtain ⟨d, z, ne, e, mA, ⟨od, es, ep, e2, c⟩, r⟩ := x
    exact ⟨ho _ d, z, ne, k _ _ (.inl rfl) e, mA, ⟨od, es, ep, k _ _ (.inr d) e2, c⟩, r⟩
  | own y => obtain ⟨ob, e⟩ := x; exact ⟨ob, k _ _ (.inl rfl) e⟩
  | xd fs => obtain ⟨mA, ⟨od, es, ep, e, c⟩, r⟩ := x; exact ⟨mA, ⟨od, es, ep, k _ _ (.inl rfl) e, c⟩, r⟩
  | rng lo hi => obtain ⟨t, u, v, e⟩ := x; exact ⟨t, u, v, k _ _ (.inl rfl) e⟩
  | frz ob u ih => obtain ⟨e, q⟩ := x; exact ⟨k _ _ (.inl rfl) e, ih q⟩
  | tbl ps =>
    have e : h.get? a = some { cls := .none, data := .fields ps } := x
    show h'.get? a = some { cls := .none, data := .fields ps }
    exact k a _ (.inl rfl) e
  | met f y =>
    have e : h.get? a = some (PySem.W.methodObj (.ref f) (.ref y)) := x
    show h'.get? a = some (PySem.W.methodObj (.ref f) (.ref y))
    exact k a _ (.inl rfl) e
  | ext φ => obtain ⟨p, ⟨o, e⟩, st⟩ := x; exact ⟨st _ _ p fun o q => k _ _ (.inl rfl) q, ⟨o, k _ _ (.inl rfl) e⟩, st⟩
theorem HOk.lt (x : HOk P w H h) (e : H a = some o) : a < h.objs.size := (x a o e).lt
theorem HOk.fresh (x : HOk P w H h) (e : h.objs.size ≤ a) : H a = none := by
  cases q : H a with
  | none => rfl
  | some u => exact absurd (Nat.lt_of_lt_of_le (x.lt q) e) (Nat.lt_irrefl _)
theorem HOk.kept (x : HOk P w H h) (k : ∀ b u, h.get? b = some u → h'.get? b = some u) : HOk P w H h' := fun a o e =>
  (x a o e).stay (fun b u _ q => k b u q) (fun _ q => q) fun _ _ q => q
theorem HOk.laid (x : HOk P w H h) (k : ∀ b u, h.get? b = some u → h'.get? b = some u) (hp : h.objs.size ≤ a) (new : ObjOk P w (upd H a o) h' a o) : HOk P w (upd H a o) h' := fun b u e => by
  have hn := x.fresh hp
  by_cases hb : b = a
  · subst hb; rw [upd_same] at e; cases e; exact new
  · rw [upd_ne hb] at e
    exact (x b u e).stay (fun c v _ q => k c v q) (fun c q => by rw [upd_ne (ne_of_none q hn)]; exact q) fun c xs q => by rw [upd_ne (ne_of_none q hn)]; exact q
end
def Rd (H : Hp) (a : Addr) (u : HO) : Prop := H a = some u ∨ ∃ o, H a = some (.frz o u)
theorem Rd.of {H : Hp} {a : Addr} {u : HO} (h : H a = some u) : Rd H a u := .inl h
theorem Rd.ok {P : Program} {w : World} {H : Hp} {h : Heap} {a : Addr} {u : HO} (r : Rd H a u) (x : HOk P w H h) : ObjOk P w H h a u := by
  rcases r with r | ⟨o, r⟩
  · exact x a u r
  · obtain ⟨_, q⟩ := x a _ r
    exact q
def Mut : Option HO → Prop
  | some (.lst _) => True
  | some (.dK _) => True
  | some (.dT _) => True
  | some (.set _ _) => True
  | some (.ins _ _ _) => True
  | some (.ext _) => True
  | _ => False
section
variable {P : Program} {w : World} {H : Hp} {h h' : Heap} {x e : Addr} {o' : HO}
theorem HOk.write (ok : HOk P w H h) (mu : Mut (H x)) (he : e = x ∨ H e = some (.own x)) (k : ∀ b u, b ≠ e → h.get? b = some u → h'.get? b = some u) (heo : ∃ u, h'.get? e = some u)
    (new : ObjOk P w (upd H x o') h' x o') : HOk P w (upd H x o') h' := fun b u q => by
  have nown : ∀ c y, H c = some (.own y) → c ≠ x := fun c y r z => by subst z; rw [r] at mu; exact mu
  have ntup : ∀ c xs, H c = some (.tup xs) → c ≠ x := fun c xs r z => by subst z; rw [r] at mu; exact mu
  by_cases hb : b = x
  · subst hb; rw [upd_same] at q; cases q; exact new
  · rw [upd_ne hb] at q
    by_cases hbe : b = e
    · have q' : H b = some (.own x) := by
        rcases he with z | z
        · exact absurd (hbe.trans z) hb
        · rw [hbe]; exact z
      rw [q] at q'; cases q'
      obtain ⟨v, hv⟩ := heo
      exact ⟨v, by rw [hbe]; exact hv⟩
    · refine (ok b u q).stay (fun c v hc r => k c v ?_ r) (fun c r => by rw [upd_ne (nown c b r)]; exact r) fun c xs r => by rw [upd_ne (ntup c xs r)]; exact r
      rcases hc with rfl | hc
      · exact hbe
      · rintro rfl
        rcases he with z | z
        · exact nown c b hc z
        · rw [hc] at z; cases z; exact hb rfl
end
structure Un (fs ex : List Addr) (H H' : Hp) (h h' : Heap) : Prop where
  keep : ∀ b o, h.get? b = some o → H b = none → b ∉ fs → b ∉ ex → h'.get? b = some o
  slot : ∀ b o, h.get? b = some o → H b = none → b ∈ fs → b ∉ ex → ∃ sl, h'.get? b = some { o with slots := sl }
  free : ∀ b o, h.get? b = some o → H b = none → b ∉ ex → H' b = none
  there : ∀ b o, h.get? b = some o → b ∉ ex → ∃ o', h'.get? b = some o'
  tups : ∀ b xs, H b = some (.tup xs) → H' b = some (.tup xs)
  frzs : ∀ b o u, H b = some (.frz o u) → H' b = some (.frz o u)
  tbls : ∀ b ps, H b = some (.tbl ps) → ∃ more, H' b = some (.tbl (ps ++ more))
section
variable {fs fs' ex ex' : List Addr} {H H1 H2 : Hp} {h h1 h2 h' : Heap} {a x e : Addr} {o : HO}
theorem Un.any (u : Un fs ex H H1 h h1) {b : Addr} {ob : Obj} (q : h.get? b = some ob) (n : H b = none) (hx : b ∉ ex) : ∃ sl, h1.get? b = some { ob with slots := sl } := by
  by_cases hb : b ∈ fs
  · exact u.slot b ob q n hb hx
  · exact ⟨ob.slots, u.keep b ob q n hb hx⟩
theorem Un.trans (a : Un fs ex H H1 h h1) (b : Un fs ex H1 H2 h1 h2) : Un fs ex H H2 h h2 where
  keep := fun c ob q n hc hx => b.keep c ob (a.keep c ob q n hc hx) (a.free c ob q n hx) hc hx
  slot := fun c ob q n hc hx => by
    obtain ⟨sl, e1⟩ := a.slot c ob q n hc hx
    obtain ⟨sl', e2⟩ := b.slot c _ e1 (a.free c ob q n hx) hc hx
    exact ⟨sl', e2⟩
  free := fun c ob q n hx => by
    obtain ⟨o', e1⟩ := a.there c ob q hx
    exact b.free c o' e1 (a.free c ob q n hx) hx
  there := fun c ob q hx => by
    obtain ⟨o', e1⟩ := a.there c ob q hx
    exact b.there c o' e1 hx
  tups := fun c xs q => b.tups c xs (a.tups c xs q)
  frzs := fun c ob xs q => b.frzs c ob xs (a.frzs c ob xs q)
  tbls := fun c ps q => by
    obtain ⟨m1, e1⟩ := a.tbls c ps q
    obtain ⟨m2, e2⟩ := b.tbls c _ e1
    exact ⟨m1 ++ m2, by rw [e2, Array.append_assoc]⟩
theorem Un.kept (k : ∀ b u, h.get? b = some u → h'.get? b = some u) : Un fs ex H H h h' :=
  ⟨fun b ob q _ _ _ => k b ob q, fun b ob q _ _ _ => ⟨ob.slots, k b ob q⟩, fun _ _ _ n _ => n, fun b ob q _ => ⟨ob, k b ob q⟩, fun _ _ q => q, fun _ _ _ q => q, fun _ ps q => ⟨#[], by rw [q]; simp⟩⟩
theorem Un.refl : Un fs ex H H h h := Un.kept fun _ _ q => q
theorem Un.laid (k : ∀ b u, h.get? b = some u → h'.get? b = some u) (hp : h.objs.size ≤ a) (hn : H a = none) : Un fs ex H (upd H a o) h h' where
  keep := fun b u q _ _ _ => k b u q
  slot := fun b u q _ _ _ => ⟨u.slots, k b u q⟩
  free := fun b u q n _ => by rw [upd_ne (Nat.ne_of_lt (Nat.lt_of_lt_of_le (Heap.lt_size q) hp))]; exact n
  there := fun b u q _ => ⟨u, k b u q⟩
  tups := fun b xs q => by rw [upd_ne (ne_of_none q hn)]; exact q
  frzs := fun b u xs q => by rw [upd_ne (ne_of_none q hn)]; exact q
  tbls := fun b ps q => ⟨#[], by rw [upd_ne (ne_of_none q hn), q]; simp⟩
theorem Un.write (mu : Mut (H x)) (he : e = x ∨ H e = some (.own x)) (k : ∀ b u, b ≠ e → h.get? b = some u → h'.get? b = some u) (heo : ∃ u, h'.get? e = some u) : Un fs ex H (upd H x o) h h' := by
  have hx : ∀ b, H b = none → b ≠ x := fun b n z => by subst z; rw [n] at mu; exact mu
  have hb : ∀ b, H b = none → b ≠ e := fun b n z => by
    subst z
    rcases he with r | r
    · exact hx b n r
    · rw [n] at r; cases r
  have hm : ∀ b u, H b = some u → ¬ Mut (some u) → b ≠ x := fun b u q nm z => by subst z; rw [q] at mu; exact nm mu
  refine ⟨fun b u q n _ _ => k b u (hb b n) q, fun b u q n _ _ => ⟨u.slots, k b u (hb b n) q⟩, fun b u q n _ => by rw [upd_ne (hx b n)]; exact n, fun b u q _ => ?_,
    fun b xs q => by rw [upd_ne (hm b _ q fun z => z)]; exact q, fun b u xs q => by rw [upd_ne (hm b _ q fun z => z)]; exact q, fun b ps q => ⟨#[], by rw [upd_ne (hm b _ q fun z => z), q]; simp⟩⟩
  by_cases hbe : b = e
  · subst hbe; exact heo
  · exact ⟨u, k b u hbe q⟩
theorem Un.mono (u : Un fs ex H H1 h h1) (hs : ∀ b ∈ fs, b ∈ fs') (hx : ∀ b ∈ ex, b ∈ ex') : Un fs' ex' H H1 h h1 :=
  ⟨fun b ob q n hb he => u.keep b ob q n (fun z => hb (hs b z)) fun z => he (hx b z), fun _ _ q n _ he => u.any q n fun z => he (hx _ z), fun b ob q n he => u.free b ob q n fun z => he (hx b z), fun b ob q he => u.there b ob q fun z => he (hx b z), u.tups, u.frzs, u.tbls⟩
end
def trk (h : Heap) (H : Hp) : List Addr := (List.range h.objs.size).filter fun a => (H a).isSome
def hidT (h : Heap) (H : Hp) : Heap := PySem.W.hideAll h (trk h H)
theorem hidT_size (h : Heap) (H : Hp) : (hidT h H).objs.size = h.objs.size := PySem.W.hideAll_size _ _
theorem hidT_get {h : Heap} {H : Hp} {b : Addr} {o : Obj} (e : h.get? b = some o) (n : H b = none) : (hidT h H).get? b = some o :=
  PySem.W.hideAll_get _ e fun hm => by
    have q : (H b).isSome = true := (List.mem_filter.mp hm).2
    rw [n] at q; simp at q
theorem of_hidT {h : Heap} {H : Hp} {b : Addr} {o : Obj} (e : (hidT h H).get? b = some o) : h.get? b = some o ∧ H b = none := by
  have e' : h.get? b = some o := PySem.W.of_hideAll (trk h H) e
  refine ⟨e', ?_⟩
  cases q : H b with
  | none => rfl
  | some x =>
    have hm : b ∈ trk h H := List.mem_filter.mpr ⟨List.mem_range.mpr (Heap.lt_size e'), by simp [q]⟩
    have z : (hidT h H).get? b = none := PySem.W.hideAll_none (trk h H) hm
    rw [z] at e; cases e
def allNews (g h : Heap) (L : Addr) : List (Addr × Obj) := (List.range h.objs.size).filterMap fun a => if a = L ∨ (g.get? a).isSome = true then none else (h.get? a).map fun o => (a, o)
def rest (g h : Heap) (L d : Addr) : List (Addr × Obj) := (allNews g h L).filter fun p => decide (p.1 ≠ d)
end L2
namespace L2
open PySem PySem.Spec PyProof.Rows
structure Mod (K : PySem.W.Frag) (mg : Str → Option Value) (base : Heap) : Prop where
  kin : K.In base
  glob : base.Ns mainGlobals mg
  blt : ∃ mb, base.Ns builtinsNs mb ∧ ∀ x : Str, x ≠ "__name__" → mb x = bootBuiltins x
  nolimit : base.NoLimit
/-- the context: a def's body (or a comprehension's block) running. base: fixed through the whole law; s₀, H₀: the entry; outer: the frames whose slots others may change (a def's callers); stack: all frames that run;
   ex: iterators that were made ahead of the entry and are walked here (a comprehension's); fn: the names whose cells were made at the entry (a def: all; a comprehension's block: its own); calm: not within an except suite; pn: pins that every state bears; xe: what is wanted of an exception that leaves the code -/
structure Cx where
  prog : Program
  w : World
  K : PySem.W.Frag
  mg : Str → Option Value
  base : Heap
  A : Around
  N : List Str
  s₀ : Shared
  H₀ : Hp
  env : Env
  outer : List Env
  stack : List Env
  ex : List Addr
  fn : Str → Bool
  calm : Bool
  pn : List (Addr × Obj)
  xe : Value → Shared → Prop
def frs (l : List Env) : List Addr := l.filterMap (·.frame)
abbrev Cx.fs (X : Cx) : List Addr := frs X.outer
def Vis (sc : Scope) (x : Str) : Prop := sc.names.lookup x = some .local ∨ sc.names.lookup x = some .cell ∨ sc.names.lookup x = some .free
def Loc (sc : Scope) (x : Str) : Prop := sc.names.lookup x = some .local ∨ sc.names.lookup x = some .cell
def Look (env : Env) (h : Heap) (m : Str → Option Value) (x : Str) (u : Value) : Prop :=
  (env.kindOf x = some .local ∧ m x = some u) ∨ ((env.kindOf x = some .cell ∨ env.kindOf x = some .free) ∧ ∃ c, env.cells.lookup x = some c ∧ h.IsCell c (some u))
structure Cx.Ok (X : Cx) : Prop where
  mod : Mod X.K X.mg X.base
  kind : X.env.scope.kind = .function
  glob : X.env.globals = mainGlobals
  blt : X.env.builtins = builtinsNs
  above : X.s₀.heap.objs.size ≤ X.env.locals
  inj : ∀ x y c, X.env.cells.lookup x = some c → X.env.cells.lookup y = some c → x = y
  has : ∀ x, (X.env.kindOf x = some .cell ∨ X.env.kindOf x = some .free) → ∃ c, X.env.cells.lookup x = some c
  cab : ∀ x c, X.fn x = true → X.env.cells.lookup x = some c → X.s₀.heap.objs.size ≤ c
  hd : X.calm = true → X.A.handled = none
  frames : X.A.frames = some X.stack
  stk : X.stack = X.outer ∨ (X.stack = X.env :: X.outer ∧ X.env.frame = some X.env.locals)
  exf : ∀ b ∈ X.ex, b ≠ X.env.locals ∧ ∀ x c, X.env.cells.lookup x = some c → c ≠ b
  bs : ∀ b o, X.base.get? b = some o → X.s₀.heap.get? b = some o ∧ X.H₀ b = none
  bsz : X.base.objs.size ≤ X.s₀.heap.objs.size
  noex : ∀ b o, X.base.get? b = some o → b ∉ X.ex
  exfs : ∀ b ∈ X.ex, b ∉ X.fs
  funs : X.s₀.heap.FunFrames X.base X.outer
  frf : ∀ b ∈ X.fs, X.H₀ b = none
structure Inv (X : Cx) (pins : List (Addr × Obj)) (σ : List (Option V)) (H : Hp) (s : Shared) : Prop where
  ok : X.Ok
  os : s.os = X.s₀.os
  bare : AllBare s.gens
  base : Un X.fs X.ex X.H₀ H X.s₀.heap s.heap
  loc : ∃ m, s.heap.Ns X.env.locals m ∧ ∀ (i : Nat) (x : Str) (v : V), X.N[i]? = some x → σ[i]? = some (some v) → Vis X.env.scope x → ∃ u, RelV v u ∧ Look X.env s.heap m x u
  cell : ∀ x c, X.env.cells.lookup x = some c → ∃ v, s.heap.IsCell c v
  free : H X.env.locals = none
  freeC : ∀ x c, X.env.cells.lookup x = some c → H c = none
  pin : ∀ p ∈ X.pn ++ pins, s.heap.get? p.1 = some p.2 ∧ H p.1 = none ∧ p.1 ≠ X.env.locals ∧ p.1 ∉ X.fs ∧ ∀ v, p.2.data ≠ .cell v
  hok : HOk X.prog X.w H s.heap
  len : σ.length = X.N.length
section
variable {X : Cx} {pins : List (Addr × Obj)} {σ : List (Option V)} {H H' : Hp} {s : Shared} {h' : Heap}
theorem Cx.Ok.nofr (ok : X.Ok) {b : Addr} {o : Obj} (e : X.base.get? b = some o) : b ∉ X.fs := fun hb => by
  have := (ok.funs.mem hb).1
  rw [e] at this; cases this
theorem Inv.bs (I : Inv X pins σ H s) : ∀ b o, X.base.get? b = some o → s.heap.get? b = some o ∧ H b = none := fun b o e =>
  ⟨I.base.keep b o (I.ok.bs b o e).1 (I.ok.bs b o e).2 (I.ok.nofr e) (I.ok.noex b o e), I.base.free b o (I.ok.bs b o e).1 (I.ok.bs b o e).2 (I.ok.noex b o e)⟩
theorem Inv.bk (I : Inv X pins σ H s) : ∀ b o, X.base.get? b = some o → s.heap.get? b = some o := fun b o e => (I.bs b o e).1
theorem Inv.mod (I : Inv X pins σ H s) : Mod X.K X.mg X.base := I.ok.mod
theorem Inv.kIn (I : Inv X pins σ H s) : X.K.In s.heap := I.ok.mod.kin.keeps I.bk
theorem Inv.nolimit (I : Inv X pins σ H s) : s.heap.NoLimit := I.ok.mod.nolimit.keeps I.bk
theorem Inv.lt (I : Inv X pins σ H s) : X.env.locals < s.heap.objs.size := let ⟨_, hn, _⟩ := I.loc; hn.lt
theorem Inv.sz (I : Inv X pins σ H s) : X.s₀.heap.objs.size ≤ s.heap.objs.size := Nat.le_trans I.ok.above (Nat.le_of_lt I.lt)
theorem Inv.nofs (I : Inv X pins σ H s) {a : Addr} (h : s.heap.objs.size ≤ a) : a ∉ X.fs := fun hb => by
  obtain ⟨_, o, ho, _⟩ := I.ok.funs.mem hb
  exact absurd (Nat.lt_of_lt_of_le (Heap.lt_size ho) (Nat.le_trans I.sz h)) (Nat.lt_irrefl _)
theorem Inv.cne (I : Inv X pins σ H s) : ∀ x c, X.env.cells.lookup x = some c → c ≠ X.env.locals := fun x c e z => by
  obtain ⟨v, o, ho, hd⟩ := I.cell x c e
  obtain ⟨m, ⟨o', es, ep, ho', hd', _⟩, _⟩ := I.loc
  rw [z, ho'] at ho; cases ho; rw [hd'] at hd; cases hd
theorem Inv.funs (I : Inv X pins σ H s) : s.heap.FunFrames X.base X.outer := by
  have all : ∀ (l : List Env), (∀ b ∈ frs l, b ∈ X.fs) → X.s₀.heap.FunFrames X.base l → s.heap.FunFrames X.base l := by
    intro l
    induction l with
    | nil => intro _ _; trivial
    | cons env r ih =>
      intro hs hl
      obtain ⟨hk, ⟨L, o, hf, hn, ho, hd⟩, hr⟩ := hl
      have hL : L ∈ X.fs := hs L (by unfold frs; rw [List.filterMap_cons, hf]; exact List.mem_cons_self)
      obtain ⟨sl, e⟩ := I.base.slot L o ho (I.ok.frf L hL) hL fun z => I.ok.exfs L z hL
      exact ⟨hk, ⟨L, _, hf, hn, e, hd⟩, ih (fun b hb => hs b (by unfold frs; rw [List.filterMap_cons, hf]; exact List.mem_cons_of_mem _ hb)) hr⟩
  exact all X.outer (fun _ hb => hb) I.ok.funs
theorem Inv.stack (I : Inv X pins σ H s) : s.heap.FunFrames X.base X.stack := by
  rcases I.ok.stk with e | ⟨e, hf⟩
  · rw [e]; exact I.funs
  · rw [e]
    obtain ⟨m, hn, _⟩ := I.loc
    refine .cons (by rw [I.ok.kind]; decide) hf hn ?_ I.funs
    exact Heap.get?_none_of_le (Nat.le_trans I.ok.bsz I.ok.above)
theorem Inv.stkSub (I : Inv X pins σ H s) : ∀ b ∈ frs X.stack, b ∈ X.env.locals :: X.fs := fun b hb => by
  rcases I.ok.stk with e | ⟨e, hf⟩
  · rw [e] at hb; exact List.mem_cons_of_mem _ hb
  · rw [e] at hb
    unfold frs at hb
    rw [List.filterMap_cons, hf] at hb
    exact hb
theorem Inv.stkFree (I : Inv X pins σ H s) : ∀ b ∈ frs X.stack, H b = none := fun b hb => by
  rcases List.mem_cons.mp (I.stkSub b hb) with e | hb
  · rw [e]; exact I.free
  · obtain ⟨_, o, ho, _⟩ := I.ok.funs.mem hb
    exact I.base.free b o ho (I.ok.frf b hb) fun z => I.ok.exfs b z hb
theorem Inv.step {g' : Array GenState} {t' : Nat} {d' : Drawn} {ch : List Addr} (I : Inv X pins σ H s)
    (hch : ∀ b ∈ ch, (b ∈ X.ex ∨ X.s₀.heap.objs.size ≤ b) ∧ b ≠ X.env.locals ∧ (∀ x c, X.env.cells.lookup x = some c → c ≠ b) ∧ ∀ p ∈ X.pn ++ pins, p.1 ≠ b)
    (keep : ∀ b o, b ≠ X.env.locals → b ∉ X.fs → b ∉ ch → s.heap.get? b = some o → H b = none → h'.get? b = some o)
    (slot : ∀ b o, b ≠ X.env.locals → b ∈ X.fs → b ∉ ch → s.heap.get? b = some o → H b = none → ∃ sl, h'.get? b = some { o with slots := sl }) (free : ∀ b o, b ∉ ch → s.heap.get? b = some o → H b = none → H' b = none)
    (there : ∀ b o, b ∉ ch → s.heap.get? b = some o → ∃ o', h'.get? b = some o')
    (tups : ∀ b xs, H b = some (.tup xs) → H' b = some (.tup xs)) (frzs : ∀ b o u, H b = some (.frz o u) → H' b = some (.frz o u)) (tbls : ∀ b ps, H b = some (.tbl ps) → ∃ more, H' b = some (.tbl (ps ++ more)))
    (ns : ∀ m, s.heap.Ns X.env.locals m → h'.Ns X.env.locals m) (hok : HOk X.prog X.w H' h') (hg : AllBare g') :
    Inv X pins σ H' { s with heap := h', gens := g', drawn := d', toks := t' } := by
  have neL : ∀ b o, X.s₀.heap.get? b = some o → b ≠ X.env.locals := fun b o e => Nat.ne_of_lt (Nat.lt_of_lt_of_le (Heap.lt_size e) I.ok.above)
  have neC : ∀ b o, X.s₀.heap.get? b = some o → b ∉ X.ex → b ∉ ch := fun b o e hx hb => by
    rcases (hch b hb).1 with z | z
    · exact hx z
    · exact absurd (Nat.lt_of_lt_of_le (Heap.lt_size e) z) (Nat.lt_irrefl _)
  have cellK : ∀ x c, X.env.cells.lookup x = some c → ∀ v, s.heap.IsCell c v → h'.IsCell c v := fun x c e v ⟨o, ho, hd⟩ => by
    have nch : c ∉ ch := fun z => (hch c z).2.2.1 x c e rfl
    by_cases hc : c ∈ X.fs
    · obtain ⟨sl, q⟩ := slot c o (I.cne x c e) hc nch ho (I.freeC x c e)
      exact ⟨_, q, hd⟩
    · exact ⟨o, keep c o (I.cne x c e) hc nch ho (I.freeC x c e), hd⟩
  refine ⟨I.ok, I.os, hg, ⟨fun b o e n hb hx => ?_, fun b o e n hb hx => ?_, fun b o e n hx => ?_, fun b o e hx => ?_, fun b xs e => tups b xs (I.base.tups b xs e), fun b o xs e => frzs b o xs (I.base.frzs b o xs e), fun b ps e => ?_⟩, ?_, fun x c e => ?_, ?_, fun x c e => ?_, fun p hp => ?_, hok, I.len⟩
  · exact keep b o (neL b o e) hb (neC b o e hx) (I.base.keep b o e n hb hx) (I.base.free b o e n hx)
  · obtain ⟨sl, e1⟩ := I.base.slot b o e n hb hx
    obtain ⟨sl', e2⟩ := slot b _ (neL b o e) hb (neC b o e hx) e1 (I.base.free b o e n hx)
    exact ⟨sl', e2⟩
  · obtain ⟨o', e1⟩ := I.base.there b o e hx
    exact free b o' (neC b o e hx) e1 (I.base.free b o e n hx)
  · obtain ⟨o', e1⟩ := I.base.there b o e hx
    exact there b o' (neC b o e hx) e1
  · obtain ⟨m1, e1⟩ := I.base.tbls b ps e
    obtain ⟨m2, e2⟩ := tbls b _ e1
    exact ⟨m1 ++ m2, by rw [e2, Array.append_assoc]⟩
  · obtain ⟨m, hn, hl⟩ := I.loc
    refine ⟨m, ns m hn, fun i x v e1 e2 e3 => ?_⟩
    obtain ⟨u, r, l⟩ := hl i x v e1 e2 e3
    refine ⟨u, r, ?_⟩
    rcases l with l | ⟨k, c, e, z⟩
    · exact .inl l
    · exact .inr ⟨k, c, e, cellK x c e _ z⟩
  · obtain ⟨v, z⟩ := I.cell x c e
    exact ⟨v, cellK x c e v z⟩
  · obtain ⟨m, ⟨o, _, _, ho, _⟩, _⟩ := I.loc
    exact free _ o (fun z => (hch _ z).2.1 rfl) ho I.free
  · obtain ⟨v, o, ho, hd⟩ := I.cell x c e
    exact free c o (fun z => (hch c z).2.2.1 x c e rfl) ho (I.freeC x c e)
  · obtain ⟨e, n, ne, nf, d⟩ := I.pin p hp
    have nch : p.1 ∉ ch := fun z => (hch p.1 z).2.2.2 p hp rfl
    exact ⟨keep p.1 p.2 ne nf nch e n, free p.1 p.2 nch e n, ne, nf, d⟩
theorem Inv.un {t' : Nat} (I : Inv X pins σ H s) (u : Un X.fs [] H H' s.heap h') (hok : HOk X.prog X.w H' h') : Inv X pins σ H' { s with heap := h', toks := t' } := by
  obtain ⟨m, ⟨o, es, ep, ho, r⟩, _⟩ := id I.loc
  obtain ⟨sl, hL⟩ := u.any ho I.free (by simp)
  exact I.step (g' := s.gens) (d' := s.drawn) (ch := []) (fun _ z => nomatch z) (fun b o _ hb _ e n => u.keep b o e n hb (by simp)) (fun b o _ hb _ e n => u.slot b o e n hb (by simp)) (fun b o _ e n => u.free b o e n (by simp)) (fun b o _ e => u.there b o e (by simp)) u.tups u.frzs u.tbls (fun m' hm => by
    obtain ⟨o', es', ep', ho', r'⟩ := hm
    rw [ho] at ho'; cases ho'
    exact ⟨_, es', ep', hL, r'⟩) hok I.bare
theorem Inv.call {g' : Array GenState} {t' : Nat} {d' : Drawn} {ch : List Addr} (I : Inv X pins σ H s) (u : Un (frs X.stack) ch H H' s.heap h') (hok : HOk X.prog X.w H' h') (hg : AllBare g')
    (hch : ∀ b ∈ ch, (b ∈ X.ex ∨ X.s₀.heap.objs.size ≤ b) ∧ b ≠ X.env.locals ∧ (∀ x c, X.env.cells.lookup x = some c → c ≠ b) ∧ ∀ p ∈ X.pn ++ pins, p.1 ≠ b) :
    Inv X pins σ H' { s with heap := h', gens := g', drawn := d', toks := t' } := by
  obtain ⟨m, ⟨o, es, ep, ho, r⟩, _⟩ := id I.loc
  obtain ⟨sl, hL⟩ := u.any ho I.free fun z => (hch _ z).2.1 rfl
  exact I.step (ch := ch) hch (fun b o hL hb hc e n => u.keep b o e n (fun z => (List.mem_cons.mp (I.stkSub b z)).elim hL hb) hc) (fun b o _ _ hc e n => u.any e n hc) (fun b o hc e n => u.free b o e n hc) (fun b o hc e => u.there b o e hc) u.tups u.frzs u.tbls (fun m' hm => by
    obtain ⟨o', es', ep', ho', r'⟩ := hm
    rw [ho] at ho'; cases ho'
    exact ⟨_, es', ep', hL, r'⟩) hok hg
theorem Inv.turned {t' : Nat} {it : Addr} (I : Inv X pins σ H s) (k : ∀ b o, b ≠ it → s.heap.get? b = some o → h'.get? b = some o) (hn : H it = none) (hL : it ≠ X.env.locals)
    (h1 : it ∈ X.ex ∨ X.s₀.heap.objs.size ≤ it) (h2 : ∀ x c, X.env.cells.lookup x = some c → c ≠ it) (h3 : ∀ p ∈ X.pn ++ pins, p.1 ≠ it) : Inv X pins σ H { s with heap := h', toks := t' } := by
  have nit : ∀ b u, H b = some u → b ≠ it := fun b u e z => by rw [z, hn] at e; cases e
  refine I.step (g' := s.gens) (d' := s.drawn) (ch := [it]) (fun b hb => ?_) (fun b o _ _ hc e _ => k b o (fun z => hc (by simp [z])) e) (fun b o _ _ hc e _ => ⟨o.slots, k b o (fun z => hc (by simp [z])) e⟩) (fun _ _ _ _ n => n)
    (fun b o hc e => ⟨o, k b o (fun z => hc (by simp [z])) e⟩) (fun _ _ e => e) (fun _ _ _ e => e) (fun b ps e => ⟨#[], by rw [e]; simp⟩) (fun m hm => ?_) (fun b u e => ?_) I.bare
  · have e : b = it := by simpa using hb
    subst e
    exact ⟨h1, hL, h2, h3⟩
  · obtain ⟨o, es, ep, ho, r⟩ := hm
    exact ⟨o, es, ep, k _ o (Ne.symm hL) ho, r⟩
  · refine (I.hok b u e).stay (fun c v hc q => k c v ?_ q) (fun _ q => q) fun _ _ q => q
    rcases hc with z | z
    · rw [z]; exact nit b u e
    · exact nit c _ z
theorem Inv.tok (I : Inv X pins σ H s) (t : Nat) : Inv X pins σ H { s with toks := t } := I.un (h' := s.heap) (t' := t) Un.refl I.hok
theorem Inv.kept {t' : Nat} (I : Inv X pins σ H s) (k : ∀ b u, s.heap.get? b = some u → h'.get? b = some u) : Inv X pins σ H { s with heap := h', toks := t' } := I.un (Un.kept k) (I.hok.kept k)
theorem Inv.laid {a : Addr} {o : HO} {t' : Nat} (I : Inv X pins σ H s) (k : ∀ b u, s.heap.get? b = some u → h'.get? b = some u) (hp : s.heap.objs.size ≤ a) (new : ObjOk X.prog X.w (upd H a o) h' a o) :
    Inv X pins σ (upd H a o) { s with heap := h', toks := t' } := I.un (Un.laid k hp (I.hok.fresh hp)) (I.hok.laid k hp new)
theorem Inv.write {x e : Addr} {o : HO} {t' : Nat} (I : Inv X pins σ H s) (mu : Mut (H x)) (he : e = x ∨ H e = some (.own x)) (k : ∀ b u, b ≠ e → s.heap.get? b = some u → h'.get? b = some u) (heo : ∃ u, h'.get? e = some u)
    (new : ObjOk X.prog X.w (upd H x o) h' x o) : Inv X pins σ (upd H x o) { s with heap := h', toks := t' } := I.un (Un.write mu he k heo) (I.hok.write mu he k heo new)
theorem Inv.pins_of {pins' : List (Addr × Obj)} (I : Inv X pins σ H s) (h : ∀ p ∈ pins', s.heap.get? p.1 = some p.2 ∧ H p.1 = none ∧ p.1 ≠ X.env.locals ∧ p.1 ∉ X.fs ∧ ∀ v, p.2.data ≠ .cell v) : Inv X pins' σ H s :=
  ⟨I.ok, I.os, I.bare, I.base, I.loc, I.cell, I.free, I.freeC, fun p hp => (List.mem_append.mp hp).elim (fun z => I.pin p (List.mem_append_left _ z)) (h p), I.hok, I.len⟩
theorem nodup_ix {N : List Str} (hN : N.Nodup) {i j : Nat} {x : Str} (a : N[i]? = some x) (b : N[j]? = some x) : i = j := by
  obtain ⟨h1, e1⟩ := List.getElem?_eq_some_iff.mp a
  obtain ⟨h2, e2⟩ := List.getElem?_eq_some_iff.mp b
  exact (List.getElem_inj hN).mp (e1.trans e2.symm)
theorem store_ok2 {M : Model} {A : Around} {E : Value → Shared → Prop} {i : Nat} {x : Str} {v : V} {u : Value} {Q : Unit → Shared → Prop} (I : Inv X pins σ H s) (hN : X.N.Nodup) (hi : X.N[i]? = some x) (hx : Loc X.env.scope x) (r : RelV v u)
    (h : ∀ s', Inv X pins (σ.set i (some v)) H s' → (∃ a, Heap.SameBut a s.heap s'.heap ∧ (a = X.env.locals ∨ X.env.cells.lookup x = some a)) → Q () s') (hf : X.fn x = true ∨ X.env.scope.names.lookup x = some .local := by first | exact .inl rfl | exact .inr rfl | assumption) : wpAny M A (storeName X.env x u) Q E s := by
  obtain ⟨m, hn, hl⟩ := id I.loc
  have hcls : (X.env.scope.kind == .class || (X.env.scope.kind == .module && X.env.locals != X.env.globals)) = false := by rw [I.ok.kind]; rfl
  have hiσ : i < σ.length := by rw [I.len]; exact (List.getElem?_eq_some_iff.mp hi).1
  have cne := I.cne
  have tracked : ∀ {a : Addr} {h' : Heap}, (∃ o, s.heap.get? a = some o ∧ H a = none) → Heap.SameBut a s.heap h' → HOk X.prog X.w H h' := fun {a h'} ha hs b ob e => by
    obtain ⟨_, _, hfree⟩ := ha
    refine (I.hok b ob e).stay (fun c w' hc q => (hs.2 c ?_).trans q) (fun _ q => q) fun _ _ q => q
    rintro rfl
    rcases hc with rfl | hc
    · rw [hfree] at e; cases e
    · rw [hfree] at hc; cases hc
  rcases hx with hk | hk
  · refine wpAny_storeName_local hk hn (fun h' hn' hs => ?_) hcls
    obtain ⟨oL, _, _, hoL, _⟩ := id hn
    refine h _ ⟨I.ok, I.os, I.bare, ⟨fun b o e n hb hx => ?_, fun b o e n hb hx => ?_, I.base.free, fun b o e hx => ?_, I.base.tups, I.base.frzs, I.base.tbls⟩, ⟨_, hn', fun j y v' e1 e2 e3 => ?_⟩, fun y c e => ?_, I.free, I.freeC, fun p hp => ?_, tracked ⟨oL, hoL, I.free⟩ hs, by simpa using I.len⟩ ⟨_, hs, .inl rfl⟩
    · exact (hs.2 b (Nat.ne_of_lt (Nat.lt_of_lt_of_le (Heap.lt_size e) I.ok.above))).trans (I.base.keep b o e n hb hx)
    · obtain ⟨sl, e1⟩ := I.base.slot b o e n hb hx
      exact ⟨sl, (hs.2 b (Nat.ne_of_lt (Nat.lt_of_lt_of_le (Heap.lt_size e) I.ok.above))).trans e1⟩
    · obtain ⟨o', e1⟩ := I.base.there b o e hx
      exact ⟨o', (hs.2 b (Nat.ne_of_lt (Nat.lt_of_lt_of_le (Heap.lt_size e) I.ok.above))).trans e1⟩
    · by_cases hj : j = i
      · subst hj
        rw [hi] at e1; cases e1
        rw [List.getElem?_set_self hiσ] at e2
        cases e2
        exact ⟨u, r, .inl ⟨hk, by simp⟩⟩
      · rw [List.getElem?_set_ne (Ne.symm hj)] at e2
        obtain ⟨u', r', q⟩ := hl j y v' e1 e2 e3
        refine ⟨u', r', ?_⟩
        rcases q with ⟨k, e⟩ | ⟨k, c, e, z⟩
        · refine .inl ⟨k, ?_⟩
          have : y ≠ x := fun e => hj (nodup_ix hN e1 (e ▸ hi))
          simp [this, e]
        · exact .inr ⟨k, c, e, z.sameBut hs (cne y c e)⟩
    · obtain ⟨w', z⟩ := I.cell y c e
      exact ⟨w', z.sameBut hs (cne y c e)⟩
    · obtain ⟨e, n, ne, nf, d⟩ := I.pin p hp
      exact ⟨(hs.2 p.1 ne).trans e, n, ne, nf, d⟩
  · have hfn : X.fn x = true := by
      rcases hf with z | z
      · exact z
      · rw [z] at hk; cases hk
    obtain ⟨c, hc⟩ := I.ok.has x (.inl hk)
    obtain ⟨w', z⟩ := I.cell x c hc
    refine wpAny_storeName_cell I.ok.kind hk hc z (fun h' hc' hs => ?_)
    obtain ⟨oc, hoc, hocd⟩ := id z
    refine h { s with heap := h' } ⟨I.ok, I.os, I.bare, ⟨fun b o e n hb hx => ?_, fun b o e n hb hx => ?_, I.base.free, fun b o e hx => ?_, I.base.tups, I.base.frzs, I.base.tbls⟩, ⟨m, hn.sameBut hs (Ne.symm (cne x c hc)), fun j y v' e1 e2 e3 => ?_⟩, fun y c' e => ?_, I.free, I.freeC, fun p hp => ?_, tracked ⟨oc, hoc, I.freeC x c hc⟩ hs, by simpa using I.len⟩ ⟨c, hs, .inr hc⟩
    · exact (hs.2 b (Nat.ne_of_lt (Nat.lt_of_lt_of_le (Heap.lt_size e) (I.ok.cab x c hfn hc)))).trans (I.base.keep b o e n hb hx)
    · obtain ⟨sl, e1⟩ := I.base.slot b o e n hb hx
      exact ⟨sl, (hs.2 b (Nat.ne_of_lt (Nat.lt_of_lt_of_le (Heap.lt_size e) (I.ok.cab x c hfn hc)))).trans e1⟩
    · obtain ⟨o', e1⟩ := I.base.there b o e hx
      exact ⟨o', (hs.2 b (Nat.ne_of_lt (Nat.lt_of_lt_of_le (Heap.lt_size e) (I.ok.cab x c hfn hc)))).trans e1⟩
    · by_cases hj : j = i
      · subst hj
        rw [hi] at e1; cases e1
        rw [List.getElem?_set_self hiσ] at e2
        cases e2
        exact ⟨u, r, .inr ⟨.inl hk, c, hc, hc'⟩⟩
      · rw [List.getElem?_set_ne (Ne.symm hj)] at e2
        obtain ⟨u', r', q⟩ := hl j y v' e1 e2 e3
        refine ⟨u', r', ?_⟩
        rcases q with q | ⟨k, c', e, z'⟩
        · exact .inl q
        · refine .inr ⟨k, c', e, z'.sameBut hs ?_⟩
          rintro rfl
          exact hj (nodup_ix hN e1 (I.ok.inj _ _ _ e hc ▸ hi))
    · by_cases hcc : c' = c
      · subst hcc; exact ⟨_, hc'⟩
      · obtain ⟨w2, z2⟩ := I.cell y c' e
        exact ⟨w2, z2.sameBut hs hcc⟩
    · obtain ⟨e, n, ne, nf, d⟩ := I.pin p hp
      refine ⟨(hs.2 p.1 ?_).trans e, n, ne, nf, d⟩
      intro q
      rw [q, hoc] at e
      have q' : oc = p.2 := Option.some.inj e
      exact d w' (by rw [← q']; exact hocd)
theorem store_ok {M : Model} {A : Around} {E : Value → Shared → Prop} {i : Nat} {x : Str} {v : V} {u : Value} {Q : Unit → Shared → Prop} (I : Inv X pins σ H s) (hN : X.N.Nodup) (hi : X.N[i]? = some x) (hx : Loc X.env.scope x) (r : RelV v u)
    (h : ∀ s', Inv X pins (σ.set i (some v)) H s' → Q () s') (hf : X.fn x = true ∨ X.env.scope.names.lookup x = some .local := by first | exact .inl rfl | exact .inr rfl | assumption) : wpAny M A (storeName X.env x u) Q E s :=
  store_ok2 I hN hi hx r (fun s' I' _ => h s' I') hf
theorem Inv.call' {s' : Shared} {ch : List Addr} (I : Inv X pins σ H s) (ho : s'.os = s.os) (u : Un (frs X.stack) ch H H' s.heap s'.heap) (hok : HOk X.prog X.w H' s'.heap) (hg : AllBare s'.gens)
    (hch : ∀ b ∈ ch, (b ∈ X.ex ∨ X.s₀.heap.objs.size ≤ b) ∧ b ≠ X.env.locals ∧ (∀ x c, X.env.cells.lookup x = some c → c ≠ b) ∧ ∀ p ∈ X.pn ++ pins, p.1 ≠ b) : Inv X pins σ H' s' := by
  obtain ⟨h', g', d', t', o'⟩ := s'
  have e : o' = s.os := ho
  subst e
  exact I.call (g' := g') (t' := t') (d' := d') u hok hg hch
end
abbrev XK := Value → Option Addr → Hp → Prop
abbrev St := List (Option V)
abbrev VK := V → Hp → Prop
abbrev TE := St → Hp → VK → Prop
abbrev TT := St → Hp → (Bool → Hp → Prop) → Prop
abbrev TA := St → Hp → (List V → Hp → Prop) → Prop
structure Ends where
  nx : St → Hp → Prop
  rt : VK
  bk : St → Hp → Prop := fun _ _ => False
  ct : St → Hp → Prop := fun _ _ => False
abbrev TS := Ends → St → Hp → Prop
def EP (X : Cx) (pins : List (Addr × Obj)) (σ : St) (Q : VK) (u : Value) (s' : Shared) : Prop := ∃ v H', Inv X pins σ H' s' ∧ RelV v u ∧ Q v H'
def TP (X : Cx) (pins : List (Addr × Obj)) (σ : St) (Q : Bool → Hp → Prop) (b : Bool) (s' : Shared) : Prop := ∃ H', Inv X pins σ H' s' ∧ Q b H'
def AP (X : Cx) (pins : List (Addr × Obj)) (σ : St) (Q : List V → Hp → Prop) (us : List Value) (s' : Shared) : Prop := ∃ vs H', Inv X pins σ H' s' ∧ Vals vs us ∧ Q vs H'
def SP (X : Cx) (pins : List (Addr × Obj)) (D : Ends) (f : Flow) (s' : Shared) : Prop :=
  match f with
  | .next => ∃ σ' H', Inv X pins σ' H' s' ∧ D.nx σ' H'
  | .brk => ∃ σ' H', Inv X pins σ' H' s' ∧ D.bk σ' H'
  | .cont => ∃ σ' H', Inv X pins σ' H' s' ∧ D.ct σ' H'
  | .ret u => ∃ v σ' H', Inv X pins σ' H' s' ∧ RelV v u ∧ D.rt v H'
def PE (X : Cx) (e : Expr) (t : TE) : Prop :=
  ∀ (pins : List (Addr × Obj)) (s : Shared) (σ : St) (H : Hp) (Q : VK), Inv X pins σ H s → t σ H Q → wpAny (model X.prog X.w) X.A (eval e X.env) (EP X pins σ Q) X.xe s
def PT (X : Cx) (e : Expr) (t : TT) : Prop :=
  ∀ (pins : List (Addr × Obj)) (s : Shared) (σ : St) (H : Hp) (Q : Bool → Hp → Prop), Inv X pins σ H s → t σ H Q → wpAny (model X.prog X.w) X.A (isTrue e X.env (eval e X.env)) (TP X pins σ Q) X.xe s
def PW (X : Cx) (e : Expr) (t : TT) : Prop :=
  ∀ (whole : Sem Value) (pins : List (Addr × Obj)) (s : Shared) (σ : St) (H : Hp) (Q : Bool → Hp → Prop), Inv X pins σ H s → t σ H Q → wpAny (model X.prog X.w) X.A (isTrue e X.env whole) (TP X pins σ Q) X.xe s
theorem PW.pt {X : Cx} {e : Expr} {t : TT} (h : PW X e t) : PT X e t := h _
def PA (X : Cx) (es : List Expr) (t : TA) : Prop :=
  ∀ (pos : Pos) (pins : List (Addr × Obj)) (s : Shared) (σ : St) (H : Hp) (Q : List V → Hp → Prop), Inv X pins σ H s → t σ H Q → wpAny (model X.prog X.w) X.A (spliced (backTo pos (starEach es X.env))) (AP X pins σ Q) X.xe s
def PS (X : Cx) (st : Stmt) (t : TS) : Prop :=
  ∀ (pins : List (Addr × Obj)) (s : Shared) (σ : St) (H : Hp) (D : Ends), Inv X pins σ H s → t D σ H → wpAny (model X.prog X.w) X.A (exec st X.env) (SP X pins D) X.xe s
def PSs (X : Cx) (st : List Stmt) (t : TS) : Prop :=
  ∀ (pins : List (Addr × Obj)) (s : Shared) (σ : St) (H : Hp) (D : Ends), Inv X pins σ H s → t D σ H → wpAny (model X.prog X.w) X.A (execs st X.env) (SP X pins D) X.xe s
theorem thn {α : Type} {t : Sem α} {Q Q' : α → Shared → Prop} {M : Model} {A : Around} {E : Value → Shared → Prop} {s : Shared} (h : wpAny M A t Q E s) (hQ : ∀ a s, Q a s → Q' a s) : wpAny M A t Q' E s := wpAny_mono h hQ fun _ _ x => x
end L2
namespace L2
open PySem PySem.Spec PyProof.Rows
section
variable {X : Cx}
def tVar (i : Nat) : TE := fun σ H Q => ∃ v, σ[i]? = some (some v) ∧ Q v H
def tC (v : V) : TE := fun _ H Q => Q v H
theorem pe_var {i : Nat} {x : Str} {pos : Pos} (hN : X.N[i]? = some x) (hv : Vis X.env.scope x) (hd : (x == ("__debug__" : Str)) = false := by decide) (hcd : (x == ("__classdict__" : Str)) = false := by decide) : PE X (.Name x pos) (tVar i) := by
  intro pins s σ H Q I h
  obtain ⟨v, e, h⟩ := h
  obtain ⟨m, hn, hl⟩ := I.loc
  obtain ⟨u, r, l⟩ := hl i x v hN e hv
  have fin : EP X pins σ Q u s := ⟨v, H, I, r, h⟩
  rcases l with ⟨hk, hm⟩ | ⟨hk, c, hc, hcell⟩
  · exact wpAny_Name (wpAny_loadName_local I.ok.kind hk hn hm fin) hd
  · rcases hk with hk | hk
    · exact wpAny_Name (wpAny_loadName_cell I.ok.kind hk hc hcell fin) hd
    · exact wpAny_Name (wpAny_loadName_free I.ok.kind hk hc hcell fin hcd) hd
theorem pe_int {i j pos} : PE X (.Constant (.int i) j pos) (tC (.int i)) := fun _ _ _ H _ I h => wpAny_Constant_int ⟨.int i, H, I.tok _, ⟨_, rfl⟩, h⟩
theorem pe_bl {b j pos} : PE X (.Constant (.bool b) j pos) (tC (.bl b)) := fun _ _ _ H _ I h => Constant_bool ⟨.bl b, H, I, rfl, h⟩
theorem pe_str {x j pos} : PE X (.Constant (.str x) j pos) (tC (.str x)) := fun _ _ _ H _ I h => Calls.Constant_str ⟨.str x, H, I.tok _, ⟨_, rfl⟩, h⟩
def Gl (X : Cx) (x : Str) : Prop := X.env.kindOf x = some .globalImplicit
theorem ld_glob {E : Value → Shared → Prop} {pins : List (Addr × Obj)} {s : Shared} {σ : St} {H : Hp} {x : Str} {u : Value} {pos : Pos} {Q : Value → Shared → Prop} (I : Inv X pins σ H s) (hg : Gl X x) (hm : X.mg x = some u) (h : Q u s)
    (hd : (x == ("__debug__" : Str)) = false := by decide) : wpAny (model X.prog X.w) X.A (eval (.Name x pos) X.env) Q E s :=
  Calls.Name_function_global I.ok.kind hg (Calls.loadGlobal_global (by rw [I.ok.glob]; exact I.mod.glob.keeps I.bk) hm h) hd
theorem ld_blt {E : Value → Shared → Prop} {pins : List (Addr × Obj)} {s : Shared} {σ : St} {H : Hp} {x : Str} {u : Value} {pos : Pos} {Q : Value → Shared → Prop} (I : Inv X pins σ H s) (hg : Gl X x) (hm : X.mg x = none) (hv : bootBuiltins x = some u) (h : Q u s)
    (hn : x ≠ "__name__" := by decide) (hd : (x == ("__debug__" : Str)) = false := by decide) : wpAny (model X.prog X.w) X.A (eval (.Name x pos) X.env) Q E s := by
  obtain ⟨mb, h1, h2⟩ := I.mod.blt
  exact Calls.Name_function_global I.ok.kind hg (Calls.loadGlobal_builtin (by rw [I.ok.glob]; exact I.mod.glob.keeps I.bk) hm (by rw [I.ok.blt]; exact h1.keeps I.bk) ((h2 x hn).trans hv) h) hd
theorem pe_glob {x : Str} {v : V} {u : Value} {pos : Pos} (hg : Gl X x) (hm : X.mg x = some u) (r : RelV v u) (hd : (x == ("__debug__" : Str)) = false := by decide) : PE X (.Name x pos) (tC v) :=
  fun _ _ _ H _ I h => ld_glob I hg hm ⟨v, H, I, r, h⟩ hd
theorem pe_bltn {x : Str} {v : V} {u : Value} {pos : Pos} (hg : Gl X x) (hm : X.mg x = none) (hv : bootBuiltins x = some u) (r : RelV v u) (hn : x ≠ "__name__" := by decide) (hd : (x == ("__debug__" : Str)) = false := by decide) : PE X (.Name x pos) (tC v) :=
  fun _ _ _ H _ I h => ld_blt I hg hm hv ⟨v, H, I, r, h⟩ hn hd
def t2I (ta tb : TE) (k : Int → Int → Hp → Prop) : St → Hp → Prop := fun σ H => ta σ H fun x H1 => tb σ H1 fun y H2 => ∃ i j, x = .int i ∧ y = .int j ∧ k i j H2
def tAdd (ta tb : TE) : TE := fun σ H Q => t2I ta tb (fun i j H2 => Q (.int (i + j)) H2) σ H
def tSub (ta tb : TE) : TE := fun σ H Q => t2I ta tb (fun i j H2 => Q (.int (i - j)) H2) σ H
def tMul (ta tb : TE) : TE := fun σ H Q => t2I ta tb (fun i j H2 => (-(2 ^ 64) < i ∧ i < 2 ^ 64) ∧ Q (.int (i * j)) H2) σ H
variable {a b : Expr} {ta tb : TE} {pos : Pos}
def PC (X : Cx) (op : CmpOp) (a b : Expr) (t : TE) : Prop :=
  ∀ (pins : List (Addr × Obj)) (s : Shared) (σ : St) (H : Hp) (Q : VK), Inv X pins σ H s → t σ H Q →
    wpAny (model X.prog X.w) X.A (eval a X.env) (fun v s₁ => wpAny (model X.prog X.w) X.A (eval b X.env) (fun u s₂ => wpAny (model X.prog X.w) X.A (compareOp op v u) (EP X pins σ Q) X.xe s₂) X.xe s₁) X.xe s
theorem nobehind (b : Expr) {op : CmpOp} (h : op ≠ .In) (h2 : op ≠ .NotIn) : behindInMarks op b = false := by
  have e1 : (op == CmpOp.In) = false := by cases op <;> first | rfl | exact absurd rfl h
  have e2 : (op == CmpOp.NotIn) = false := by cases op <;> first | rfl | exact absurd rfl h2
  cases b <;> simp [behindInMarks, e1, e2]
def tCmp (p : Int → Int → Bool) (ta tb : TE) : TE := fun σ H Q => t2I ta tb (fun i j H2 => Q (.bl (p i j)) H2) σ H
abbrev tLt : TE → TE → TE := tCmp fun i j => decide (i < j)
abbrev tLe : TE → TE → TE := tCmp fun i j => decide (i ≤ j)
abbrev tGt : TE → TE → TE := tCmp fun i j => decide (j < i)
abbrev tGe : TE → TE → TE := tCmp fun i j => decide (j ≤ i)
abbrev tEqI : TE → TE → TE := tCmp fun i j => decide (i = j)
abbrev tNeI : TE → TE → TE := tCmp fun i j => !decide (i = j)
def tIsN (ta : TE) : TE := fun σ H Q => ta σ H fun x H1 => Q (.bl (decide (x = .non))) H1
def tNotN (ta : TE) : TE := fun σ H Q => ta σ H fun x H1 => Q (.bl (!decide (x = .non))) H1
theorem RelV.none_iff {x : V} {v : Value} (r : RelV x v) : (v == Value.none) = decide (x = .non) := by
  cases x with
  | non => cases r; rfl
  | bl _ => cases r; rfl
  | int _ => obtain ⟨t, rfl⟩ := r; rfl
  | str _ => obtain ⟨t, rfl⟩ := r; rfl
  | byt _ => obtain ⟨t, rfl⟩ := r; rfl
  | flt _ => obtain ⟨t, rfl⟩ := r; rfl
  | ref _ => cases r; rfl
  | ty _ => cases r; rfl
theorem pc_isN {j pos'} (ha : PE X a ta) : PC X .Is a (.Constant .none j pos') (tIsN ta) := by
  intro pins s σ H Q I h
  refine thn (ha pins s σ H _ I h) fun v s1 ⟨x, H1, I1, r1, q1⟩ => ?_
  exact Constant_none (is_none_gen ⟨.bl _, H1, I1, by rw [r1.none_iff]; rfl, q1⟩)
def tB (t : TE) : TT := fun σ H Q => t σ H fun x H1 => ∃ c, x = .bl c ∧ Q c H1
theorem pt_cmp {op : CmpOp} {t : TE} (h : PC X op a b t) (h1 : behindInMarks op b = false := by first | exact nobehind _ (by decide) (by decide) | rfl) : PT X (.Compare a [op] [b] pos) (tB t) := by
  intro pins s σ H Q I hw
  refine wpAny_isTrue_Compare1 (thn (h pins s σ H _ I hw) fun v s1 h1 => thn h1 fun u s2 h2 => thn h2 fun c s3 ⟨x, H1, I1, r1, q1⟩ => ?_) h1
  obtain ⟨d, rfl, q⟩ := q1
  cases r1
  exact wpAny_truthy_bool ⟨H1, I1, q⟩
variable {tA tB' : TT} {rest : List Expr}
def tAnd (t u : TT) : TT := fun σ H Q => t σ H fun c H1 => if c = true then u σ H1 Q else Q false H1
def tOr (t u : TT) : TT := fun σ H Q => t σ H fun c H1 => if c = true then Q true H1 else u σ H1 Q
def tNot (t : TT) : TT := fun σ H Q => t σ H fun c H1 => Q (!c) H1
theorem pw_and1 (ha : PT X a tA) : PW X (.BoolOp .And [a] pos) tA := by
  intro wh pins s σ H Q I h
  refine isTrue_and (thn (ha pins s σ H Q I h) fun c s1 e => ?_)
  cases c with
  | true => exact isTrue_and_nil e
  | false => exact e
theorem pw_or1 (ha : PT X a tA) : PW X (.BoolOp .Or [a] pos) tA := by
  intro wh pins s σ H Q I h
  refine isTrue_or (thn (ha pins s σ H Q I h) fun c s1 e => ?_)
  cases c with
  | false => exact isTrue_or_nil e
  | true => exact e
theorem pw_and (ha : PT X a tA) (hb : PW X (.BoolOp .And (b :: rest) pos) tB') : PW X (.BoolOp .And (a :: b :: rest) pos) (tAnd tA tB') := by
  intro wh pins s σ H Q I h
  refine isTrue_and (thn (ha pins s σ H _ I h) fun c s1 ⟨H1, I1, q1⟩ => ?_)
  cases c with
  | true => exact hb wh pins s1 σ H1 Q I1 q1
  | false => exact ⟨H1, I1, q1⟩
theorem pw_or (ha : PT X a tA) (hb : PW X (.BoolOp .Or (b :: rest) pos) tB') : PW X (.BoolOp .Or (a :: b :: rest) pos) (tOr tA tB') := by
  intro wh pins s σ H Q I h
  refine isTrue_or (thn (ha pins s σ H _ I h) fun c s1 ⟨H1, I1, q1⟩ => ?_)
  cases c with
  | true => exact ⟨H1, I1, q1⟩
  | false => exact hb wh pins s1 σ H1 Q I1 q1
theorem pt_not (ha : PT X a tA) : PT X (.UnaryOp .Not a pos) (tNot tA) := by
  intro pins s σ H Q I h
  exact isTrue_not (ha pins s σ H (fun c H1 => Q (!c) H1) I h)
def tAndV (ta tb : TE) : TE := fun σ H Q => ta σ H fun x H1 => ∃ c, x = .bl c ∧ if c = true then tb σ H1 Q else Q (.bl false) H1
def tOrV (ta tb : TE) : TE := fun σ H Q => ta σ H fun x H1 => ∃ c, x = .bl c ∧ if c = true then Q (.bl true) H1 else tb σ H1 Q
def tNotV (ta : TE) : TE := fun σ H Q => ta σ H fun x H1 => ∃ c, x = .bl c ∧ Q (.bl (!c)) H1
theorem pe_one {op} {t : TE} (h : PE X a t) : PE X (.BoolOp op [a] pos) t := fun pins s σ H Q I hw => BoolOp_one (h pins s σ H Q I hw)
theorem pe_and (ha : PE X a ta) (hb : PE X (.BoolOp .And (b :: rest) pos) tb) : PE X (.BoolOp .And (a :: b :: rest) pos) (tAndV ta tb) := by
  intro pins s σ H Q I h
  refine BoolOp_and (thn (ha pins s σ H _ I h) fun v s1 ⟨x, H1, I1, r1, q1⟩ => ?_)
  obtain ⟨c, rfl, q1⟩ := q1
  cases r1
  refine wpAny_truthy_bool ?_
  cases c with
  | true => exact hb pins s1 σ H1 Q I1 q1
  | false => exact ⟨.bl false, H1, I1, rfl, q1⟩
theorem pe_not (ha : PE X a ta) : PE X (.UnaryOp .Not a pos) (tNotV ta) := by
  intro pins s σ H Q I h
  refine UnaryOp_ (thn (ha pins s σ H _ I h) fun v s1 ⟨x, H1, I1, r1, q1⟩ => ?_)
  obtain ⟨c, rfl, q1⟩ := q1
  cases r1
  exact not_of (wpAny_truthy_bool ⟨.bl (!c), H1, I1, rfl, q1⟩)
def tIf (t : TT) (ta tb : TE) : TE := fun σ H Q => t σ H fun c H1 => if c = true then ta σ H1 Q else tb σ H1 Q
theorem pe_ifExp {c : Expr} (hc : PT X c tA) (ha : PE X a ta) (hb : PE X b tb) : PE X (.IfExp c a b pos) (tIf tA ta tb) := by
  intro pins s σ H Q I h
  refine wpAny_IfExp (thn (hc pins s σ H _ I h) fun d s1 ⟨H1, I1, q1⟩ => ?_)
  cases d with
  | true => exact ha pins s1 σ H1 Q I1 q1
  | false => exact hb pins s1 σ H1 Q I1 q1
end
end L2
namespace L2
open PySem PySem.Spec PyProof.Rows
def SqL (K : PySem.W.Frag) (H : Hp) (a : Addr) (xs : List V) : Prop :=
  Rd H a (.lst xs) ∨
    ∃ (o : Obj) (its : Array Value) (n : Nat), K.lookup a = some o ∧ o.cls = .type "list" ∧ o.dict = none ∧ o.data = .seq its n ∧ its.size ≤ sizeLine ∧ Vals xs its.toList
def SqT (K : PySem.W.Frag) (H : Hp) (a : Addr) (xs : List V) : Prop :=
  Rd H a (.tup xs) ∨
    ∃ (o : Obj) (its : Array Value) (n : Nat), K.lookup a = some o ∧ o.cls = .type "tuple" ∧ o.data = .seq its n ∧ its.size ≤ sizeLine ∧ Vals xs its.toList
def absV : Value → Option V
  | .none => some .non
  | .bool b => some (.bl b)
  | .int i _ => some (.int i)
  | .str x _ => some (.str x)
  | .bytes b _ => some (.byt b)
  | .float b _ => some (.flt b)
  | .ref a => some (.ref a)
  | .type n => some (.ty n)
  | _ => none
theorem RelV.abs {x : V} {u : Value} (r : RelV x u) : absV u = some x := by
  cases x with
  | non => cases r; rfl
  | bl _ => cases r; rfl
  | int _ => obtain ⟨t, rfl⟩ := r; rfl
  | str _ => obtain ⟨t, rfl⟩ := r; rfl
  | byt _ => obtain ⟨t, rfl⟩ := r; rfl
  | flt _ => obtain ⟨t, rfl⟩ := r; rfl
  | ref _ => cases r; rfl
  | ty _ => cases r; rfl
theorem RelV.inj {x y : V} {u : Value} (r : RelV x u) (q : RelV y u) : x = y := Option.some.inj (r.abs.symm.trans q.abs)
theorem Vals.inj : ∀ {xs ys : List V} {us : List Value}, Vals xs us → Vals ys us → xs = ys
  | _, _, _, .nil, .nil => rfl
  | _, _, _, .cons r t, .cons r' t' => by rw [r.inj r', Vals.inj t t']
section
variable {X : Cx} {pins : List (Addr × Obj)} {σ : St} {H : Hp} {s : Shared} {a : Addr} {xs ys : List V}
theorem SqL.of {K : PySem.W.Frag} (h : H a = some (.lst xs)) : SqL K H a xs := .inl (.inl h)
theorem SqT.of {K : PySem.W.Frag} (h : H a = some (.tup xs)) : SqT K H a xs := .inl (.inl h)
theorem Inv.list (I : Inv X pins σ H s) (h : SqL X.K H a xs) : ∃ its : List Value, Vals xs its ∧ PlainL s.heap a its.toArray ∧ xs.length ≤ sizeLine := by
  rcases h with h | ⟨o, its, n, hk, hc, hd, hs, hz, r⟩
  · obtain ⟨z, its, n, r, e⟩ := h.ok I.hok
    exact ⟨its, r, ⟨_, n, e, rfl, rfl, rfl⟩, z⟩
  · refine ⟨its.toList, r, ⟨o, n, I.kIn a o hk, hc, hd, by simpa using hs⟩, ?_⟩
    have e := r.length
    simp only [Array.length_toList] at e
    omega
theorem Inv.tuple (I : Inv X pins σ H s) (h : SqT X.K H a xs) : ∃ its : List Value, Vals xs its ∧ IsTup s.heap a its.toArray ∧ xs.length ≤ sizeLine := by
  rcases h with h | ⟨o, its, n, hk, hc, hs, hz, r⟩
  · obtain ⟨z, its, r, p⟩ := h.ok I.hok
    exact ⟨its, r, p, z⟩
  · refine ⟨its.toList, r, ⟨o, I.kIn a o hk, hc, n, by simpa using hs⟩, ?_⟩
    have e := r.length
    simp only [Array.length_toList] at e
    omega
theorem Inv.list_inj (I : Inv X pins σ H s) (h : SqL X.K H a xs) (h' : SqL X.K H a ys) : xs = ys := by
  obtain ⟨its, r, ⟨o, n, e, _, _, d⟩, _⟩ := I.list h
  obtain ⟨its', r', ⟨o', n', e', _, _, d'⟩, _⟩ := I.list h'
  rw [e] at e'; cases e'
  rw [d] at d'
  injection d' with d1 _
  have : its = its' := by simpa using congrArg Array.toList d1
  subst this
  exact r.inj r'
theorem Inv.tuple_inj (I : Inv X pins σ H s) (h : SqT X.K H a xs) (h' : SqT X.K H a ys) : xs = ys := by
  obtain ⟨its, r, ⟨o, e, _, n, d⟩, _⟩ := I.tuple h
  obtain ⟨its', r', ⟨o', e', _, n', d'⟩, _⟩ := I.tuple h'
  rw [e] at e'; cases e'
  rw [d] at d'
  injection d' with d1 _
  have : its = its' := by simpa using congrArg Array.toList d1
  subst this
  exact r.inj r'
end
abbrev Cx.wish (X : Cx) (E : Value → Shared → Prop) : Cx := { X with xe := E }
abbrev Cx.nox (X : Cx) : Cx := X.wish fun _ _ => False
theorem Cx.Ok.wish {X : Cx} (ok : X.Ok) (E : Value → Shared → Prop) : (X.wish E).Ok :=
  ⟨ok.mod, ok.kind, ok.glob, ok.blt, ok.above, ok.inj, ok.has, ok.cab, ok.hd, ok.frames, ok.stk, ok.exf, ok.bs, ok.bsz, ok.noex, ok.exfs, ok.funs, ok.frf⟩
theorem Cx.Ok.unwish {X : Cx} {E : Value → Shared → Prop} (ok : (X.wish E).Ok) : X.Ok :=
  ⟨ok.mod, ok.kind, ok.glob, ok.blt, ok.above, ok.inj, ok.has, ok.cab, ok.hd, ok.frames, ok.stk, ok.exf, ok.bs, ok.bsz, ok.noex, ok.exfs, ok.funs, ok.frf⟩
section
variable {X : Cx} {pins : List (Addr × Obj)} {σ : St} {H : Hp} {s : Shared} {E : Value → Shared → Prop}
theorem Inv.wish (I : Inv X pins σ H s) (E : Value → Shared → Prop) : Inv (X.wish E) pins σ H s := ⟨I.ok.wish E, I.os, I.bare, I.base, I.loc, I.cell, I.free, I.freeC, I.pin, I.hok, I.len⟩
theorem Inv.unwish (I : Inv (X.wish E) pins σ H s) : Inv X pins σ H s := ⟨I.ok.unwish, I.os, I.bare, I.base, I.loc, I.cell, I.free, I.freeC, I.pin, I.hok, I.len⟩
theorem SP.unwish {D : Ends} {f : Flow} {s' : Shared} (h : SP (X.wish E) pins D f s') : SP X pins D f s' := by
  cases f with
  | next => obtain ⟨σ', H', I, q⟩ := h; exact ⟨σ', H', I.unwish, q⟩
  | brk => obtain ⟨σ', H', I, q⟩ := h; exact ⟨σ', H', I.unwish, q⟩
  | cont => obtain ⟨σ', H', I, q⟩ := h; exact ⟨σ', H', I.unwish, q⟩
  | ret u => obtain ⟨v, σ', H', I, r, q⟩ := h; exact ⟨v, σ', H', I.unwish, r, q⟩
theorem PE.nox {e : Expr} {t : TE} (h : PE X.nox e t) : PE X e t := fun pins s σ H Q I hw =>
  wpAny_mono (h pins s σ H Q (I.wish _) hw) (fun _ _ ⟨v, H', I', r, q⟩ => ⟨v, H', I'.unwish, r, q⟩) fun _ _ z => False.elim z
theorem PT.nox {e : Expr} {t : TT} (h : PT X.nox e t) : PT X e t := fun pins s σ H Q I hw =>
  wpAny_mono (h pins s σ H Q (I.wish _) hw) (fun _ _ ⟨H', I', q⟩ => ⟨H', I'.unwish, q⟩) fun _ _ z => False.elim z
theorem PSs.nox {st : List Stmt} {t : TS} (h : PSs X.nox st t) : PSs X st t := fun pins s σ H D I hw =>
  wpAny_mono (h pins s σ H D (I.wish _) hw) (fun _ _ q => q.unwish) fun _ _ z => False.elim z
end
section
variable {X : Cx} {st : Stmt} {rest : List Stmt} {t u : TS} {e : Expr} {te : TE} {pos : Pos}
def tNext : TS := fun D σ H => D.nx σ H
def tSeq (t u : TS) : TS := fun D σ H => t { D with nx := u D } σ H
theorem pss_nil : PSs X [] tNext := fun _ _ σ H _ I h => wpAny_execs_nil ⟨σ, H, I, h⟩
theorem pss_cons (h1 : PS X st t) (h2 : PSs X rest u) : PSs X (st :: rest) (tSeq t u) := by
  intro pins s σ H D I h
  refine wpAny_execs_cons (thn (h1 pins s σ H { D with nx := u D } I h) fun f s1 q => ?_)
  cases f with
  | next =>
    obtain ⟨σ', H', I', q⟩ := q
    exact h2 pins s1 σ' H' D I' q
  | ret v => exact q
  | brk => exact q
  | cont => exact q
theorem pss_one (h1 : PS X st t) : PSs X [st] t := by
  intro pins s σ H D I h
  refine wpAny_execs_cons (thn (h1 pins s σ H D I h) fun f s1 q => ?_)
  cases f with
  | next => exact wpAny_execs_nil q
  | ret v => exact q
  | brk => exact q
  | cont => exact q
def tBreak : TS := fun D σ H => D.bk σ H
def tCont : TS := fun D σ H => D.ct σ H
theorem Inv.quiet {pins : List (Addr × Obj)} {σ : St} {H : Hp} {s : Shared} (I : Inv X pins σ H s) : interactive X.env = false := by simp [interactive, I.ok.kind]
def tDrop (te : TE) : TS := fun D σ H => te σ H fun _ H1 => D.nx σ H1
theorem ps_expr (he : PE X e te) (hs : swapsWith e none pos.line X.env = pure false := by rfl) : PS X (.Expr e pos) (tDrop te) := by
  intro pins s σ H D I h
  exact wpAny_Expr_any (thn (he pins s σ H _ I h) fun v s1 ⟨x, H1, I1, r1, q1⟩ => ⟨σ, H1, I1, q1⟩) I.quiet hs
def tRet (te : TE) : TS := fun D σ H => te σ H D.rt
theorem ps_ret (he : PE X e te) : PS X (.Return (some e) pos) (tRet te) := by
  intro pins s σ H D I h
  exact wpAny_Return_some (thn (he pins s σ H _ I h) fun v s1 ⟨x, H1, I1, r1, q1⟩ => ⟨x, σ, H1, I1, r1, q1⟩)
def tRetN : TS := fun D _ H => D.rt .non H
def tIfS (c : TT) (t u : TS) : TS := fun D σ H => c σ H fun b H1 => if b = true then t D σ H1 else u D σ H1
theorem ps_if {c : Expr} {a b : List Stmt} {tc : TT} (hc : PT X c tc) (ha : PSs X a t) (hb : PSs X b u) : PS X (.If c a b pos) (tIfS tc t u) := by
  intro pins s σ H D I h
  refine wpAny_If (thn (hc pins s σ H _ I h) fun d s1 ⟨H1, I1, q1⟩ => ?_)
  cases d with
  | true => exact ha pins s1 σ H1 D I1 q1
  | false => exact hb pins s1 σ H1 D I1 q1
def tNever : TS := fun _ _ _ => False
end
abbrev TG := V → St → Hp → (St → Hp → Prop) → Prop
abbrev TGs := List V → St → Hp → (St → Hp → Prop) → Prop
def PG (X : Cx) (target : Expr) (t : TG) : Prop :=
  ∀ (pins : List (Addr × Obj)) (s : Shared) (σ : St) (H : Hp) (v : V) (u : Value) (Q : St → Hp → Prop), Inv X pins σ H s → RelV v u → t v σ H Q →
    wpAny (model X.prog X.w) X.A (assign target X.env u) (fun _ s' => ∃ σ' H', Inv X pins σ' H' s' ∧ Q σ' H') X.xe s
def PGs (X : Cx) (ts : List Expr) (t : TGs) : Prop :=
  ∀ (pins : List (Addr × Obj)) (s : Shared) (σ : St) (H : Hp) (vs : List V) (us : List Value) (Q : St → Hp → Prop), Inv X pins σ H s → Vals vs us → t vs σ H Q →
    wpAny (model X.prog X.w) X.A (assignInOrder ((assignEach ts X.env).map (·.2)) us) (fun _ s' => ∃ σ' H', Inv X pins σ' H' s' ∧ Q σ' H') X.xe s
abbrev TSet := V → V → V → Hp → (Hp → Prop) → Prop
def PSet (X : Cx) (t : TSet) : Prop :=
  ∀ (pins : List (Addr × Obj)) (s : Shared) (σ : St) (H : Hp) (o i v : V) (ov iv u : Value) (Q : Hp → Prop), Inv X pins σ H s → RelV o ov → RelV i iv → RelV v u → t o i v H Q →
    wpAny (model X.prog X.w) X.A (setItem ov iv u) (fun _ s' => ∃ H', Inv X pins σ H' s' ∧ Q H') X.xe s
abbrev TIp := V → V → Hp → VK → Prop
def PIp (X : Cx) (op : Operator) (t : TIp) : Prop :=
  ∀ (pins : List (Addr × Obj)) (s : Shared) (σ : St) (H : Hp) (x y : V) (v u : Value) (Q : VK), Inv X pins σ H s → RelV x v → RelV y u → t x y H Q →
    wpAny (model X.prog X.w) X.A (inplaceOp op v u) (EP X pins σ Q) X.xe s
section
variable {X : Cx} {pos : Pos}
def gName (i : Nat) : TG := fun v σ H Q => Q (σ.set i (some v)) H
theorem pg_name {i : Nat} {x : Str} (hN : X.N.Nodup) (hi : X.N[i]? = some x) (hx : Loc X.env.scope x) (hf : X.fn x = true ∨ X.env.scope.names.lookup x = some .local := by first | exact .inl rfl | exact .inr rfl | assumption) : PG X (.Name x pos) (gName i) := by
  intro pins s σ H v u Q I r h
  exact wpAny_assign_Name (store_ok I hN hi hx r (fun s' I' => ⟨_, H, I', h⟩) hf)
def gNil : TGs := fun vs σ H Q => vs = [] ∧ Q σ H
def gCons (t : TG) (u : TGs) : TGs := fun vs σ H Q => ∃ v r, vs = v :: r ∧ t v σ H fun σ' H' => u r σ' H' Q
theorem pgs_nil : PGs X [] gNil := by
  intro pins s σ H vs us Q I r h
  obtain ⟨e, h⟩ := h
  subst e
  cases r
  exact assignInOrder_nil ⟨σ, H, I, h⟩
theorem pgs_cons {e : Expr} {es : List Expr} {t : TG} {u : TGs} (h1 : PG X e t) (h2 : PGs X es u)
    (hs : (assignEach (e :: es) X.env).map (·.2) = assign e X.env :: (assignEach es X.env).map (·.2) := by rfl) : PGs X (e :: es) (gCons t u) := by
  intro pins s σ H vs us Q I r h
  obtain ⟨v, vr, e1, h⟩ := h
  subst e1
  cases r with
  | cons r rr =>
    rw [hs]
    refine assignInOrder_cons (thn (h1 pins s σ H _ _ _ I r h) fun _ s1 ⟨σ1, H1, I1, q1⟩ => ?_)
    exact h2 pins s1 σ1 H1 _ _ Q I1 rr q1
def gTup (K : PySem.W.Frag) (n : Nat) (t : TGs) : TG := fun v σ H Q => ∃ a xs, v = .ref a ∧ SqT K H a xs ∧ xs.length = n ∧ t xs σ H Q
theorem pg_tup {es : List Expr} {k : Nat} {t : TGs} {n : Nat} (hc : X.calm = true) (h : PGs X es t)
    (hn : (assignEach es X.env).length = n := by rfl) (hst : (assignEach es X.env).findIdx? (·.1) = none := by rfl) : PG X (.Tuple es k pos) (gTup X.K n t) := by
  intro pins s σ H v u Q I r hw
  obtain ⟨a, xs, e1, hq, hl, hw⟩ := hw
  subst e1
  cases r
  obtain ⟨its, rv, ht, hz⟩ := I.tuple hq
  refine assign_Tuple_tuple (I.ok.hd hc) ht (by simp [hn, ← hl, rv.length]) hst fun h' hx => ?_
  have I1 : Inv X pins σ H { s with heap := h' } := I.kept (t' := s.toks) fun b o e => hx b o (Nat.ne_of_lt (Heap.lt_size e)) e
  exact h pins _ σ H xs _ Q I1 (by simpa using rv) hw
def gSub (to ti : TE) (t : TSet) : TG := fun v σ H Q => to σ H fun o H1 => ti σ H1 fun i H2 => t o i v H2 fun H3 => Q σ H3
theorem pg_sub {o i : Expr} {to ti : TE} {t : TSet} (ho : PE X o to) (hi : PE X i ti) (hs : PSet X t)
    (ha : ∀ v, assign (.Subscript o i pos) X.env v = (do
      let ov ← holding [v] (eval o X.env)
      let iv ← holding [v, ov] (eval i X.env)
      standAt pos
      holding [v, ov, iv] (setItem ov iv v)
      release [v, ov, iv] []) := by intro _; rfl) : PG X (.Subscript o i pos) (gSub to ti t) := by
  intro pins s σ H v u Q I r h
  rw [ha]
  refine wpAny_bind (wpAny_holding (thn (ho pins s σ H _ I h) fun ov s1 ⟨x, H1, I1, r1, q1⟩ => ?_))
  refine wpAny_bind (wpAny_holding (thn (hi pins s1 σ H1 _ I1 q1) fun iv s2 ⟨y, H2, I2, r2, q2⟩ => ?_))
  refine wpAny_bind (wpAny_standAt (wpAny_bind (wpAny_holding (thn (hs pins s2 σ H2 x y v ov iv u _ I2 r1 r2 r q2) fun _ s3 ⟨H3, I3, q3⟩ => ?_))))
  exact wpAny_release ⟨σ, H3, I3, q3⟩
def tAsg (te : TE) (g : TG) : TS := fun D σ H => te σ H fun x H1 => g x σ H1 D.nx
theorem ps_asg {tg e : Expr} {te : TE} {g : TG} (he : PE X e te) (hg : PG X tg g) (hs : swapsWithSole [tg] e pos.line X.env = pure false := by rfl) (hw : swappedStores [tg] e X.env = pure none := by rfl)
    (h1 : (assignEach [tg] X.env).map (·.2) = [assign tg X.env] := by rfl) : PS X (.Assign [tg] e pos) (tAsg te g) := by
  intro pins s σ H D I h
  refine wpAny_Assign_stores (thn (he pins s σ H _ I h) fun v s1 ⟨x, H1, I1, r1, q1⟩ => ?_) hs hw
  rw [h1]
  exact thn (hg pins s1 σ H1 x v _ I1 r1 q1) fun _ s2 q => q
theorem ps_set {i : Nat} {x : Str} {e : Expr} {te : TE} {pos' : Pos} (hN : X.N.Nodup) (hi : X.N[i]? = some x) (hx : Loc X.env.scope x) (he : PE X e te) (hs : swapsWith e (some (.Name x pos')) pos.line X.env = pure false := by rfl) (hf : X.fn x = true ∨ X.env.scope.names.lookup x = some .local := by first | exact .inl rfl | exact .inr rfl | assumption) :
    PS X (.Assign [.Name x pos'] e pos) (tAsg te (gName i)) := by
  intro pins s σ H D I h
  refine wpAny_Assign_Name (thn (he pins s σ H _ I h) fun v s1 ⟨y, H1, I1, r1, q1⟩ => ?_) hs
  exact store_ok I1 hN hi hx r1 (fun s2 I2 => ⟨_, H1, I2, q1⟩) hf
def tPar (i j : Nat) (ta : TA) : TS := fun D σ H => ta σ H fun vs H1 => ∃ v w, vs = [v, w] ∧ D.nx ((σ.set i (some v)).set j (some w)) H1
def tAug (i : Nat) (te : TE) (ti : TIp) : TS := fun D σ H => ∃ x, σ[i]? = some (some x) ∧ te σ H fun y H1 => ti x y H1 fun z H2 => D.nx (σ.set i (some z)) H2
def tAugS (to ti te : TE) (tget : V → V → Hp → VK → Prop) (tip : TIp) (tset : TSet) : TS := fun D σ H => to σ H fun o H1 => ti σ H1 fun i H2 => tget o i H2 fun x H3 => te σ H3 fun y H4 => tip x y H4 fun z H5 => tset o i z H5 fun H6 => D.nx σ H6
def PGet (X : Cx) (t : V → V → Hp → VK → Prop) : Prop :=
  ∀ (pins : List (Addr × Obj)) (s : Shared) (σ : St) (H : Hp) (o i : V) (ov iv : Value) (Q : VK), Inv X pins σ H s → RelV o ov → RelV i iv → t o i H Q →
    wpAny (model X.prog X.w) X.A (getItem ov iv) (EP X pins σ Q) X.xe s
def ipI (f : Int → Int → Int) : TIp := fun x y H Q => ∃ i j, x = .int i ∧ y = .int j ∧ Q (.int (f i j)) H
end
section
variable {X : Cx} {pos : Pos}
def tWhile (c : TT) (tb : TS) : TS := fun D σ H => ∃ W : Nat → St → Hp → Prop, (∃ m, W m σ H) ∧ ∀ m σ H, W m σ H →
  c σ H fun b H1 => if b = true then ∃ N : St → Hp → Prop, (∀ σ' H', N σ' H' → ∃ m', m' < m ∧ W m' σ' H') ∧ tb { D with nx := N, ct := N, bk := D.nx } σ H1 else D.nx σ H1
end
structure It where
  go : Nat → Hp → Prop
  yld : Nat → Hp → V → Hp → Prop
  stop : Nat → Hp → Prop
def FpOk (X : Cx) (pins : List (Addr × Obj)) (H : Hp) (b : Addr) : Prop :=
  H b = none ∧ b ≠ X.env.locals ∧ b ∉ X.fs ∧ (b ∈ X.ex ∨ X.s₀.heap.objs.size ≤ b) ∧ (∀ x c, X.env.cells.lookup x = some c → c ≠ b) ∧ ∀ p ∈ X.pn ++ pins, p.1 ≠ b
theorem Inv.fpOk {X : Cx} {pins : List (Addr × Obj)} {σ : St} {H H' : Hp} {s : Shared} {b : Addr} (I : Inv X pins σ H s) (hb : s.heap.objs.size ≤ b) (hn : H' b = none) : FpOk X pins H' b := by
  refine ⟨hn, Nat.ne_of_gt (Nat.lt_of_lt_of_le I.lt hb), I.nofs hb, .inr (Nat.le_trans I.sz hb), fun x c e z => ?_, fun p hp z => ?_⟩
  · obtain ⟨v, q⟩ := I.cell x c e
    exact absurd (Nat.lt_of_lt_of_le q.lt (by rw [z]; exact hb)) (Nat.lt_irrefl _)
  · exact absurd (Nat.lt_of_lt_of_le (Heap.lt_size (I.pin p hp).1) (by rw [z]; exact hb)) (Nat.lt_irrefl _)
structure Turn (P : Program) (w : World) (K : PySem.W.Frag) (tg : Expr) (J : It) (fp : List Addr) (it : Addr) (tn : Nat → Heap → Prop) : Prop where
  mem : it ∈ fp
  obj : ∀ i h, tn i h → ∀ b ∈ fp, ∃ o, h.get? b = some o ∧ ∀ v, o.data ≠ .cell v
  keep : ∀ i h h', tn i h → (∀ b ∈ fp, ∀ o, h.get? b = some o → h'.get? b = some o) → tn i h'
  item : ∀ (X : Cx), X.prog = P → X.w = w → X.K = K → X.calm = true → ∀ (i : Nat) (pins : List (Addr × Obj)) (s : Shared) (σ : St) (H : Hp) (E : Value → Shared → Prop), Inv X pins σ H s → (∀ b ∈ fp, FpOk X pins H b) → tn i s.heap → J.go i H →
    wpAny (model P w) X.A (pyNext (.ref it)) (fun r s1 => ∃ u, r = some u ∧
      wpAny (model P w) X.A (letOwnedTupleGo tg (.ref it) u) (fun _ s2 => ∃ x H', Inv X pins σ H' s2 ∧ RelV x u ∧ J.yld i H x H' ∧ tn (i + 1) s2.heap ∧ ∀ b ∈ fp, H' b = none) E s1) E s
  done : ∀ (X : Cx), X.prog = P → X.w = w → X.K = K → X.calm = true → ∀ (i : Nat) (pins : List (Addr × Obj)) (s : Shared) (σ : St) (H : Hp) (E : Value → Shared → Prop), Inv X pins σ H s → (∀ b ∈ fp, FpOk X pins H b) → tn i s.heap → J.stop i H →
    wpAny (model P w) X.A (pyNext (.ref it)) (fun r s1 => r = none ∧ Inv X pins σ H s1) E s
  self : ∀ (A : Around) (i : Nat) (s : Shared) (Q : Value → Shared → Prop) (E : Value → Shared → Prop), tn i s.heap → Q (.ref it) s → wpAny (model P w) A (pyIter (.ref it)) Q E s
abbrev TI := St → Hp → (It → Hp → Prop) → Prop
def PIE (X : Cx) (pins : List (Addr × Obj)) (σ : St) (tg : Expr) (R : It → Hp → Prop) (itv : Value) (s2 : Shared) : Prop :=
  ∃ (it : Addr) (fp : List Addr) (tn : Nat → Heap → Prop) (J : It) (H' : Hp), itv = .ref it ∧ Inv X pins σ H' s2 ∧ Turn X.prog X.w X.K tg J fp it tn ∧ tn 0 s2.heap ∧ (∀ b ∈ fp, FpOk X pins H' b) ∧ R J H'
def PI (X : Cx) (tg iter : Expr) (wi : TI) : Prop :=
  ∀ (pins : List (Addr × Obj)) (s : Shared) (σ : St) (H : Hp) (R : It → Hp → Prop), Inv X pins σ H s → wi σ H R →
    wpAny (model X.prog X.w) X.A (eval iter X.env) (fun v s1 => wpAny (model X.prog X.w) X.A (pyIter v) (PIE X pins σ tg R) X.xe s1) X.xe s
theorem go_of {M : Model} {A : Around} {E : Value → Shared → Prop} {s : Shared} {tg : Expr} {it : Addr} {u : Value} {o : Obj} {n : String} {vs : Array Value} {Q : Unit → Shared → Prop} (ho : s.heap.get? it = some o) (hc : o.cls = .type n) (hd : o.data = .fields vs)
    (hn : ["enumerate", "zip", "dict_itemiterator", "dict_reverseitemiterator", "odict_iterator", "itertools.zip_longest", "itertools.pairwise"].contains n = false) (hQ : Q () s) : wpAny M A (letOwnedTupleGo tg (.ref it) u) Q E s := by
  unfold letOwnedTupleGo
  cases tg <;> first
    | exact wpAny_pure hQ
    | (cases u <;> first
        | exact wpAny_pure hQ
        | (refine wpAny_bind (wpAny_load ho ?_)
           rw [hc, hd]
           show wpAny M A (if (["enumerate", "zip", "dict_itemiterator", "dict_reverseitemiterator", "odict_iterator", "itertools.zip_longest", "itertools.pairwise"].contains n && vs[0]? == some (rawInt _)) = true then _ else _) Q E s
           rw [if_neg (by intro h; rw [hn, Bool.false_and] at h; cases h)]
           exact wpAny_pure hQ))
def Itl (K : PySem.W.Frag) (a : Addr) : It :=
  ⟨fun i H => ∃ xs x, SqL K H a xs ∧ xs[i]? = some x, fun i H x H' => H' = H ∧ ∀ xs, SqL K H a xs → xs[i]? = some x, fun i H => ∃ xs, SqL K H a xs ∧ xs.length ≤ i⟩
def Itt (K : PySem.W.Frag) (a : Addr) : It :=
  ⟨fun i H => ∃ xs x, SqT K H a xs ∧ xs[i]? = some x, fun i H x H' => H' = H ∧ ∀ xs, SqT K H a xs → xs[i]? = some x, fun i H => ∃ xs, SqT K H a xs ∧ xs.length ≤ i⟩
def Itr (lo : Int) (n : Nat) : It := ⟨fun i _ => i < n, fun i H x H' => H' = H ∧ x = .int (lo + i), fun i _ => n ≤ i⟩
theorem turn_list {P : Program} {w : World} {K : PySem.W.Frag} {tg : Expr} (a it : Addr) : Turn P w K tg (Itl K a) [it] it (fun i h => h.IsListIter it a i) where
  mem := by simp
  obj := fun i h st b hb => by
    have e : b = it := by simpa using hb
    subst e
    obtain ⟨o, e, c, d⟩ := st
    exact ⟨o, e, fun v z => by rw [d] at z; cases z⟩
  keep := fun i h h' st k => st.at fun o e => k it (by simp) o e
  item := by
    intro X hP hw hK hc i pins s σ H E I hf st hg
    subst hP hw hK
    obtain ⟨xs, x, hq, hx⟩ := hg
    obtain ⟨its, rv, p, hz⟩ := I.list hq
    obtain ⟨u, hu, ru⟩ := rv.get hx
    obtain ⟨f0, f1, f2, f3, f4, f5⟩ := hf it (by simp)
    refine wpAny_pyNext_list_item st p.isList (x := u) (by simpa using hu) fun h' st' sb => ?_
    have I1 : Inv X pins σ H { s with heap := h' } := I.turned (t' := s.toks) (fun b o hb e => (sb.2 b hb).trans e) f0 f1 f3 f4 f5
    obtain ⟨o, e, c, d⟩ := id st'
    exact ⟨u, rfl, go_of (s := { s with heap := h' }) e c d (by decide) ⟨x, H, I1, ru, ⟨rfl, fun ys hy => by rw [I.list_inj hy hq]; exact hx⟩, st', fun b hb => (hf b hb).1⟩⟩
  done := by
    intro X hP hw hK hc i pins s σ H E I hf st hg
    subst hP hw hK
    obtain ⟨xs, hq, hx⟩ := hg
    obtain ⟨its, rv, p, hz⟩ := I.list hq
    obtain ⟨f0, f1, f2, f3, f4, f5⟩ := hf it (by simp)
    have hl := rv.length
    exact wpAny_pyNext_list_end (I.ok.hd hc) st p.isList (by simp; omega) fun h' eb => ⟨rfl, I.turned (t' := s.toks) (fun b o hb e => eb b o hb e) f0 f1 f3 f4 f5⟩
  self := fun _ _ _ _ _ st h => wpAny_pyIter_listiter st h
theorem turn_tuple {P : Program} {w : World} {K : PySem.W.Frag} {tg : Expr} (a it : Addr) : Turn P w K tg (Itt K a) [it] it (fun i h => h.IsTupleIter it a i) where
  mem := by simp
  obj := fun i h st b hb => by
    have e : b = it := by simpa using hb
    subst e
    obtain ⟨o, e, c, d⟩ := st
    exact ⟨o, e, fun v z => by rw [d] at z; cases z⟩
  keep := fun i h h' st k => st.at fun o e => k it (by simp) o e
  item := by
    intro X hP hw hK hc i pins s σ H E I hf st hg
    subst hP hw hK
    obtain ⟨xs, x, hq, hx⟩ := hg
    obtain ⟨its, rv, p, hz⟩ := I.tuple hq
    obtain ⟨u, hu, ru⟩ := rv.get hx
    obtain ⟨f0, f1, f2, f3, f4, f5⟩ := hf it (by simp)
    refine wpAny_pyNext_tuple_item st (show s.heap.IsTuple a its.toArray from p) (x := u) (by simpa using hu) fun h' st' sb => ?_
    have I1 : Inv X pins σ H { s with heap := h' } := I.turned (t' := s.toks) (fun b o hb e => (sb.2 b hb).trans e) f0 f1 f3 f4 f5
    obtain ⟨o, e, c, d⟩ := id st'
    exact ⟨u, rfl, go_of (s := { s with heap := h' }) e c d (by decide) ⟨x, H, I1, ru, ⟨rfl, fun ys hy => by rw [I.tuple_inj hy hq]; exact hx⟩, st', fun b hb => (hf b hb).1⟩⟩
  done := by
    intro X hP hw hK hc i pins s σ H E I hf st hg
    subst hP hw hK
    obtain ⟨xs, hq, hx⟩ := hg
    obtain ⟨its, rv, p, hz⟩ := I.tuple hq
    obtain ⟨f0, f1, f2, f3, f4, f5⟩ := hf it (by simp)
    have hl := rv.length
    exact wpAny_pyNext_tuple_end (I.ok.hd hc) st (show s.heap.IsTuple a its.toArray from p) (by simp; omega) fun h' eb => ⟨rfl, I.turned (t' := s.toks) (fun b o hb e => eb b o hb e) f0 f1 f3 f4 f5⟩
  self := fun _ _ _ _ _ st h => wpAny_pyIter_tupleiter st h
theorem turn_range {P : Program} {w : World} {K : PySem.W.Frag} {tg : Expr} (it : Addr) (lo : Int) (n : Nat) : Turn P w K tg (Itr lo n) [it] it (fun i h => IsRangeIter h it (lo + (i : Nat) * 1) ((n : Int) - (i : Nat)) 1) where
  mem := by simp
  obj := fun i h st b hb => by
    have e : b = it := by simpa using hb
    subst e
    exact ⟨_, st, fun v z => by
      have z' : Data.fields _ = Data.cell v := z
      cases z'⟩
  keep := fun i h h' st k => k it (by simp) _ st
  item := by
    intro X hP hw hK hc i pins s σ H E I hf st hg
    subst hP hw hK
    obtain ⟨f0, f1, f2, f3, f4, f5⟩ := hf it (by simp)
    have W := Walks.range (prog := X.prog) (w := X.w) (I.ok.hd hc) it lo 1 n
    refine W.item i s _ _ hg st fun v h' tk hv st' kk => ?_
    obtain ⟨t, rfl⟩ := hv
    have I1 : Inv X pins σ H { s with heap := h', toks := tk } := I.turned (fun b o hb e => kk b o (by simpa using hb) e) f0 f1 f3 f4 f5
    refine ⟨_, rfl, go_of (s := { s with heap := h', toks := tk }) (n := "range_iterator") st' rfl rfl (by decide) ⟨.int (lo + i), H, I1, ⟨t, ?_⟩, ⟨rfl, rfl⟩, st', fun b hb => (hf b hb).1⟩⟩
    rw [Int.mul_one]
  done := by
    intro X hP hw hK hc i pins s σ H E I hf st hg
    subst hP hw hK
    obtain ⟨f0, f1, f2, f3, f4, f5⟩ := hf it (by simp)
    exact wpAny_pyNext_range_end (I.ok.hd hc) st (by have : n ≤ i := hg; omega) fun h' eb => ⟨rfl, I.turned (t' := s.toks) (fun b o hb e => eb b o hb e) f0 f1 f3 f4 f5⟩
  self := fun _ _ _ _ _ st h => wpAny_pyIter_rangeiter st h
end L2
namespace L2
open PySem PySem.Spec PyProof.Rows
section
variable {X : Cx} {tg : Expr}
def iList (K : PySem.W.Frag) (tl : TE) : TI := fun σ H R => tl σ H fun x H1 => ∃ a, x = .ref a ∧ (∃ xs, SqL K H1 a xs) ∧ R (Itl K a) H1
def iTup (K : PySem.W.Frag) (tl : TE) : TI := fun σ H R => tl σ H fun x H1 => ∃ a, x = .ref a ∧ (∃ xs, SqT K H1 a xs) ∧ R (Itt K a) H1
theorem pi_list {l : Expr} {tl : TE} (hl : PE X l tl) : PI X tg l (iList X.K tl) := by
  intro pins s σ H R I h
  refine thn (hl pins s σ H _ I h) fun v s1 ⟨x, H1, I1, r1, q1⟩ => ?_
  obtain ⟨a, e, ⟨xs, hq⟩, q⟩ := q1
  subst e
  cases r1
  obtain ⟨its, rv, p, hz⟩ := I1.list hq
  refine wpAny_pyIter_list p.isList ?_
  refine ⟨s1.heap.objs.size, [s1.heap.objs.size], _, _, H1, rfl, I1.kept (t' := s1.toks) fun b o e => Heap.get?_push_of_some _ e, turn_list a _, ⟨_, Heap.get?_push_size _ rfl, rfl, rfl⟩, fun b hb => ?_, q⟩
  have e : b = s1.heap.objs.size := by simpa using hb
  subst e
  exact I1.fpOk (Nat.le_refl _) (I1.hok.fresh (Nat.le_refl _))
theorem pi_tup {l : Expr} {tl : TE} (hl : PE X l tl) : PI X tg l (iTup X.K tl) := by
  intro pins s σ H R I h
  refine thn (hl pins s σ H _ I h) fun v s1 ⟨x, H1, I1, r1, q1⟩ => ?_
  obtain ⟨a, e, ⟨xs, hq⟩, q⟩ := q1
  subst e
  cases r1
  obtain ⟨its, rv, p, hz⟩ := I1.tuple hq
  refine wpAny_pyIter_tuple (show s1.heap.IsTuple a its.toArray from p) ?_
  refine ⟨s1.heap.objs.size, [s1.heap.objs.size], _, _, H1, rfl, I1.kept (t' := s1.toks) fun b o e => Heap.get?_push_of_some _ e, turn_tuple a _, ⟨_, Heap.get?_push_size _ rfl, rfl, rfl⟩, fun b hb => ?_, q⟩
  have e : b = s1.heap.objs.size := by simpa using hb
  subst e
  exact I1.fpOk (Nat.le_refl _) (I1.hok.fresh (Nat.le_refl _))
theorem range_it {pins : List (Addr × Obj)} {σ : St} {H : Hp} {s : Shared} {R : It → Hp → Prop} {E : Value → Shared → Prop} {lo hi : Int} {t u v : Tok} {tk : Nat} (I : Inv X pins σ H s) (h1 : -(2 ^ 62) ≤ lo) (h2 : lo < 2 ^ 62) (h3 : -(2 ^ 62) ≤ hi) (h4 : hi < 2 ^ 62)
    (q : R (Itr lo (hi - lo).toNat) H) : wpAny (model X.prog X.w) X.A (pyIter (.ref s.heap.objs.size)) (PIE X pins σ tg R) E { s with heap := s.heap.push { cls := .type "range", data := .fields #[.int lo t, .int hi u, .int 1 v] }, toks := tk } := by
  refine wpAny_pyIter_range (IsRange.new ..) (small_one h1 h2 h3 h4) ?_
  have I1 : Inv X pins σ H { s with heap := s.heap.push { cls := .type "range", data := .fields #[.int lo t, .int hi u, .int 1 v] }, toks := tk } := I.kept fun b o e => Heap.get?_push_of_some _ e
  refine ⟨(s.heap.push { cls := .type "range", data := .fields #[.int lo t, .int hi u, .int 1 v] }).objs.size, [(s.heap.push { cls := .type "range", data := .fields #[.int lo t, .int hi u, .int 1 v] }).objs.size], _, _, H, rfl,
    I1.kept (t' := tk) fun b o e => Heap.get?_push_of_some _ e, turn_range _ lo (hi - lo).toNat, ?_, fun b hb => ?_, q⟩
  · have e1 : lo + ((0 : Nat) : Int) * 1 = lo := by simp
    have e2 : (((hi - lo).toNat : Nat) : Int) - ((0 : Nat) : Int) = Builtin.Range.rangeSize lo hi 1 := by rw [rangeSize_one]; split <;> omega
    show IsRangeIter _ _ (lo + ((0 : Nat) : Int) * 1) ((((hi - lo).toNat : Nat) : Int) - ((0 : Nat) : Int)) 1
    rw [e1, e2]
    exact Heap.get?_push_size _ rfl
  · have e : b = (s.heap.push { cls := .type "range", data := .fields #[.int lo t, .int hi u, .int 1 v] }).objs.size := by simpa using hb
    subst e
    exact I1.fpOk (Nat.le_refl _) (I1.hok.fresh (Nat.le_refl _))
def iRng1 (ta : TA) : TI := fun σ H R => ta σ H fun vs H1 => ∃ j : Int, vs = [.int j] ∧ -(2 ^ 62) ≤ j ∧ j < 2 ^ 62 ∧ R (Itr 0 j.toNat) H1
def iRng2 (ta : TA) : TI := fun σ H R => ta σ H fun vs H1 => ∃ i j : Int, vs = [.int i, .int j] ∧ (-(2 ^ 62) ≤ i ∧ i < 2 ^ 62 ∧ -(2 ^ 62) ≤ j ∧ j < 2 ^ 62) ∧ R (Itr i (j - i).toNat) H1
theorem pi_range1 {a : Expr} {ta : TA} {p pos : Pos} (hg : Gl X "range") (hm : X.mg "range" = none) (ha : PA X [a] ta) (hs : starEach [a] X.env = [(false, eval a X.env)] := by rfl) : PI X tg (.Call (.Name "range" p) [a] [] pos) (iRng1 ta) := by
  intro pins s σ H R I h
  refine Call_ (ld_blt I hg hm boot_range (PyProof.Rows.callWith_type1 (thn (ha pos pins s σ H _ I h) fun us s1 ⟨vs, H1, I1, r1, q1⟩ => ?_) hs rfl))
  obtain ⟨j, e, q1, q2, q⟩ := q1
  subst e
  cases r1 with
  | cons r rr =>
    cases rr
    obtain ⟨t, rfl⟩ := r
    exact call_range_1 (range_it I1 (by omega) (by omega) q1 q2 (by simpa using q))
def tFor (wi : TI) (g : TG) (tb : TS) : TS := fun D σ H => wi σ H fun J H1 => ∃ W : Nat → Nat → St → Hp → Prop, (∃ m, W 0 m σ H1) ∧ ∀ i m σ H, W i m σ H →
  (J.stop i H ∧ D.nx σ H) ∨ (J.go i H ∧ ∃ N : St → Hp → Prop, (∀ σ' H', N σ' H' → ∃ m', m' < m ∧ W (i + 1) m' σ' H') ∧ ∀ x H', J.yld i H x H' → g x σ H' fun σ2 H2 => tb { D with nx := N, ct := N, bk := D.nx } σ2 H2)
def pinsAt (fp : List Addr) (h : Heap) : List (Addr × Obj) := fp.filterMap fun b => (h.get? b).map fun o => (b, o)
theorem mem_pinsAt {fp : List Addr} {h : Heap} {b : Addr} {o : Obj} (hb : b ∈ fp) (e : h.get? b = some o) : (b, o) ∈ pinsAt fp h := List.mem_filterMap.mpr ⟨b, hb, by rw [e]; rfl⟩
theorem of_pinsAt {fp : List Addr} {h : Heap} {p : Addr × Obj} (hp : p ∈ pinsAt fp h) : p.1 ∈ fp ∧ h.get? p.1 = some p.2 := by
  obtain ⟨b, hb, e⟩ := List.mem_filterMap.mp hp
  cases q : h.get? b with
  | none => rw [q] at e; cases e
  | some o =>
    rw [q] at e
    have e' : (b, o) = p := Option.some.inj e
    subst e'
    exact ⟨hb, q⟩
theorem Inv.pinned {pins : List (Addr × Obj)} {σ : St} {H : Hp} {s : Shared} {fp : List Addr} (I : Inv X pins σ H s) (hf : ∀ b ∈ fp, FpOk X pins H b) (ho : ∀ b ∈ fp, ∃ o, s.heap.get? b = some o ∧ ∀ v, o.data ≠ .cell v) : Inv X (pins ++ pinsAt fp s.heap) σ H s :=
  I.pins_of fun p hp => (List.mem_append.mp hp).elim (fun z => I.pin p (List.mem_append_right _ z)) fun z => by
    obtain ⟨hb, e⟩ := of_pinsAt z
    obtain ⟨f0, f1, f2, _⟩ := hf p.1 hb
    obtain ⟨o, e', d⟩ := ho p.1 hb
    rw [e] at e'; cases e'
    exact ⟨e, f0, f1, f2, d⟩
theorem Inv.unpinned {pins pl : List (Addr × Obj)} {σ : St} {H : Hp} {s : Shared} (I : Inv X (pins ++ pl) σ H s) : Inv X pins σ H s := I.pins_of fun p hp => I.pin p (List.mem_append_right _ (List.mem_append_left _ hp))
theorem ps_for {iter : Expr} {body : List Stmt} {wi : TI} {g : TG} {tb : TS} {pos : Pos} (hp : PassesOwn (model X.prog X.w) X.A X.env X.xe) (hc : X.calm = true) (hi : PI X tg iter wi) (hg : PG X tg g) (hb : PSs X body tb)
    (hs : ∀ x, foldedSetIterable iter X.env x = pure x := by intro _; rfl) : PS X (.For tg iter body [] pos) (tFor wi g tb) := by
  intro pins s σ H D I h
  refine wpAny_For (thn (hi pins s σ H _ I h) fun v s1 h1 => thn h1 fun itv s2 h2 => ?_) hs
  obtain ⟨it, fp, tn, J, H2, e, I2, T, st2, f2, W, ⟨m0, w0⟩, turn⟩ := h2
  subst e
  have stat : ∀ {H' : Hp}, (∀ b ∈ fp, H' b = none) → ∀ b ∈ fp, FpOk X pins H' b := fun hn b hb => ⟨hn b hb, (f2 b hb).2⟩
  refine codeAny_forLoop_any (fun n s' => ∃ i σ' H', Inv X pins σ' H' s' ∧ tn i s'.heap ∧ (∀ b ∈ fp, H' b = none) ∧ W i n σ' H') ?_ m0 ⟨0, σ, H2, I2, st2, fun b hb => (f2 b hb).1, w0⟩
  rintro n s3 ⟨i, σ3, H3, I3, st3, fr3, w3⟩
  rcases turn i n σ3 H3 w3 with ⟨stop, qn⟩ | ⟨go, N, hN, step⟩
  · refine wpAny_passesOwn hp (thn (T.done X rfl rfl rfl hc i pins s3 σ3 H3 X.xe I3 (stat fr3) st3 stop) fun r s4 ⟨hr, I4⟩ => ?_)
    subst hr
    exact wpAny_execs_nil ⟨σ3, H3, I4, qn⟩
  · refine wpAny_passesOwn hp (thn (T.item X rfl rfl rfl hc i pins s3 σ3 H3 X.xe I3 (stat fr3) st3 go) fun r s4 ⟨u, hr, h4⟩ => ?_)
    subst hr
    refine wpAny_passesOwn hp (thn h4 fun _ s5 ⟨x, H5, I5, r5, y5, st5, fr5⟩ => ?_)
    have I5' := I5.pinned (stat fr5) (T.obj _ _ st5)
    refine wpAny_passesOwn hp (thn (hg _ s5 σ3 H5 x u _ I5' r5 (step x H5 y5)) fun _ s6 ⟨σ6, H6, I6, q6⟩ => ?_)
    refine wpAny_passesOwn hp (thn (hb _ s6 σ6 H6 _ I6 q6) fun f s7 q7 => ?_)
    have again : ∀ {σ7 : St} {H7 : Hp}, Inv X (pins ++ pinsAt fp s5.heap) σ7 H7 s7 → N σ7 H7 → ∃ m, m < n ∧ ∃ i σ' H', Inv X pins σ' H' s7 ∧ tn i s7.heap ∧ (∀ b ∈ fp, H' b = none) ∧ W i m σ' H' := fun {σ7 H7} I7 n7 => by
      obtain ⟨m', hm, w7⟩ := hN σ7 H7 n7
      refine ⟨m', hm, i + 1, σ7, H7, I7.unpinned, T.keep _ _ _ st5 fun b hb o e => (I7.pin (b, o) (List.mem_append_right _ (List.mem_append_right _ (mem_pinsAt hb e)))).1, fun b hb => ?_, w7⟩
      obtain ⟨o, e, d⟩ := T.obj _ _ st5 b hb
      exact (I7.pin (b, o) (List.mem_append_right _ (List.mem_append_right _ (mem_pinsAt hb e)))).2.1
    cases f with
    | next => obtain ⟨σ7, H7, I7, n7⟩ := q7; exact again I7 n7
    | cont => obtain ⟨σ7, H7, I7, n7⟩ := q7; exact again I7 n7
    | brk => obtain ⟨σ7, H7, I7, q7⟩ := q7; exact ⟨σ7, H7, I7.unpinned, q7⟩
    | ret v => obtain ⟨x7, σ7, H7, I7, r7, q7⟩ := q7; exact ⟨x7, σ7, H7, I7.unpinned, r7, q7⟩
end
end L2
namespace L2
open PySem PySem.Spec PyProof.Rows
abbrev R2 := V → V → Hp → VK → Prop
def OpR (X : Cx) (f : Value → Value → Sem Value) (r : R2) : Prop :=
  ∀ (pins : List (Addr × Obj)) (s : Shared) (σ : St) (H : Hp) (x y : V) (v u : Value) (Q : VK), Inv X pins σ H s → RelV x v → RelV y u → r x y H Q →
    wpAny (model X.prog X.w) X.A (f v u) (EP X pins σ Q) X.xe s
def UnR (X : Cx) (f : Value → Sem Value) (r : V → Hp → VK → Prop) : Prop :=
  ∀ (pins : List (Addr × Obj)) (s : Shared) (σ : St) (H : Hp) (x : V) (v : Value) (Q : VK), Inv X pins σ H s → RelV x v → r x H Q →
    wpAny (model X.prog X.w) X.A (f v) (EP X pins σ Q) X.xe s
def CallR (X : Cx) (f : Value) (r : List V → Hp → VK → Prop) : Prop :=
  ∀ (pins : List (Addr × Obj)) (s : Shared) (σ : St) (H : Hp) (xs : List V) (us : List Value) (Q : VK), Inv X pins σ H s → Vals xs us → r xs H Q →
    wpAny (model X.prog X.w) X.A (call f us) (EP X pins σ Q) X.xe s
def TruR (X : Cx) (r : V → Hp → (Bool → Hp → Prop) → Prop) : Prop :=
  ∀ (pins : List (Addr × Obj)) (s : Shared) (σ : St) (H : Hp) (x : V) (v : Value) (Q : Bool → Hp → Prop), Inv X pins σ H s → RelV x v → r x H Q →
    wpAny (model X.prog X.w) X.A (truthy v) (TP X pins σ Q) X.xe s
def tOp (r : R2) (ta tb : TE) : TE := fun σ H Q => ta σ H fun x H1 => tb σ H1 fun y H2 => r x y H2 Q
def tUn (r : V → Hp → VK → Prop) (ta : TE) : TE := fun σ H Q => ta σ H fun x H1 => r x H1 Q
def rI (C : Int → Int → Prop) (g : Int → Int → V) : R2 := fun x y H Q => ∃ i j, x = .int i ∧ y = .int j ∧ C i j ∧ Q (g i j) H
def rI0 (g : Int → Int → V) : R2 := fun x y H Q => ∃ i j, x = .int i ∧ y = .int j ∧ Q (g i j) H
def rU (g : Int → V) : V → Hp → VK → Prop := fun x H Q => ∃ i, x = .int i ∧ Q (g i) H
section
variable {X : Cx} {a b c : Expr} {ta tb tc : TE} {pos : Pos}
theorem binT (ha : PE X a ta) (hb : PE X b tb) {pins : List (Addr × Obj)} {s : Shared} {σ : St} {H : Hp} {R : V → V → Hp → Prop} (I : Inv X pins σ H s)
    (h : ta σ H fun x H1 => tb σ H1 fun y H2 => R x y H2) {Q : Value → Shared → Prop} {f : Value → Value → Sem Value}
    (hf : ∀ v u s2 x y H2, Inv X pins σ H2 s2 → RelV x v → RelV y u → R x y H2 → wpAny (model X.prog X.w) X.A (f v u) Q X.xe s2) :
    wpAny (model X.prog X.w) X.A (eval a X.env) (fun v s₁ => wpAny (model X.prog X.w) X.A (eval b X.env) (fun u s₂ => wpAny (model X.prog X.w) X.A (f v u) Q X.xe s₂) X.xe s₁) X.xe s := by
  refine thn (ha pins s σ H _ I h) fun v s1 ⟨x, H1, I1, r1, q1⟩ => ?_
  refine thn (hb pins s1 σ H1 _ I1 q1) fun u s2 ⟨y, H2, I2, r2, q2⟩ => ?_
  exact hf v u s2 x y H2 I2 r1 r2 q2
theorem pe_op {op : Operator} {r : R2} (ho : OpR X (binaryOp op) r) (ha : PE X a ta) (hb : PE X b tb) : PE X (.BinOp a op b pos) (tOp r ta tb) := by
  intro pins s σ H Q I h
  exact wpAny_BinOp (binT ha hb I h fun v u s2 x y H2 I2 rx ry q => ho pins s2 σ H2 x y v u Q I2 rx ry q)
theorem pe_un {op : UnaryOp} {r : V → Hp → VK → Prop} (ho : UnR X (unaryOp op) r) (ha : PE X a ta) : PE X (.UnaryOp op a pos) (tUn r ta) := by
  intro pins s σ H Q I h
  exact UnaryOp_ (thn (ha pins s σ H _ I h) fun v s1 ⟨x, H1, I1, r1, q1⟩ => ho pins s1 σ H1 x v Q I1 r1 q1)
theorem opI {f : Value → Value → Sem Value} {C : Int → Int → Prop} {g : Int → Int → Int}
    (rule : ∀ (i j : Int) (t u : Tok) (s : Shared) (Q : Value → Shared → Prop) (E : Value → Shared → Prop), C i j → Q (.int (g i j) s.toks) { s with toks := s.toks + 1 } → wpAny (model X.prog X.w) X.A (f (.int i t) (.int j u)) Q E s) :
    OpR X f (rI C fun i j => .int (g i j)) := by
  intro pins s σ H x y v u Q I rx ry h
  obtain ⟨i, j, rfl, rfl, hc, q⟩ := h
  obtain ⟨t, rfl⟩ := rx
  obtain ⟨t', rfl⟩ := ry
  exact rule i j t t' s _ _ hc ⟨.int (g i j), H, I.tok _, ⟨_, rfl⟩, q⟩
theorem opI0 {f : Value → Value → Sem Value} {g : Int → Int → Int}
    (rule : ∀ (i j : Int) (t u : Tok) (s : Shared) (Q : Value → Shared → Prop) (E : Value → Shared → Prop), Q (.int (g i j) s.toks) { s with toks := s.toks + 1 } → wpAny (model X.prog X.w) X.A (f (.int i t) (.int j u)) Q E s) :
    OpR X f (rI0 fun i j => .int (g i j)) := by
  intro pins s σ H x y v u Q I rx ry h
  obtain ⟨i, j, rfl, rfl, q⟩ := h
  obtain ⟨t, rfl⟩ := rx
  obtain ⟨t', rfl⟩ := ry
  exact rule i j t t' s _ _ ⟨.int (g i j), H, I.tok _, ⟨_, rfl⟩, q⟩
theorem opB0 {f : Value → Value → Sem Value} {g : Int → Int → Bool}
    (rule : ∀ (i j : Int) (t u : Tok) (s : Shared) (Q : Value → Shared → Prop) (E : Value → Shared → Prop), Q (.bool (g i j)) s → wpAny (model X.prog X.w) X.A (f (.int i t) (.int j u)) Q E s) :
    OpR X f (rI0 fun i j => .bl (g i j)) := by
  intro pins s σ H x y v u Q I rx ry h
  obtain ⟨i, j, rfl, rfl, q⟩ := h
  obtain ⟨t, rfl⟩ := rx
  obtain ⟨t', rfl⟩ := ry
  exact rule i j t t' s _ _ ⟨.bl (g i j), H, I, rfl, q⟩
def CDiv (i j : Int) : Prop := 0 < j ∧ j < 1073741824
def CDivN (i j : Int) : Prop := j ≠ 0 ∧ j.natAbs < 1073741824
def CPow (i j : Int) : Prop := 0 ≤ j ∧ j ≤ 1000000 ∧ i.natAbs < 2 ^ 64
def CMul (i j : Int) : Prop := (-(2 ^ 64) < i ∧ i < 2 ^ 64) ∨ (-(2 ^ 64) < j ∧ j < 2 ^ 64)
theorem CMul.ok {i j : Int} (h : CMul i j) : IntMulOk i j := by
  rcases h with ⟨h1, h2⟩ | ⟨h1, h2⟩
  · exact .of_left (intBits_le_64 h1 h2)
  · exact .of_right (intBits_le_64 h1 h2)
theorem op_add : OpR X (binaryOp .Add) (rI0 fun i j => .int (i + j)) := opI0 fun _ _ _ _ _ _ _ q => add_int q
theorem op_sub : OpR X (binaryOp .Sub) (rI0 fun i j => .int (i - j)) := opI0 fun _ _ _ _ _ _ _ q => sub_int q
theorem op_mul : OpR X (binaryOp .Mult) (rI CMul fun i j => .int (i * j)) := opI fun _ _ _ _ _ _ _ hc q => mul_int q hc.ok
theorem op_mod : OpR X (binaryOp .Mod) (rI (fun _ j => 0 < j) fun i j => .int (i % j)) := opI fun i j _ _ _ _ _ hc q => by
  have h1 : (0 : Int) < j := hc
  exact mod_int' (by omega) (by rw [Int.fmod_eq_emod_of_nonneg i (by omega)]; exact q)
theorem op_pow : OpR X (binaryOp .Pow) (rI CPow fun i j => .int (i ^ j.toNat)) := opI fun _ _ _ _ _ _ _ hc q => pow_int_small hc.1 hc.2.1 hc.2.2 q
theorem unI {f : Value → Sem Value} {g : Int → Int}
    (rule : ∀ (i : Int) (t : Tok) (s : Shared) (Q : Value → Shared → Prop) (E : Value → Shared → Prop), Q (.int (g i) s.toks) { s with toks := s.toks + 1 } → wpAny (model X.prog X.w) X.A (f (.int i t)) Q E s) :
    UnR X f (rU fun i => .int (g i)) := by
  intro pins s σ H x v Q I rx h
  obtain ⟨i, rfl, q⟩ := h
  obtain ⟨t, rfl⟩ := rx
  exact rule i t s _ _ ⟨.int (g i), H, I.tok _, ⟨_, rfl⟩, q⟩
theorem un_neg : UnR X (unaryOp .USub) (rU fun i => .int (-i)) := unI fun _ _ _ _ _ q => neg_int q
end
def scal : V → V → Bool
  | .non, .non => true | .non, .int _ => true | .int _, .non => true | .non, .bl _ => true | .bl _, .non => true | .non, .str _ => true | .str _, .non => true
  | .int _, .int _ => true | .bl _, .bl _ => true | .str _, .str _ => true | .byt _, .byt _ => true
  | .int _, .str _ => true | .str _, .int _ => true | .bl _, .str _ => true | .str _, .bl _ => true
  | _, _ => false
def rEq : R2 := fun x y H Q => scal x y = true ∧ Q (.bl (decide (x = y))) H
def rNe : R2 := fun x y H Q => scal x y = true ∧ Q (.bl (!decide (x = y))) H
theorem dec_int {i j : Int} : decide (V.int i = V.int j) = (i == j) := by
  rw [Bool.eq_iff_iff]
  simp
theorem dec_bl {i j : Bool} : decide (V.bl i = V.bl j) = (i == j) := by
  rw [Bool.eq_iff_iff]
  simp
theorem dec_str {i j : Str} : decide (V.str i = V.str j) = (i == j) := by
  rw [Bool.eq_iff_iff]
  simp
theorem dec_byt {i j : Array UInt8} : decide (V.byt i = V.byt j) = (i.toList == j.toList) := by
  rw [Bool.eq_iff_iff]
  cases i
  cases j
  simp
section
variable {X : Cx} {a b c : Expr} {ta tb tc : TE} {pos : Pos}
theorem fin_bl {pins : List (Addr × Obj)} {σ : St} {H : Hp} {s : Shared} {Q : VK} {k k' : Bool} (I : Inv X pins σ H s) (q : Q (.bl k) H) (e : k = k') : EP X pins σ Q (.bool k') s := by
  subst e
  exact ⟨.bl k, H, I, rfl, q⟩
theorem op_eq : OpR X (compareOp .Eq) rEq := by
  intro pins s σ H x y v u Q I rx ry h
  obtain ⟨hs, q⟩ := h
  cases x with
  | non =>
    cases rx
    cases y with
    | non => cases ry; exact PySem.EqNone.eq_none_none (fin_bl I q (by simp))
    | bl j => cases ry; exact PySem.EqNone.eq_none_bool (fin_bl I q (by simp))
    | int j => obtain ⟨t', rfl⟩ := ry; exact PySem.EqNone.eq_none_int (fin_bl I q (by simp))
    | str j => obtain ⟨t', rfl⟩ := ry; exact PySem.EqNone.eq_none_str (fin_bl I q (by simp))
    | _ => exact absurd (show false = true from hs) Bool.false_ne_true
  | bl i =>
    cases rx
    cases y with
    | non => cases ry; exact PySem.EqNone.eq_bool_none (fin_bl I q (by simp))
    | bl j => cases ry; exact eq_bool (fin_bl I q dec_bl)
    | str j => obtain ⟨t', rfl⟩ := ry; exact PySem.EqMixed.eq_bool_str (fin_bl I q (by simp))
    | _ => exact absurd (show false = true from hs) Bool.false_ne_true
  | int i =>
    obtain ⟨t, rfl⟩ := rx
    cases y with
    | non => cases ry; exact PySem.EqNone.eq_int_none (fin_bl I q (by simp))
    | int j => obtain ⟨t', rfl⟩ := ry; exact eq_int (fin_bl I q dec_int)
    | str j => obtain ⟨t', rfl⟩ := ry; exact PySem.EqMixed.eq_int_str (fin_bl I q (by simp))
    | _ => exact absurd (show false = true from hs) Bool.false_ne_true
  | str i =>
    obtain ⟨t, rfl⟩ := rx
    cases y with
    | non => cases ry; exact PySem.EqNone.eq_str_none (fin_bl I q (by simp))
    | bl j => cases ry; exact PySem.EqMixed.eq_str_bool (fin_bl I q (by simp))
    | int j => obtain ⟨t', rfl⟩ := ry; exact PySem.EqMixed.eq_str_int (fin_bl I q (by simp))
    | str j => obtain ⟨t', rfl⟩ := ry; exact eq_str (fin_bl I q dec_str)
    | _ => exact absurd (show false = true from hs) Bool.false_ne_true
  | byt i =>
    obtain ⟨t, rfl⟩ := rx
    cases y with
    | byt j => obtain ⟨t', rfl⟩ := ry; exact PySem.W.eq_bytes (fin_bl I q dec_byt)
    | _ => exact absurd (show false = true from hs) Bool.false_ne_true
  | _ => cases y <;> exact absurd (show false = true from hs) Bool.false_ne_true
theorem op_ne : OpR X (compareOp .NotEq) rNe := by
  intro pins s σ H x y v u Q I rx ry h
  obtain ⟨hs, q⟩ := h
  cases x with
  | non =>
    cases rx
    cases y with
    | non => cases ry; exact PySem.EqNone.ne_none_none (fin_bl I q (by simp))
    | bl j => cases ry; exact PySem.EqNone.ne_none_bool (fin_bl I q (by simp))
    | int j => obtain ⟨t', rfl⟩ := ry; exact PySem.EqNone.ne_none_int (fin_bl I q (by simp))
    | str j => obtain ⟨t', rfl⟩ := ry; exact PySem.EqNone.ne_none_str (fin_bl I q (by simp))
    | _ => exact absurd (show false = true from hs) Bool.false_ne_true
  | bl i =>
    cases rx
    cases y with
    | non => cases ry; exact PySem.EqNone.ne_bool_none (fin_bl I q (by simp))
    | bl j => cases ry; exact ne_bool (fin_bl I q (congrArg not dec_bl))
    | str j => obtain ⟨t', rfl⟩ := ry; exact PySem.EqMixed.ne_bool_str (fin_bl I q (by simp))
    | _ => exact absurd (show false = true from hs) Bool.false_ne_true
  | int i =>
    obtain ⟨t, rfl⟩ := rx
    cases y with
    | non => cases ry; exact PySem.EqNone.ne_int_none (fin_bl I q (by simp))
    | int j => obtain ⟨t', rfl⟩ := ry; exact ne_int (fin_bl I q (congrArg not dec_int))
    | str j => obtain ⟨t', rfl⟩ := ry; exact PySem.EqMixed.ne_int_str (fin_bl I q (by simp))
    | _ => exact absurd (show false = true from hs) Bool.false_ne_true
  | str i =>
    obtain ⟨t, rfl⟩ := rx
    cases y with
    | non => cases ry; exact PySem.EqNone.ne_str_none (fin_bl I q (by simp))
    | bl j => cases ry; exact PySem.EqMixed.ne_str_bool (fin_bl I q (by simp))
    | int j => obtain ⟨t', rfl⟩ := ry; exact PySem.EqMixed.ne_str_int (fin_bl I q (by simp))
    | str j => obtain ⟨t', rfl⟩ := ry; exact ne_str (fin_bl I q (congrArg not dec_str))
    | _ => exact absurd (show false = true from hs) Bool.false_ne_true
  | byt i =>
    obtain ⟨t, rfl⟩ := rx
    cases y with
    | byt j => obtain ⟨t', rfl⟩ := ry; exact PySem.W.ne_bytes (fin_bl I q (congrArg not dec_byt))
    | _ => exact absurd (show false = true from hs) Bool.false_ne_true
  | _ => cases y <;> exact absurd (show false = true from hs) Bool.false_ne_true
theorem op_lt : OpR X (compareOp .Lt) (rI0 fun i j => .bl (decide (i < j))) := opB0 fun _ _ _ _ _ _ _ q => lt_int q
theorem op_gt : OpR X (compareOp .Gt) (rI0 fun i j => .bl (decide (j < i))) := opB0 fun _ _ _ _ _ _ _ q => gt_int q
theorem op_ge : OpR X (compareOp .GtE) (rI0 fun i j => .bl (decide (j ≤ i))) := opB0 fun _ _ _ _ _ _ _ q => ge_int q
def isObj : HO → Bool
  | .lst _ => true
  | .ins _ _ _ => true
  | _ => false
theorem OpR.or {f : Value → Value → Sem Value} {r r' : R2} (h : OpR X f r) (h' : OpR X f r') : OpR X f (fun x y H Q => r x y H Q ∨ r' x y H Q) := by
  intro pins s σ H x y v u Q I rx ry q
  rcases q with q | q
  · exact h pins s σ H x y v u Q I rx ry q
  · exact h' pins s σ H x y v u Q I rx ry q
theorem nomark (b : Expr) {op : CmpOp} (h : op ≠ .In := by decide) (h2 : op ≠ .NotIn := by decide) : behindInMarks op b = false := by
  have e1 : (op == CmpOp.In) = false := by cases op <;> first | rfl | exact absurd rfl h
  have e2 : (op == CmpOp.NotIn) = false := by cases op <;> first | rfl | exact absurd rfl h2
  cases b <;> simp [behindInMarks, e1, e2]
theorem pe_cmpR {op : CmpOp} {r : R2} (ho : OpR X (compareOp op) r) (ha : PE X a ta) (hb : PE X b tb) (hm : behindInMarks op b = false) : PE X (.Compare a [op] [b] pos) (tOp r ta tb) := by
  intro pins s σ H Q I h
  exact wpAny_Compare1 (binT ha hb I h fun v u s2 x y H2 I2 rx ry q => ho pins s2 σ H2 x y v u Q I2 rx ry q) hm
def tTest (t : TE) : TT := fun σ H Q => t σ H fun x H' => ∃ k, x = .bl k ∧ Q k H'
theorem pt_cmpR {op : CmpOp} {r : R2} (ho : OpR X (compareOp op) r) (ha : PE X a ta) (hb : PE X b tb) (hm : behindInMarks op b = false) : PT X (.Compare a [op] [b] pos) (tTest (tOp r ta tb)) := by
  intro pins s σ H Q I h
  refine wpAny_isTrue_Compare1 (thn (ha pins s σ H _ I h) fun v s1 ⟨x, H1, I1, r1, q1⟩ => thn (hb pins s1 σ H1 _ I1 q1) fun u s2 ⟨y, H2, I2, r2, q2⟩ =>
    thn (ho pins s2 σ H2 x y v u _ I2 r1 r2 q2) fun c s3 ⟨z, H3, I3, r3, k, e, q3⟩ => ?_) hm
  subst e
  cases r3
  exact wpAny_truthy_bool ⟨H3, I3, q3⟩
def tChain (r r' : R2) (ta tb tc : TE) : TE := fun σ H Q => ta σ H fun x H1 => tb σ H1 fun y H2 => r x y H2 fun z H3 => ∃ k, z = .bl k ∧
  (if k = true then tc σ H3 fun w' H4 => r' y w' H4 Q else Q (.bl false) H3)
def TruV (K : PySem.W.Frag) (x : V) (H : Hp) (k : Bool) : Prop :=
  match x with
  | .non => k = false
  | .bl b => k = b
  | .int i => k = (i != 0)
  | .str y => y.length ≤ sizeLine ∧ k = ((y.length : Int) != 0)
  | .byt y => y.size ≤ sizeLine ∧ k = ((y.size : Int) != 0)
  | .ref p => (∃ xs, SqL K H p xs ∧ k = !xs.isEmpty) ∨ (∃ xs, SqT K H p xs ∧ k = !xs.isEmpty) ∨ ∃ kvs, H p = some (.dK kvs) ∧ k = !kvs.isEmpty
  | _ => False
theorem isEmpty_kv {κ : Type} {kvs : List (κ × V)} {vs : List (κ × Value)} (r : KV kvs vs) : (!vs.isEmpty) = !kvs.isEmpty := by
  cases r <;> rfl
theorem isEmpty_of {xs : List V} {its : List Value} (r : Vals xs its) : (!its.toArray.isEmpty) = !xs.isEmpty := by
  cases r <;> simp
theorem line63 : (sizeLine : Nat) < 2 ^ 63 := by rw [sizeLine_eq]; decide
theorem tru_ok : TruR X (fun x H Q => ∃ k, TruV X.K x H k ∧ Q k H) := by
  intro pins s σ H x v Q I rx h
  obtain ⟨k, e, q⟩ := h
  have hl := line63
  have hs : sizeLine = 16777216 := sizeLine_eq
  cases x with
  | non =>
    cases rx
    have e' : k = false := e
    subst e'
    exact truthy_none ⟨H, I, q⟩
  | bl b =>
    cases rx
    have e' : k = b := e
    subst e'
    exact wpAny_truthy_bool ⟨H, I, q⟩
  | int i =>
    obtain ⟨t, rfl⟩ := rx
    have e' : k = (i != 0) := e
    subst e'
    exact PySem.P.truthy_int ⟨H, I, q⟩
  | str y =>
    obtain ⟨t, rfl⟩ := rx
    obtain ⟨hy, e'⟩ : y.length ≤ sizeLine ∧ k = ((y.length : Int) != 0) := e
    subst e'
    exact PySem.P.truthy_str (by omega) ⟨H, I.tok _, q⟩
  | byt y =>
    obtain ⟨t, rfl⟩ := rx
    obtain ⟨hy, e'⟩ : y.size ≤ sizeLine ∧ k = ((y.size : Int) != 0) := e
    subst e'
    exact PySem.W.truthy_bytes (by omega) ⟨H, I.tok _, q⟩
  | ref p =>
    cases rx
    have e' : (∃ xs, SqL X.K H p xs ∧ k = !xs.isEmpty) ∨ (∃ xs, SqT X.K H p xs ∧ k = !xs.isEmpty) ∨ ∃ kvs, H p = some (.dK kvs) ∧ k = !kvs.isEmpty := e
    rcases e' with ⟨xs, hx, e'⟩ | ⟨xs, hx, e'⟩ | ⟨kvs, hx, e'⟩
    · subst e'
      obtain ⟨its, r, pl, hz⟩ := I.list hx
      have hlen := r.length
      exact wpAny_truthy_list pl.isList (by simp only [List.size_toArray]; omega) ⟨H, I.tok _, by rw [isEmpty_of r]; exact q⟩
    · subst e'
      obtain ⟨its, r, pl, hz⟩ := I.tuple hx
      have hlen := r.length
      exact truthy_tuple pl (by simp only [List.size_toArray]; omega) ⟨H, I.tok _, by rw [isEmpty_of r]; exact q⟩
    · subst e'
      obtain ⟨hz, hS, vs, r, m⟩ : kvs.length ≤ sizeLine ∧ (p == sysModules) = false ∧ ∃ vs, KV kvs vs ∧ s.heap.DictOf (mixKind X.prog X.w) p vs := I.hok p _ hx
      have hlen : kvs.length = vs.length := Paired.length r
      exact wpAny_truthy_dict hS m (by omega) ⟨H, I.tok _, by rw [isEmpty_kv r]; exact q⟩
  | _ => exact (show False from e).elim
theorem pt_truth (ha : PE X a ta) (he : ∀ whole, isTrue a X.env whole = (do let v ← whole; standAt a.pos; holding [v] (truthy v))) :
    PT X a (fun σ H Q => ta σ H fun x H' => ∃ k, TruV X.K x H' k ∧ Q k H') := by
  intro pins s σ H Q I h
  exact isTrue_plain (thn (ha pins s σ H _ I h) fun v s1 ⟨x, H1, I1, r1, q1⟩ => tru_ok pins s1 σ H1 x v Q I1 r1 q1) (he _)
theorem op_add_str : OpR X (binaryOp .Add) (fun x y H Q => ∃ i j, x = .str i ∧ y = .str j ∧ i.length + j.length ≤ sizeLine ∧ Q (.str (i ++ j)) H) := by
  intro pins s σ H x y v u Q I rx ry h
  obtain ⟨i, j, rfl, rfl, hz, q⟩ := h
  obtain ⟨t, rfl⟩ := rx
  obtain ⟨t', rfl⟩ := ry
  exact add_str (fun t' tk => ⟨.str (i ++ j), H, I.tok _, ⟨_, rfl⟩, q⟩) hz
def PlainIxT (b : Expr) : Prop := ∀ o i, subscripted b false o i = operate [o, i] (getItem o i)
theorem vals1 {x : V} {us : List Value} (r : Vals [x] us) : ∃ u, us = [u] ∧ RelV x u := by
  cases r with
  | cons r1 r2 => cases r2; exact ⟨_, rfl, r1⟩
theorem call_int1 : CallR X (.type "int") (fun xs H Q => (∃ i, xs = [.int i] ∧ Q (.int i) H) ∨ ∃ k, xs = [.bl k] ∧ Q (.int (if k then 1 else 0)) H) := by
  intro pins s σ H xs us Q I r h
  rcases h with ⟨i, rfl, q⟩ | ⟨k, rfl, q⟩
  · obtain ⟨u, rfl, t, rfl⟩ := vals1 r
    exact call_int_int ⟨.int i, H, I, ⟨_, rfl⟩, q⟩
  · obtain ⟨u, rfl, r1⟩ := vals1 r
    cases r1
    exact call_int_bool ⟨.int (if k then 1 else 0), H, I.tok _, ⟨_, rfl⟩, q⟩
def LenV (K : PySem.W.Frag) (x : V) (H : Hp) (n : Nat) : Prop :=
  match x with
  | .str y => y.length ≤ sizeLine ∧ n = y.length
  | .byt y => y.size ≤ sizeLine ∧ n = y.size
  | .ref p => (∃ xs, SqL K H p xs ∧ n = xs.length) ∨ ∃ xs, SqT K H p xs ∧ n = xs.length
  | _ => False
end
end L2
namespace L2
open PySem PySem.Spec PyProof.Rows
structure ObjM (h : Heap) (x dx C : Addr) (mA : Str → Option Value) : Prop where
  obj : h.get? x = some (PySem.W.instObj C dx)
  ns : h.Ns1 dx mA
  ne : dx ≠ x
theorem lookIn_ns {h : Heap} {dx : Addr} {mA : Str → Option Value} (n : h.Ns1 dx mA) : ∃ od, h.get? dx = some od ∧ ∀ name, PySem.W.lookIn name od = some (mA name) := by
  obtain ⟨o, es, ep, ho, hd, hk, _, hm⟩ := n
  refine ⟨o, ho, fun name => ?_⟩
  have e := hm name
  unfold nsFind findBy at e
  rw [← Array.find?_toList] at e
  unfold PySem.W.lookIn
  rw [hd]
  dsimp only
  split
  · rename_i y q
    rw [q] at e
    exact congrArg some e
  · rename_i q
    rw [q] at e
    have a : es.toList.any (·.refKey) = false := by
      rw [List.any_eq_false]
      intro y hy
      obtain ⟨z, t, hkey⟩ := hk y (Array.mem_toList_iff.mp hy)
      simp [DictEntry.refKey, hkey]
    have a' : ¬ es.toList.any (·.refKey) = true := by rw [a]; exact Bool.false_ne_true
    rw [if_neg a']
    exact congrArg some e
theorem ObjM.look {h : Heap} {x dx C : Addr} {mA : Str → Option Value} (I : ObjM h x dx C mA) : ∃ od, PySem.W.InstAt h x (PySem.W.instObj C dx) C (some od) ∧ ∀ name, PySem.W.lookIn name od = some (mA name) :=
  let ⟨od, ho, hl⟩ := lookIn_ns I.ns
  ⟨od, ⟨I.obj, rfl, rfl, ho⟩, hl⟩
section
variable {prog : Program} {w : World} {A : Around} {E : Value → Shared → Prop} {s : Shared} {K : PySem.W.Frag} {x dx C f : Addr} {mA : Str → Option Value} {name : Str} {v : Value}
end
def putF (f : Str) (v : V) : List (Str × V) → List (Str × V)
  | [] => [(f, v)]
  | (g, x) :: r => if g = f then (g, v) :: r else (g, x) :: putF f v r
theorem RelO.some_of {v : V} {o : Option Value} (r : RelO (some v) o) : ∃ u, o = some u ∧ RelV v u := by
  cases o with
  | none => exact (show False from r).elim
  | some u => exact ⟨u, rfl, r⟩
theorem RelO.none_of {o : Option Value} (r : RelO none o) : o = none := by
  cases o with
  | none => rfl
  | some u => exact (show False from r).elim
section
variable {P : Program} {w : World} {H H' : Hp} {h h' : Heap} {a C dx : Addr} {fs fs' : List (Str × V)}
end
structure Cls (K : PySem.W.Frag) (C : Addr) : Prop where
  pg : PySem.W.plainGet K C Str.empty = true
  hd : PySem.W.hasDictIn K C = true
  po : PySem.W.plainOver K C = true
  sa : PySem.W.findIn K (.ref C) "__setattr__" = some (some (.builtin "object.__setattr__"))
theorem Cls.get {K : PySem.W.Frag} {C : Addr} (c : Cls K C) (f : Str) : PySem.W.plainGet K C f = true := c.pg
def NoAttr (K : PySem.W.Frag) (C : Addr) (f : Str) : Prop := PySem.W.findIn K (.ref C) f = some none
structure Con (K : PySem.W.Frag) (C : Addr) (f : Str) (v : V) (u : Value) : Prop where
  at_ : PySem.W.findIn K (.ref C) f = some (some u)
  rel : RelV v u
  get : PySem.W.specialIn K u "__get__" = some none
  cp : PySem.W.copiedNames.contains f = false
structure Meth (K : PySem.W.Frag) (C : Addr) (m : Str) (f : Addr) : Prop where
  at_ : PySem.W.findIn K (.ref C) m = some (some (.ref f))
  fn : PySem.W.isFn K (.ref f) = true
  kp : PySem.W.keepIn K (.ref f) = true
section
variable {X : Cx} {pins : List (Addr × Obj)} {σ : St} {H : Hp} {s : Shared} {a C dx : Addr} {fs : List (Str × V)} {f : Str} {v : V} {A : Around} {E : Value → Shared → Prop}
theorem Inv.made (I : Inv X pins σ H s) : Inv X pins σ (upd (upd H s.heap.objs.size (.own (s.heap.objs.size + 1))) (s.heap.objs.size + 1) (.ins C s.heap.objs.size []))
    { s with heap := (s.heap.push PySem.W.emptyDict).push (PySem.W.instObj C s.heap.objs.size) } := by
  have e1 : (s.heap.push PySem.W.emptyDict).get? s.heap.objs.size = some PySem.W.emptyDict := Heap.get?_push_size s.heap rfl
  have e2 : ((s.heap.push PySem.W.emptyDict).push (PySem.W.instObj C s.heap.objs.size)).get? (s.heap.objs.size + 1) = some (PySem.W.instObj C s.heap.objs.size) := by
    have := Heap.get?_push_size (s.heap.push PySem.W.emptyDict) (o := PySem.W.instObj C s.heap.objs.size) rfl
    rwa [Heap.size_push] at this
  have e3 : (s.heap.push PySem.W.emptyDict).Ns s.heap.objs.size (fun _ => none) := ⟨PySem.W.emptyDict, #[], _, e1, rfl, (fun e he => absurd he (by simp)), fun _ => rfl⟩
  have I1 := I.laid (a := s.heap.objs.size) (o := .own (s.heap.objs.size + 1)) (h' := s.heap.push PySem.W.emptyDict) (t' := s.toks) (fun b u q => Heap.get?_push_of_some _ q) (Nat.le_refl _) ⟨_, e1⟩
  refine I1.laid (a := s.heap.objs.size + 1) (o := .ins C s.heap.objs.size []) (t' := s.toks) (fun b u q => Heap.get?_push_of_some _ q) (Nat.le_of_eq (Heap.size_push _ _)) ?_
  have ne : s.heap.objs.size ≠ s.heap.objs.size + 1 := Nat.ne_of_lt (Nat.lt_succ_self _)
  refine ⟨by rw [upd_ne ne, upd_same], Nat.zero_le _, ne, e2, fun _ => none, (Heap.Ns1.of_empty e3).at fun o q => Heap.get?_push_of_some _ q, fun _ => True.intro, fun y hy => absurd rfl hy⟩
end
def tFld (K : PySem.W.Frag) (ta : TE) (f : Str) : TE := fun σ H Q => ta σ H fun x H1 => ∃ a C dx fs v, x = .ref a ∧ H1 a = some (.ins C dx fs) ∧ Cls K C ∧ NoAttr K C f ∧ fs.lookup f = some v ∧ Q v H1
def tCon (K : PySem.W.Frag) (ta : TE) (f : Str) : TE := fun σ H Q => ta σ H fun x H1 => ∃ a C dx fs v u, x = .ref a ∧ H1 a = some (.ins C dx fs) ∧ Cls K C ∧ Con K C f v u ∧ fs.lookup f = none ∧ Q v H1
def sFld (K : PySem.W.Frag) (ta tv : TE) (f : Str) : TS := fun D σ H => tv σ H fun y H1 => ta σ H1 fun x H2 => ∃ a C dx fs, x = .ref a ∧ H2 a = some (.ins C dx fs) ∧ Cls K C ∧ NoAttr K C f ∧ fs.length < 1000 ∧
  D.nx σ (upd H2 a (.ins C dx (putF f y fs)))
def InOp (X : Cx) (op : Operator) (rd : V → V → Hp → VK → Prop) : Prop :=
  ∀ (pins : List (Addr × Obj)) (s : Shared) (σ : St) (H : Hp) (x y : V) (u v : Value) (Q : VK), Inv X pins σ H s → RelV x u → RelV y v → rd x y H Q → wpAny (model X.prog X.w) X.A (inplaceOp op u v) (EP X pins σ Q) X.xe s
def sFldAug (K : PySem.W.Frag) (ta tv : TE) (rd : V → V → Hp → VK → Prop) (f : Str) : TS := fun D σ H => ta σ H fun x H1 => ∃ a C dx fs v, x = .ref a ∧ H1 a = some (.ins C dx fs) ∧ Cls K C ∧ NoAttr K C f ∧ fs.lookup f = some v ∧
  tv σ H1 fun y H2 => rd v y H2 fun z H3 => ∃ dx' fs', H3 a = some (.ins C dx' fs') ∧ fs'.length < 1000 ∧ D.nx σ (upd H3 a (.ins C dx' (putF f z fs')))
section
variable {X : Cx} {o e value : Expr} {f : Str} {pos pos' tpos : Pos} {ta tv : TE}
def rAdd : V → V → Hp → VK → Prop := fun x y H Q => ∃ i j, x = .int i ∧ y = .int j ∧ Q (.int (i + j)) H
def rSub : V → V → Hp → VK → Prop := fun x y H Q => ∃ i j, x = .int i ∧ y = .int j ∧ Q (.int (i - j)) H
end
section
variable {X : Cx} {pins : List (Addr × Obj)} {σ : St} {H : Hp} {s : Shared} {A : Around} {E : Value → Shared → Prop} {Q : Value → Shared → Prop} {c : Value} {b : Bool}
inductive TyOf (K : PySem.W.Frag) (H : Hp) : V → Value → Prop where
  | non : TyOf K H .non (.type "NoneType")
  | bl (x : Bool) : TyOf K H (.bl x) (.type "bool")
  | int (i : Int) : TyOf K H (.int i) (.type "int")
  | str (x : Str) : TyOf K H (.str x) (.type "str")
  | flt (x : UInt64) : TyOf K H (.flt x) (.type "float")
  | lst {a : Addr} {xs : List V} (e : H a = some (.lst xs)) : TyOf K H (.ref a) (.type "list")
  | frz {a : Addr} {o : Obj} {xs : List V} (e : H a = some (.frz o (.lst xs))) : TyOf K H (.ref a) (.type "list")
  | tup {a : Addr} {xs : List V} (e : H a = some (.tup xs)) : TyOf K H (.ref a) (.type "tuple")
  | dK {a : Addr} {kvs : List (Key × V)} (e : H a = some (.dK kvs)) : TyOf K H (.ref a) (.type "dict")
  | dT {a : Addr} {kvs : List (List Key × V)} (e : H a = some (.dT kvs)) : TyOf K H (.ref a) (.type "dict")
  | ins {a C dx : Addr} {fs : List (Str × V)} (e : H a = some (.ins C dx fs)) (cl : Cls K C) (ha : PySem.W.findIn K (.ref C) "__class__" = some (some (.builtin "object.__class__")))
      (hn : PySem.W.specialIn K (.builtin "object.__class__") "__get__" = some (some (.builtin "getset_descriptor.__get__"))) (htk : PySem.W.takesIn K (.builtin "object.__class__") = some true)
      (hm : PySem.W.mroIn K C (.type "object") = some true) : TyOf K H (.ref a) (.ref C)
end
end L2
namespace L2
open PySem PySem.Spec PyProof.Rows
structure Room (k : Nat) (A : Around) : Prop where
  hd : A.handled = none
  dp : A.depth + 3 * k + 5 < recursionLimit
  un : A.units + 16 * k + 200 < cLine
theorem Room.mono {j k : Nat} {A : Around} (r : Room k A) (h : j ≤ k) : Room j A := ⟨r.hd, by have := r.dp; omega, by have := r.un; omega⟩
theorem Room.deeper {k : Nat} {A : Around} (r : Room (k + 1) A) (env : Env) : Room k (A.deeper env) :=
  ⟨r.hd, by have := r.dp; show A.depth + 1 + 3 * k + 5 < _; omega, by have := r.un; show A.units + 3 + 16 * k + 200 < _; omega⟩
theorem Room.in1 {k : Nat} {A : Around} (r : Room (k + 1) A) : Room k A.in1 :=
  ⟨r.hd, by have := r.dp; show A.depth + 3 * k + 5 < _; omega, by have := r.un; show A.units + 1 + 16 * k + 200 < _; omega⟩
theorem make_depth {A : Around} {C : Addr} {us : List Value} {kw : List (Str × Value)} : (A.under (.builtin "type.__call__" ⟨.ref C :: us, kw⟩)).depth = A.depth + 1 := by
  first | rfl | simp [Around.under, Code.weight, Code.isCreation, Code.isGuard, Code.isCaller, Code.frames, Code.isFrame, guardIds]
theorem make_units {A : Around} {C : Addr} {us : List Value} {kw : List (Str × Value)} : (A.under (.builtin "type.__call__" ⟨.ref C :: us, kw⟩)).units = A.units + 1 := by
  first | rfl | simp [Around.under, Code.cUnits, Code.frames, Code.isFrame]
theorem Room.make {k : Nat} {A : Around} (r : Room (k + 1) A) (C : Addr) (us : List Value) (kw : List (Str × Value)) : Room k (A.under (.builtin "type.__call__" ⟨.ref C :: us, kw⟩)) :=
  ⟨r.hd, by have := r.dp; rw [make_depth]; omega, by have := r.un; rw [make_units]; omega⟩
theorem Room.depth {k : Nat} {A : Around} (r : Room k A) : A.depth < recursionLimit := by have := r.dp; omega
theorem Room.units {k : Nat} {A : Around} (r : Room k A) : A.units + 64 < cLine := by have := r.un; omega
def tNil : TA := fun _ H Q => Q [] H
def tCons (ta : TE) (tr : TA) : TA := fun σ H Q => ta σ H fun x H1 => tr σ H1 fun xs H2 => Q (x :: xs) H2
section
variable {X : Cx} {e : Expr} {es : List Expr} {te : TE} {t : TA} {pos : Pos}
theorem pa_nil : PA X [] tNil := fun _ _ _ _ H Q I h => Calls.spliced_nil ⟨[], H, I, .nil, h⟩
theorem pa_cons (ha : PE X e te) (hr : PA X es t) (hs : starEach (e :: es) X.env = (false, eval e X.env) :: starEach es X.env := by rfl) : PA X (e :: es) (tCons te t) := by
  intro pos pins s σ H Q I h
  rw [hs]
  show wpAny _ _ (spliced ((false, eval e X.env) :: backTo pos (starEach es X.env))) _ _ s
  refine Calls.spliced_cons (thn (ha pins s σ H _ I h) fun u s1 ⟨x, H1, I1, r1, q1⟩ => ?_)
  exact thn (hr pos pins s1 σ H1 _ I1 q1) fun us s2 ⟨xs, H2, I2, r2, q2⟩ => ⟨x :: xs, H2, I2, .cons r1 r2, q2⟩
def tTup (t : TA) : TE := fun σ H Q => t σ H fun xs H1 => xs.length ≤ sizeLine ∧ ∀ p, H1 p = none → Q (.ref p) (upd H1 p (.tup xs))
def tLst (t : TA) : TE := fun σ H Q => t σ H fun xs H1 => xs.length ≤ sizeLine ∧ ∀ p, H1 p = none → Q (.ref p) (upd H1 p (.lst xs))
end
abbrev Sp := List V → Hp → VK → XK → Prop
abbrev CXT := List Env → Hp → Shared → XK → Value → Shared → Prop
structure Env0 (P : Program) (w : World) (K : PySem.W.Frag) (mg : Str → Option Value) (base : Heap) (A : Around) (outer : List Env) (s : Shared) (H : Hp) : Prop where
  frames : A.frames = some outer
  mod : Mod K mg base
  bs : ∀ b o, base.get? b = some o → s.heap.get? b = some o ∧ H b = none
  bsz : base.objs.size ≤ s.heap.objs.size
  funs : s.heap.FunFrames base outer
  frf : ∀ b ∈ frs outer, H b = none
  hok : HOk P w H s.heap
  bare : AllBare s.gens
def CE (outer : List Env) (P : Program) (w : World) (H : Hp) (s : Shared) (Q : VK) (u : Value) (s' : Shared) : Prop :=
  ∃ v H', s'.os = s.os ∧ AllBare s'.gens ∧ Un (frs outer) [] H H' s.heap s'.heap ∧ HOk P w H' s'.heap ∧ RelV v u ∧ Q v H'
def CR (CX : CXT) (outer : List Env) (P : Program) (w : World) (H : Hp) (s : Shared) (Q : VK) (E : XK) (r : Result) (s' : Shared) : Prop :=
  match r with
  | .ok (.ret u) => CE outer P w H s Q u s'
  | .ok _ => False
  | .error e => CX outer H s E e s'
structure FnOk (P : Program) (w : World) (K : PySem.W.Frag) (mg : Str → Option Value) (base : Heap) (CX : CXT) (k : Nat) (f : Addr) (fd : FuncData) (ps : List Str) (sp : Sp) : Prop where
  len : ∀ vs H Q E, sp vs H Q E → vs.length = ps.length
  run : ∀ (A : Around) (outer : List Env) (s : Shared) (H : Hp) (args : Args) (us : List Value) (vs : List V) (Q : VK) (E : XK), Room k A → Env0 P w K mg base A outer s H → BindsTo s fd args (ps.zip us) → Vals vs us → sp vs H Q E →
    codeAny (model P w) A (.call (.ref f) args) (CR CX outer P w H s Q E) s
theorem FnOk.mono {P : Program} {w : World} {K : PySem.W.Frag} {mg : Str → Option Value} {base : Heap} {CX : CXT} {j k : Nat} {f : Addr} {fd : FuncData} {ps : List Str} {sp : Sp} (F : FnOk P w K mg base CX j f fd ps sp) (h : j ≤ k) :
    FnOk P w K mg base CX k f fd ps sp := ⟨F.len, fun A outer s H args us vs Q E hr => F.run A outer s H args us vs Q E (hr.mono h)⟩
theorem FnOk.imp {P : Program} {w : World} {K : PySem.W.Frag} {mg : Str → Option Value} {base : Heap} {CX : CXT} {k : Nat} {f : Addr} {fd : FuncData} {ps : List Str} {sp sp' : Sp} (F : FnOk P w K mg base CX k f fd ps sp)
    (h : ∀ vs H Q E, sp' vs H Q E → sp vs H Q E) : FnOk P w K mg base CX k f fd ps sp' :=
  ⟨fun vs H Q E q => F.len vs H Q E (h _ _ _ _ q), fun A outer s H args us vs Q E hr he hb hv hs => F.run A outer s H args us vs Q E hr he hb hv (h _ _ _ _ hs)⟩
theorem Env0.make {P : Program} {w : World} {K : PySem.W.Frag} {mg : Str → Option Value} {base : Heap} {A : Around} {outer : List Env} {s : Shared} {H : Hp} (e : Env0 P w K mg base A outer s H) (C : Addr) (us : List Value) (kw : List (Str × Value)) :
    Env0 P w K mg base (A.under (.builtin "type.__call__" ⟨.ref C :: us, kw⟩)) outer s H := ⟨by first | exact e.frames | (simpa [Around.under, Code.envs, Code.isFrame, pushEnvs] using e.frames), e.mod, e.bs, e.bsz, e.funs, e.frf, e.hok, e.bare⟩
theorem Env0.in1 {P : Program} {w : World} {K : PySem.W.Frag} {mg : Str → Option Value} {base : Heap} {A : Around} {outer : List Env} {s : Shared} {H : Hp} (e : Env0 P w K mg base A outer s H) :
    Env0 P w K mg base A.in1 outer s H := ⟨e.frames, e.mod, e.bs, e.bsz, e.funs, e.frf, e.hok, e.bare⟩
section
variable {X : Cx} {pins : List (Addr × Obj)} {σ : St} {H : Hp} {s s' : Shared}
theorem Inv.env0 (I : Inv X pins σ H s) : Env0 X.prog X.w X.K X.mg X.base X.A X.stack s H :=
  ⟨I.ok.frames, I.ok.mod, I.bs, Nat.le_trans I.ok.bsz I.sz, I.stack, I.stkFree, I.hok, I.bare⟩
theorem Inv.after {Q : VK} {u : Value} (I : Inv X pins σ H s) (h : CE X.stack X.prog X.w H s Q u s') : EP X pins σ Q u s' := by
  obtain ⟨v, H', os, bare, un, hok, r, q⟩ := h
  obtain ⟨hh, g, d, t, os'⟩ := s'
  obtain rfl : os' = s.os := os
  exact ⟨v, H', I.call (h' := hh) (g' := g) (d' := d) (t' := t) (ch := []) un hok bare (fun b z => absurd z (by simp)), r, q⟩
end
def tCall (sp : Sp) (dvs : List V) (E : XK) (t : TA) : TE := fun σ H Q => t σ H fun vs H1 => sp (vs ++ dvs) H1 Q E
def tMeth (C : Addr) (m : Str) (sp : Sp) (dvs : List V) (E : XK) (ta : TE) (t : TA) : TE := fun σ H Q => ta σ H fun x H1 => ∃ a dx fs, x = .ref a ∧ H1 a = some (.ins C dx fs) ∧ fs.lookup m = none ∧
  t σ H1 fun vs H2 => sp (x :: (vs ++ dvs)) H2 Q E
def tMake (C : Addr) (sp : Sp) (dvs : List V) (E : XK) (t : TA) : TE := fun σ H Q => t σ H fun vs H1 => ∀ x dx, H1 x = none → H1 dx = none → dx ≠ x →
  sp (.ref x :: (vs ++ dvs)) (upd (upd H1 dx (.own x)) x (.ins C dx [])) (fun v H2 => v = .non ∧ Q (.ref x) H2) E
def Binds (K : PySem.W.Frag) (fd : FuncData) (ps : List Str) (ds : List Value) : Prop :=
  ∀ (s : Shared) (us : List Value), K.In s.heap → (us ++ ds).length = ps.length → BindsTo s fd ⟨us, []⟩ (ps.zip (us ++ ds))
theorem Binds.all {K : PySem.W.Frag} {fd : FuncData} {ps : List Str} (h : ∀ us : List Value, us.length = ps.length → bindArgs fd ⟨us, []⟩ = pure (ps.zip us)) : Binds K fd ps [] := fun s us _ hl => by
  rw [List.append_nil] at hl ⊢
  exact .of_eq (h us hl)
def Passes (CX : CXT) (X : Cx) (E : XK) : Prop := ∀ (pins : List (Addr × Obj)) (σ : St) (H : Hp) (s : Shared) (e : Value) (s' : Shared), Inv X pins σ H s → CX X.stack H s E e s' → X.xe e s'
section
variable {X : Cx} {CX : CXT} {k : Nat} {f C : Addr} {fd : FuncData} {ps : List Str} {sp : Sp} {dvs : List V} {ds : List Value} {E : XK} {x m : Str} {p pos apos : Pos} {e o : Expr} {es : List Expr} {ta : TE} {t : TA}
theorem run_fn {pins : List (Addr × Obj)} {σ : St} {H : Hp} {s : Shared} {Q : VK} {us : List Value} {vs : List V} (F : FnOk X.prog X.w X.K X.mg X.base CX k f fd ps sp) (hr : Room k X.A) (hb : Binds X.K fd ps ds) (hd : Vals dvs ds) (hx : Passes CX X E)
    (I : Inv X pins σ H s) (r : Vals vs us) (h : sp (vs ++ dvs) H Q E) : wpAny (model X.prog X.w) X.A (call (.ref f) us) (EP X pins σ Q) X.xe s := by
  have r2 : Vals (vs ++ dvs) (us ++ ds) := r.append hd
  have hl : (us ++ ds).length = ps.length := by rw [← r2.length]; exact F.len _ _ _ _ h
  refine wpAny_call (codeAny_mono (F.run X.A X.stack s H ⟨us, []⟩ (us ++ ds) (vs ++ dvs) Q E hr I.env0 (hb s us I.kIn hl) r2 h) fun r s' hq => ?_)
  cases r with
  | error e => exact hx pins σ H s e s' I hq
  | ok fl =>
    cases fl with
    | ret u => exact I.after hq
    | next => exact False.elim hq
    | brk => exact False.elim hq
    | cont => exact False.elim hq
theorem pe_call (F : FnOk X.prog X.w X.K X.mg X.base CX k f fd ps sp) (hr : Room k X.A) (hg : Gl X x) (hm : X.mg x = some (.ref f)) (hk : PySem.W.keepIn X.K (.ref f) = true) (hb : Binds X.K fd ps ds) (hd : Vals dvs ds) (hx : Passes CX X E)
    (ha : PA X (e :: es) t) (hdb : (x == ("__debug__" : Str)) = false := by decide) (he : starEach (e :: es) X.env = (false, eval e X.env) :: starEach es X.env := by rfl) (hpl : (backTo pos (starEach es X.env)).any (·.1) = false := by rfl) :
    PE X (.Call (.Name x p) (e :: es) [] pos) (tCall sp dvs E t) := by
  intro pins s σ H Q I h
  refine wpAny_Call_Name_kw (ld_glob I hg hm ?_ hdb)
  refine PySem.W.callWith_K (h₀ := X.base) I.ok.mod.kin hk (thn (ha pos pins s σ H _ I h) fun us s1 ⟨vs, H1, I1, r, q⟩ => ⟨I1.kIn, ?_⟩) he hpl
  exact run_fn F hr hb hd hx I1 r q
structure Mk (K : PySem.W.Frag) (C f : Addr) : Prop where
  makes : PySem.W.makesIn K C = true
  init : PySem.W.findIn K (.ref C) "__init__" = some (some (.ref f))
  fn : PySem.W.isFn K (.ref f) = true
  kp : PySem.W.keepIn K (.ref C) = true
end
def PK (X : Cx) (kws : List Keyword) (t : TA) : Prop :=
  ∀ (pos : Pos) (pins : List (Addr × Obj)) (s : Shared) (σ : St) (H : Hp) (Q : List V → Hp → Prop), Inv X pins σ H s → t σ H Q → wpAny (model X.prog X.w) X.A (evalAll ((backToKw pos (keywordEach kws X.env)).map (·.2))) (AP X pins σ Q) X.xe s
section
variable {X : Cx} {CX : CXT} {k : Nat} {f C : Addr} {fd : FuncData} {ps ks : List Str} {sp : Sp} {E : XK} {x m : Str} {p pos apos kpos : Pos} {e o : Expr} {es : List Expr} {kws : List Keyword} {te ta : TE} {t tk : TA} {nm : Option Str}
structure KBinds (K : PySem.W.Frag) (fd : FuncData) (ps ks : List Str) (g : List Value → List Value → List Value) (gV : List V → List V → List V) : Prop where
  to : ∀ (s : Shared) (us ws : List Value), K.In s.heap → (g us ws).length = ps.length → BindsTo s fd ⟨us, ks.zip ws⟩ (ps.zip (g us ws))
  rel : ∀ {vs : List V} {us : List Value} {zs : List V} {ws : List Value}, Vals vs us → Vals zs ws → Vals (gV vs zs) (g us ws)
def tCallK (sp : Sp) (gV : List V → List V → List V) (E : XK) (t tk : TA) : TE := fun σ H Q => t σ H fun vs H1 => tk σ H1 fun zs H2 => sp (gV vs zs) H2 Q E
variable {g : List Value → List Value → List Value} {gV : List V → List V → List V}
end
structure FnScope (N P : List Str) (sc : Scope) : Prop where
  kind : sc.kind = .function
  co : sc.isCoroutine = false
  gen : sc.isGenerator = false
  nd : N.Nodup
  pre : N.take P.length = P
  par : ∀ x ∈ P, sc.names.lookup x = some .local ∨ sc.names.lookup x = some .cell
  nofree : ∀ y ∈ sc.names, y.2 ≠ .free
theorem bindL_out {kindOf : Str → Option NameKind} {x : Str} : ∀ {binds : List (Str × Value)} {m : Str → Option Value}, (∀ v, (x, v) ∉ binds) → bindL kindOf binds m x = m x
  | [], _, _ => rfl
  | (n, v) :: r, m, h => by
    unfold bindL
    rw [bindL_out fun w hw => h w (List.mem_cons_of_mem _ hw)]
    split
    · have : x ≠ n := by rintro rfl; exact h v List.mem_cons_self
      simp [this]
    · rfl
theorem bindC_out {kindOf : Str → Option NameKind} {x : Str} : ∀ {binds : List (Str × Value)} {m : Str → Option Value}, (∀ v, (x, v) ∉ binds) → bindC kindOf binds m x = m x
  | [], _, _ => rfl
  | (n, v) :: r, m, h => by
    unfold bindC
    rw [bindC_out fun w hw => h w (List.mem_cons_of_mem _ hw)]
    split
    · rfl
    · have : x ≠ n := by rintro rfl; exact h v List.mem_cons_self
      simp [this]
theorem bindL_get {kindOf : Str → Option NameKind} {x : Str} {v : Value} : ∀ {P : List Str} {vs : List Value} {i : Nat} {m : Str → Option Value}, P.Nodup → P[i]? = some x → vs[i]? = some v → kindOf x = some .local →
    bindL kindOf (P.zip vs) m x = some v
  | [], _, _, _, _, h, _, _ => by simp at h
  | _ :: _, [], _, _, _, _, h, _ => by simp at h
  | p :: P, w :: vs, 0, m, nd, h1, h2, hk => by
    simp at h1 h2; subst h1; subst h2
    show bindL kindOf ((p, w) :: P.zip vs) m p = _
    unfold bindL
    rw [bindL_out fun v hv => (List.nodup_cons.mp nd).1 (List.of_mem_zip hv).1, if_pos hk]
    simp
  | p :: P, w :: vs, i + 1, m, nd, h1, h2, hk => by
    show bindL kindOf ((p, w) :: P.zip vs) m x = _
    unfold bindL
    exact bindL_get (i := i) (List.nodup_cons.mp nd).2 (by simpa using h1) (by simpa using h2) hk
theorem bindC_get {kindOf : Str → Option NameKind} {x : Str} {v : Value} : ∀ {P : List Str} {vs : List Value} {i : Nat} {m : Str → Option Value}, P.Nodup → P[i]? = some x → vs[i]? = some v → kindOf x ≠ some .local →
    bindC kindOf (P.zip vs) m x = some v
  | [], _, _, _, _, h, _, _ => by simp at h
  | _ :: _, [], _, _, _, _, h, _ => by simp at h
  | p :: P, w :: vs, 0, m, nd, h1, h2, hk => by
    simp at h1 h2; subst h1; subst h2
    show bindC kindOf ((p, w) :: P.zip vs) m p = _
    unfold bindC
    rw [bindC_out fun v hv => (List.nodup_cons.mp nd).1 (List.of_mem_zip hv).1, if_neg hk]
    simp
  | p :: P, w :: vs, i + 1, m, nd, h1, h2, hk => by
    show bindC kindOf ((p, w) :: P.zip vs) m x = _
    unfold bindC
    exact bindC_get (i := i) (List.nodup_cons.mp nd).2 (by simpa using h1) (by simpa using h2) hk
def start (N : List Str) (vs : List V) : St := vs.map some ++ List.replicate (N.length - vs.length) none
def cxOf (CX : CXT) (P : Program) (w : World) (K : PySem.W.Frag) (mg : Str → Option Value) (base : Heap) (N : List Str) (qual : Str) (scope : Scope) (f : Addr) (cd : Value) (A : Around) (outer : List Env) (s : Shared) (H : Hp) (E : XK) : Cx where
  prog := P
  w := w
  K := K
  mg := mg
  base := base
  A := A.deeper (envOfC qual scope s.heap.objs.size f cd)
  N := N
  s₀ := s
  H₀ := H
  env := envOfC qual scope s.heap.objs.size f cd
  outer := outer
  stack := envOfC qual scope s.heap.objs.size f cd :: outer
  ex := []
  calm := true
  fn := fun _ => true
  pn := []
  xe := fun e s' => wpAny (model P w) (A.deeper (envOfC qual scope s.heap.objs.size f cd)) (leaving (envOfC qual scope s.heap.objs.size f cd) e) (fun _ s'' => CX outer H s E e s'') (fun e' s'' => CX outer H s E e' s'') s'
theorem cell_has {sc : Scope} {n : Nat} {x : Str} (h : sc.names.lookup x = some .cell) : ∃ c, (cellsFrom n sc.names []).lookup x = some c := by
  have q := PySem.W.cellsFrom_some sc.names n [] (.inl h)
  exact Option.isSome_iff_exists.mp q
theorem inv_start {CX : CXT} {P : Program} {w : World} {K : PySem.W.Frag} {mg : Str → Option Value} {base : Heap} {N ps : List Str} {qual : Str} {scope : Scope} {f : Addr} {cd : Value} {A : Around} {outer : List Env} {s s1 : Shared} {H : Hp} {E : XK} {us : List Value} {vs : List V}
    (S : FnScope N ps scope) (hd : A.handled = none) (e0 : Env0 P w K mg base A outer s H) (hl : vs.length = ps.length) (r : Vals vs us)
    (x : InCallC s s.heap.objs.size (bindL (envOfC qual scope s.heap.objs.size f cd).kindOf (ps.zip us) fun _ => none) (cellsFrom (s.heap.objs.size + 1) scope.names []) (bindC (envOfC qual scope s.heap.objs.size f cd).kindOf (ps.zip us) fun _ => none) s1) :
    Inv (cxOf CX P w K mg base N qual scope f cd A outer s H E) [] (start N vs) H s1 := by
  have hpl : ps.length ≤ N.length := by have := congrArg List.length S.pre; rw [List.length_take] at this; omega
  obtain ⟨h1, tk, rfl, hk⟩ := x.done
  have noA : ∀ b : Addr, b ∉ (cxOf CX P w K mg base N qual scope f cd A outer s H E).ex := fun b z => absurd (show b ∈ ([] : List Addr) from z) (by simp)
  refine ⟨⟨e0.mod, S.kind, rfl, rfl, Nat.le_refl _, fun y z c h1 h2 => ?_, fun y hy => ?_, fun y c _ h => ?_, fun _ => hd, Around.frames_deeper e0.frames, .inr ⟨rfl, rfl⟩, fun b z => absurd z (noA b), e0.bs, e0.bsz, fun b _ _ => noA b, fun b z => absurd z (noA b), e0.funs, e0.frf⟩,
    rfl, e0.bare, Un.kept hk, ⟨_, x.toInCall.ns, fun i y v h1 h2 h3 => ?_⟩, fun y c h => ⟨_, x.cell y c h⟩, e0.hok.fresh (Nat.le_refl _), fun y c h => ?_, fun p hp => absurd (show p ∈ ([] : List (Addr × Obj)) from hp) (by simp), e0.hok.kept hk, ?_⟩
  · exact name_of_addr x.apart (PySem.mem_of_lookup h1) (PySem.mem_of_lookup h2)
  · have hy : scope.names.lookup y = some .cell ∨ scope.names.lookup y = some .free := hy
    rcases hy with hy | hy
    · exact cell_has hy
    · exact absurd rfl (S.nofree _ (PySem.mem_of_lookup hy))
  · exact Nat.le_of_lt (x.above y c (PySem.mem_of_lookup h))
  · have hi : i < vs.length := by
      unfold start at h2
      by_cases hi : i < vs.length
      · exact hi
      · rw [List.getElem?_append_right (by simpa using hi)] at h2
        rw [List.getElem?_replicate] at h2
        split at h2 <;> cases h2
    have ha : vs[i]? = some v := by
      unfold start at h2
      rw [List.getElem?_append_left (by simpa using hi), List.getElem?_map] at h2
      cases e : vs[i]? with
      | none => rw [e] at h2; cases h2
      | some a => rw [e] at h2; cases h2; rfl
    obtain ⟨u, hu, rv⟩ := r.get ha
    have hp : ps[i]? = some y := by
      rw [← S.pre, List.getElem?_take_of_lt (by omega)]; exact h1
    have ndP : ps.Nodup := by rw [← S.pre]; exact S.nd.sublist (List.take_sublist _ _)
    refine ⟨u, rv, ?_⟩
    rcases S.par y (List.mem_of_getElem? hp) with k | k
    · exact .inl ⟨k, bindL_get ndP hp hu k⟩
    · obtain ⟨c, e⟩ := cell_has (n := s.heap.objs.size + 1) k
      refine .inr ⟨.inl k, c, e, ?_⟩
      have q := x.cell y c e
      rw [bindC_get ndP hp hu (by show scope.names.lookup y ≠ _; rw [k]; decide)] at q
      exact q
  · exact e0.hok.fresh (Nat.le_of_lt (x.above y c (PySem.mem_of_lookup h)))
  · unfold start
    show _ = N.length
    rw [List.length_append, List.length_map, List.length_replicate]
    omega
theorem fn_of {CX : CXT} {P : Program} {w : World} {K : PySem.W.Frag} {mg : Str → Option Value} {base : Heap} {k : Nat} {f : Addr} {name qual : Str} {params : Arguments} {body : List Stmt} {scope : Scope} {dV kV doc pm cdv ct oc : Value} {an od : Option Addr}
    {osl : Array (Option Value)} {N ps : List Str} {sp : Sp} (lk : K.lookup f = some ⟨oc, od, .func (PySem.W.fnOf name qual params body scope dV kV doc pm an cdv ct), osl⟩) (hcd : PySem.W.codeIn K cdv qual = true) (S : FnScope N ps scope)
    (len : ∀ vs H Q E, sp vs H Q E → vs.length = ps.length)
    (hbody : ∀ (A : Around) (outer : List Env) (s : Shared) (H : Hp) (vs : List V) (Q : VK) (E : XK), Room k (A.deeper (envOfC qual scope s.heap.objs.size f cdv)) → sp vs H Q E →
      ∃ t, PSs (cxOf CX P w K mg base N qual scope f cdv A outer s H E) body t ∧ t { nx := fun _ H' => Q .non H', rt := Q } (start N vs) H) :
    FnOk P w K mg base CX (k + 1) f (PySem.W.fnOf name qual params body scope dV kV doc pm an cdv ct) ps sp := by
  refine ⟨len, fun A outer s H args us vs Q E hr e0 hb r hsp => ?_⟩
  have hl := len _ _ _ _ hsp
  have KX : K.In s.heap := e0.mod.kin.keeps fun b o e => (e0.bs b o e).1
  have lim : s.heap.NoLimit := e0.mod.nolimit.keeps fun b o e => (e0.bs b o e).1
  have hkind : ∀ y ∈ ps.zip us, scope.names.lookup y.1 = some .local ∨ (scope.names.lookup y.1 = some .cell ∧ ((cellsFrom (s.heap.objs.size + 1) scope.names []).lookup y.1).isSome = true) := fun ⟨n, v⟩ hy => by
    rcases S.par n (List.of_mem_zip hy).1 with q | q
    · exact .inl q
    · exact .inr ⟨q, PySem.W.cellsFrom_some _ _ _ (.inl q)⟩
  refine codeAny_call_function hr.depth (KX _ _ lk) rfl S.co S.gen rfl (PySem.W.codeRec_of KX hcd) (hb _ _ _ _ ?_)
  refine wpAny_newFunctionEnv_cells S.kind hkind fun env he s1 x => ?_
  subst he
  refine ⟨lim.keeps x.toInCall.keep, codeAny_func ?_⟩
  obtain ⟨t, ht, hq⟩ := hbody A outer s H vs Q E (hr.deeper _) hsp
  have I : Inv (cxOf CX P w K mg base N qual scope f cdv A outer s H E) [] (start N vs) H s1 := inv_start S hr.hd e0 hl r x
  refine wpAny_mono (ht [] s1 (start N vs) H _ I hq) (fun fl s' hs => ?_) fun e s' hs => hs
  have fin : ∀ {σ' : St} {H' : Hp} {v : V} {u : Value}, Inv (cxOf CX P w K mg base N qual scope f cdv A outer s H E) [] σ' H' s' → RelV v u → Q v H' → CE outer P w H s Q u s' :=
    fun {σ' H' v u} J rv q => ⟨v, H', J.os, J.bare, J.base, J.hok, rv, q⟩
  cases fl with
  | ret u =>
    obtain ⟨v, σ', H', J, rv, q⟩ := hs
    exact fin J rv q
  | next =>
    obtain ⟨σ', H', J, q⟩ := hs
    exact fin (v := V.non) (u := Value.none) J rfl q
  | brk =>
    obtain ⟨_, _, _, q⟩ := hs
    exact False.elim q
  | cont =>
    obtain ⟨_, _, _, q⟩ := hs
    exact False.elim q
end L2
namespace L2
open PySem PySem.Spec PyProof.Rows
section
variable {X : Cx} {x : Str} {p pos : Pos} {e : Expr} {es : List Expr} {t : TA} {id T : String} {r : List V → Hp → VK → Prop}
def tCB (r : List V → Hp → VK → Prop) (t : TA) : TE := fun σ H Q => t σ H fun vs H1 => r vs H1 Q
theorem pe_callB (hc : CallR X (.builtin id) r) (hg : Gl X x) (hm : X.mg x = none) (hv : bootBuiltins x = some (.builtin id)) (ha : PA X (e :: es) t) (hn : x ≠ "__name__" := by decide) (hdb : (x == ("__debug__" : Str)) = false := by decide)
    (he : starEach (e :: es) X.env = (false, eval e X.env) :: starEach es X.env := by rfl) (hpl : (backTo pos (starEach es X.env)).any (·.1) = false := by rfl) : PE X (.Call (.Name x p) (e :: es) [] pos) (tCB r t) := by
  intro pins s σ H Q I h
  refine wpAny_Call_Name_kw (ld_blt I hg hm hv ?_ hn hdb)
  exact PyProof.Rows.callWith_builtin1 (thn (ha pos pins s σ H _ I h) fun us s1 ⟨vs, H1, I1, r1, q1⟩ => hc pins s1 σ H1 vs us Q I1 r1 q1) he hpl
theorem pe_callTy (hc : CallR X (.type T) r) (hg : Gl X x) (hm : X.mg x = none) (hv : bootBuiltins x = some (.type T)) (ha : PA X (e :: es) t) (hn : x ≠ "__name__" := by decide) (hdb : (x == ("__debug__" : Str)) = false := by decide)
    (he : starEach (e :: es) X.env = (false, eval e X.env) :: starEach es X.env := by rfl) (hpl : (backTo pos (starEach es X.env)).any (·.1) = false := by rfl) : PE X (.Call (.Name x p) (e :: es) [] pos) (tCB r t) := by
  intro pins s σ H Q I h
  refine wpAny_Call_Name_kw (ld_blt I hg hm hv ?_ hn hdb)
  exact PyProof.Rows.callWith_type1 (thn (ha pos pins s σ H _ I h) fun us s1 ⟨vs, H1, I1, r1, q1⟩ => hc pins s1 σ H1 vs us Q I1 r1 q1) he hpl
end
end L2
namespace HT
open PySem PyProof.Rows
def lexLt : List Int → List Int → Bool
  | [], [] => false
  | [], _ :: _ => true
  | _ :: _, [] => false
  | x :: xs, y :: ys => if x = y then lexLt xs ys else decide (x < y)
section
open PySem.SeqAt
open PySem.AutoSeq1 (wpAny_loadPart')
open PySem.MeetsSeq PySem.MeetsSeq2 PySem.MeetsSeq3
end
section
variable {prog : Program} {w : World} {A : Around} {E : Value → Shared → Prop} {s : Shared}
def sIx (n d : Nat) : Option Int → Nat
  | none => d
  | some v => if v < 0 then (v + (n : Int)).toNat else min v.toNat n
theorem sIx_le (n d : Nat) (hd : d ≤ n) (o : Option Int) : sIx n d o ≤ n := by
  cases o with
  | none => exact hd
  | some v =>
    show (if v < 0 then (v + (n : Int)).toNat else min v.toNat n) ≤ n
    by_cases hv : v < 0
    · rw [if_pos hv]; omega
    · rw [if_neg hv]; exact Nat.min_le_right _ _
theorem clip_eq (v : Int) (n d : Nat) : (if v < 0 then max (v + (n : Int)) 0 else min v (n : Int)) = ((sIx n d (some v) : Nat) : Int) := by
  show (if v < 0 then max (v + (n : Int)) 0 else min v (n : Int)) = (((if v < 0 then (v + (n : Int)).toNat else min v.toNat n) : Nat) : Int)
  by_cases hv : v < 0
  · simp only [if_pos hv]; omega
  · simp only [if_neg hv]; omega
theorem adjust_gen (lo hi : Option Int) (n : Nat) : Builtin.Slice.sliceAdjust lo hi 1 (n : Int) = (((sIx n 0 lo : Nat) : Int), ((sIx n n hi : Nat) : Int)) := by
  have h1 : ¬ ((1 : Int) < 0) := by omega
  unfold Builtin.Slice.sliceAdjust
  simp only [h1, if_false]
  refine Prod.ext ?_ ?_
  · cases lo with
    | none => rfl
    | some v => exact clip_eq v n 0
  · cases hi with
    | none => rfl
    | some v => exact clip_eq v n n
theorem places_gen (i j : Nat) : Builtin.Slice.slicePlaces (i : Int) (j : Int) 1 = j - i := by
  unfold Builtin.Slice.slicePlaces
  have h1 : (1 : Int) > 0 := by omega
  simp only [h1, if_true, Int.ediv_one]
  split <;> omega
theorem slicePart_ {v : Value} {o : Option Int} {Q : Option Int → Shared → Prop} (p : IsPart v o) (h : Q o s) : wpAny (model prog w) A (Builtin.Slice.slicePartIndex v) Q E s := by
  cases p with
  | none => exact slicePart_none h
  | int i t => exact slicePart_int h
theorem sliceApplied_gen {sl : Addr} {vl vu : Value} {lo hi : Option Int} {n : Nat} {Q : Int × Int × Nat → Shared → Prop} (hs : s.heap.IsSliceOf sl vl vu .none) (pl : IsPart vl lo) (pu : IsPart vu hi)
    (h : Q (((sIx n 0 lo : Nat) : Int), 1, sIx n n hi - sIx n 0 lo) s) : wpAny (model prog w) A (Builtin.Slice.sliceApplied (.ref sl) (pure (n : Int))) Q E s := by
  obtain ⟨os, hos, hcs, hds⟩ := id hs
  unfold Builtin.Slice.sliceApplied Builtin.Slice.sliceFields
  refine wpAny_bind (wpAny_bind (wpAny_field hos hds (x := vl) rfl (wpAny_bind (wpAny_field hos hds (x := vu) rfl (wpAny_bind (wpAny_field hos hds (x := .none) rfl (wpAny_pure ?_)))))))
  refine wpAny_bind (slicePart_none ?_)
  show wpAny _ _ (if ((1 : Int) == 0) = true then _ else _) _ _ s
  rw [if_neg (by decide)]
  refine wpAny_bind (slicePart_ pl (wpAny_bind (slicePart_ pu (wpAny_bind (wpAny_pure ?_)))))
  show wpAny _ _ (match Builtin.Slice.sliceAdjust lo hi 1 (n : Int) with | (lo, hi) => pure (lo, (1 : Int), Builtin.Slice.slicePlaces lo hi 1)) _ _ s
  rw [adjust_gen lo hi n]
  show wpAny _ _ (pure (((sIx n 0 lo : Nat) : Int), (1 : Int), Builtin.Slice.slicePlaces ((sIx n 0 lo : Nat) : Int) ((sIx n n hi : Nat) : Int) 1)) _ _ s
  rw [places_gen]
  exact wpAny_pure h
theorem pick_gen (xs : Array Value) (i k : Nat) : ((List.range k).filterMap fun (m : Nat) => xs[((i : Int) + (m : Int) * 1).toNat]?).toArray = ((xs.toList.drop i).take k).toArray := by
  have e : (fun (m : Nat) => xs[((i : Int) + (m : Int) * 1).toNat]?) = fun m => xs[i + m]? := by
    funext m
    have : ((i : Int) + (m : Int) * 1).toNat = i + m := by omega
    rw [this]
  rw [e]
  have := pick_run xs i k
  rw [List.filterMap_map] at this
  have e2 : ((fun x => xs[x]?) ∘ fun x => i + x) = fun m => xs[i + m]? := rfl
  rw [e2] at this
  rw [this]
theorem getItem_tuple_cut {t sl : Addr} {items : Array Value} {vl vu : Value} {lo hi : Option Int} {Q : Value → Shared → Prop} (ht : IsTup s.heap t items) (hs : s.heap.IsSliceOf sl vl vu .none) (pl : IsPart vl lo) (pu : IsPart vu hi)
    (hw : ¬ (sIx items.size 0 lo = 0 ∧ sIx items.size items.size hi = items.size))
    (h : Q (.ref s.heap.objs.size) { s with heap := s.heap.push { cls := .type "tuple", data := .seq ((items.toList.drop (sIx items.size 0 lo)).take (sIx items.size items.size hi - sIx items.size 0 lo)).toArray } })
    (hsz : items.size ≤ sizeLine) : wpAny (model prog w) A (getItem (.ref t) (.ref sl)) Q E s := by
  have htake : sizeOk (.seq ((items.toList.drop (sIx items.size 0 lo)).take (sIx items.size items.size hi - sIx items.size 0 lo)).toArray) := by
    show ((items.toList.drop (sIx items.size 0 lo)).take (sIx items.size items.size hi - sIx items.size 0 lo)).toArray.size ≤ sizeLine
    rw [List.size_toArray, List.length_take, List.length_drop, Array.length_toList]
    omega
  have hj : sIx items.size items.size hi ≤ items.size := sIx_le _ _ (Nat.le_refl _) hi
  obtain ⟨os, hos, hcs, hds⟩ := id hs
  have hTs : s.TypeIs (.ref sl) "slice" := ⟨os, hos, hcs⟩
  unfold getItem
  try with_reducible refine wpAny_holding ?_
  first | refine wpAny_bind (wpAny_pure ?_) | skip
  refine wpAny_bind (wpAny_sequenceKey ht.typeIs (by decide) ?_)
  refine wpAny_bind (wpAny_callSpecial?_slot (name := Str.ofString "__getitem__") ht.typeIs PyProof.Rows.slot_tuple_getitem
    (wpAny_call_entry PyProof.Rows.slot_tuple_getitem ht.typeIs entry_tuple_getitem ?_ (args_tuple_getitem _ _)))
  show wpAny _ _ (Builtin.Tuple.tupleItemsOf (.ref t) >>= _) _ _ s
  refine wpAny_bind (tupleItemsOf_ ht ?_)
  refine wpAny_bind (wpAny_typeOf hTs ?_)
  rw [if_pos (by decide)]
  refine wpAny_bind (sliceApplied_gen hs pl pu ?_)
  have hno : ¬ ((((sIx items.size 0 lo : Nat) : Int) == 0 && (1 : Int) == 1 && (sIx items.size items.size hi - sIx items.size 0 lo) == items.size) = true) := by
    intro q
    rw [Bool.and_eq_true, Bool.and_eq_true] at q
    have q1 : ((sIx items.size 0 lo : Nat) : Int) = 0 := eq_of_beq q.1.1
    have q2 : sIx items.size items.size hi - sIx items.size 0 lo = items.size := eq_of_beq q.2
    exact hw ⟨by omega, by omega⟩
  show wpAny _ _ (if (((sIx items.size 0 lo : Nat) : Int) == 0 && (1 : Int) == 1 && (sIx items.size items.size hi - sIx items.size 0 lo) == items.size) = true then _ else _) _ _ s
  rw [if_neg hno, pick_gen]
  first
    | exact wpAny_bind (m := Builtin.Tuple.tupleExact _) (wpAny_newObj_type (wpAny_pure ⟨_, rfl, wpAny_pure h⟩) htake)
    | exact wpAny_bind (m := Builtin.Tuple.tupleExact _) (wpAny_newObj_type (wpAny_bind (wpAny_pure (wpAny_pure ⟨_, rfl, wpAny_pure h⟩))) htake)
    | exact wpAny_bind (wpAny_bind (m := Builtin.Tuple.tupleExact _) (wpAny_newObj_type (wpAny_pure (wpAny_pure ⟨_, rfl, wpAny_pure h⟩)) htake))
    | exact wpAny_bind (wpAny_bind (m := Builtin.Tuple.tupleExact _) (wpAny_newObj_type (wpAny_pure ⟨_, rfl, wpAny_pure h⟩) htake))
end
end HT
namespace L2
open PySem PySem.Spec PyProof.Rows
abbrev TO := St → Hp → (Option Int → Hp → Prop) → Prop
def PO (X : Cx) (e : Option Expr) (t : TO) : Prop :=
  ∀ (pins : List (Addr × Obj)) (s : Shared) (σ : St) (H : Hp) (Q : Option Int → Hp → Prop), Inv X pins σ H s → t σ H Q →
    wpAny (model X.prog X.w) X.A (evalPart e X.env) (fun u s' => ∃ o H', Inv X pins σ H' s' ∧ IsPart u o ∧ Q o H') X.xe s
def tNoPart : TO := fun _ H Q => Q none H
def tPart (t : TE) : TO := fun σ H Q => t σ H fun x H1 => ∃ i, x = .int i ∧ Q (some i) H1
section
variable {X : Cx} {e : Expr} {te : TE} {lo hi : Option Expr} {tl th : TO} {pos p2 : Pos}
theorem po_none : PO X none tNoPart := by
  intro pins s σ H Q I h
  rw [evalPart_none]
  exact wpAny_pure ⟨none, H, I, .none, h⟩
theorem po_some (h : PE X e te) : PO X (some e) (tPart te) := by
  intro pins s σ H Q I hw
  rw [evalPart_some]
  refine thn (h pins s σ H _ I hw) fun u s1 ⟨x, H1, I1, r1, q1⟩ => ?_
  obtain ⟨i, rfl, q⟩ := q1
  obtain ⟨t, rfl⟩ := r1
  exact ⟨some i, H1, I1, .int i t, q⟩
def SlR (X : Cx) (r : V → Option Int → Option Int → Hp → VK → Prop) : Prop :=
  ∀ (pins : List (Addr × Obj)) (s : Shared) (σ : St) (H : Hp) (x : V) (v vl vu : Value) (lo hi : Option Int) (sl : Addr) (Q : VK), Inv X pins σ H s → RelV x v → s.heap.IsSliceOf sl vl vu .none → IsPart vl lo → IsPart vu hi → r x lo hi H Q →
    ∃ T id, typeLookup (.type T) "__getitem__" = pure (some (.builtin id)) ∧ s.TypeIs v T ∧ wpAny (model X.prog X.w) X.A (getItem v (.ref sl)) (EP X pins σ Q) X.xe s
theorem SlR.or {r r' : V → Option Int → Option Int → Hp → VK → Prop} (h : SlR X r) (h' : SlR X r') : SlR X (fun x lo hi H Q => r x lo hi H Q ∨ r' x lo hi H Q) := by
  intro pins s σ H x v vl vu lo hi sl Q I rx hs pl pu q
  rcases q with q | q
  · exact h pins s σ H x v vl vu lo hi sl Q I rx hs pl pu q
  · exact h' pins s σ H x v vl vu lo hi sl Q I rx hs pl pu q
def tSl (r : V → Option Int → Option Int → Hp → VK → Prop) (te : TE) (tl th : TO) : TE := fun σ H Q => te σ H fun x H1 => tl σ H1 fun l H2 => th σ H2 fun u H3 => r x l u H3 Q
theorem pe_slice {r : V → Option Int → Option Int → Hp → VK → Prop} (hr : SlR X r) (he : PE X e te) (hl : PO X lo tl) (hu : PO X hi th) : PE X (.Subscript e (.Slice lo hi none p2) pos) (tSl r te tl th) := by
  intro pins s σ H Q I h
  refine Subscript_ (thn (he pins s σ H _ I h) fun v s1 ⟨x, H1, I1, r1, q1⟩ => ?_)
  refine wpAny_Slice (thn (hl pins s1 σ H1 _ I1 q1) fun vl s2 ⟨l, H2, I2, pl, q2⟩ => thn (hu pins s2 σ H2 _ I2 q2) fun vu s3 ⟨u, H3, I3, pu, q3⟩ => ?_)
  rw [evalPart_none]
  refine wpAny_pure ?_
  have I4 : Inv X pins σ H3 { s3 with heap := s3.heap.push { cls := .type "slice", data := .fields #[vl, vu, .none] } } := I3.kept (t' := s3.toks) fun b ob q => Heap.get?_push_of_some _ q
  obtain ⟨T, id, hT, ht, hg⟩ := hr pins { s3 with heap := s3.heap.push { cls := .type "slice", data := .fields #[vl, vu, .none] } } σ H3 x v vl vu l u s3.heap.objs.size Q I4 r1 (Heap.IsSliceOf.new ..) pl pu q3
  show wpAny (model X.prog X.w) X.A (subscriptTail e (.Slice lo hi none p2) v (.ref s3.heap.objs.size)) (EP X pins σ Q) X.xe { s3 with heap := s3.heap.push { cls := .type "slice", data := .fields #[vl, vu, .none] } }
  exact tail_any (ops := [.ref s3.heap.objs.size, v]) ht hT hg (by with_unfolding_all rfl)
def cutV (xs : List V) (lo hi : Option Int) : List V := (xs.drop (HT.sIx xs.length 0 lo)).take (HT.sIx xs.length xs.length hi - HT.sIx xs.length 0 lo)
theorem cutV_length (xs : List V) (lo hi : Option Int) : (cutV xs lo hi).length ≤ xs.length := by
  unfold cutV
  rw [List.length_take, List.length_drop]
  omega
def rSlT (K : PySem.W.Frag) : V → Option Int → Option Int → Hp → VK → Prop := fun x lo hi H Q => ∃ a xs, x = .ref a ∧ SqT K H a xs ∧
  ¬ (HT.sIx xs.length 0 lo = 0 ∧ HT.sIx xs.length xs.length hi = xs.length) ∧ ∀ p, H p = none → Q (.ref p) (upd H p (.tup (cutV xs lo hi)))
theorem sl_tup : SlR X (rSlT X.K) := by
  intro pins s σ H x v vl vu lo hi sl Q I rx hs pl pu h
  obtain ⟨a, xs, rfl, hx, hw, q⟩ := h
  cases rx
  obtain ⟨its, r, ht, hz⟩ := I.tuple hx
  have hlen : its.toArray.size = xs.length := by rw [List.size_toArray]; exact r.length.symm
  refine ⟨"tuple", _, PyProof.Rows.slot_tuple_getitem.lookup, ht.typeIs, ?_⟩
  refine HT.getItem_tuple_cut ht hs pl pu (by rw [hlen]; exact hw) ?_ (by rw [hlen]; exact hz)
  rw [hlen]
  refine ⟨.ref s.heap.objs.size, _, I.laid (t' := s.toks) (o := .tup (cutV xs lo hi)) (fun b ob q => Heap.get?_push_of_some _ q) (Nat.le_refl _) ?_, rfl, q _ (I.hok.fresh (Nat.le_refl _))⟩
  exact ⟨Nat.le_trans (cutV_length xs lo hi) hz, _, (r.drop (HT.sIx xs.length 0 lo)).take (HT.sIx xs.length xs.length hi - HT.sIx xs.length 0 lo), IsTup.new _ _⟩
def rLtT (K : PySem.W.Frag) : R2 := fun x y H Q => ∃ a b ns ms, x = .ref a ∧ y = .ref b ∧ SqT K H a (ns.map V.int) ∧ SqT K H b (ms.map V.int) ∧ Q (.bl (HT.lexLt ns ms)) H
def rCatT (K : PySem.W.Frag) : R2 := fun x y H Q => ∃ a b xs ys, x = .ref a ∧ y = .ref b ∧ SqT K H a xs ∧ SqT K H b ys ∧ xs ≠ [] ∧ xs.length + ys.length ≤ sizeLine ∧
  (ys = [] → Q (.ref a) H) ∧ (ys ≠ [] → ∀ p, H p = none → Q (.ref p) (upd H p (.tup (xs ++ ys))))
end
end L2
namespace L2
open PySem PySem.Spec PyProof.Rows
def ixN (n : Nat) (i : Int) : Option Nat := if 0 ≤ i then (if i < n then some i.toNat else none) else if -(n : Int) ≤ i then some (i + n).toNat else none
def atI {α : Type} (xs : List α) (i : Int) : Option α := (ixN xs.length i).bind fun j => xs[j]?
theorem ixN_seq {n : Nat} {i : Int} {j : Nat} (h : ixN n i = some j) : seqIndex? i n = some j ∧ j < n ∧ -(n : Int) ≤ i ∧ i < n := by
  unfold ixN at h
  by_cases h0 : 0 ≤ i
  · rw [if_pos h0] at h
    by_cases h1 : i < n
    · rw [if_pos h1] at h
      have e : i.toNat = j := Option.some.inj h
      exact ⟨by rw [seqIndex_of h0 h1, e], by omega, by omega, h1⟩
    · rw [if_neg h1] at h; cases h
  · rw [if_neg h0] at h
    by_cases h1 : -(n : Int) ≤ i
    · rw [if_pos h1] at h
      have e : (i + n).toNat = j := Option.some.inj h
      exact ⟨by rw [seqIndex_neg (by omega) h1, e], by omega, h1, by omega⟩
    · rw [if_neg h1] at h; cases h
theorem atI_get {α : Type} {xs : List α} {i : Int} {v : α} (h : atI xs i = some v) : ∃ j, seqIndex? i xs.length = some j ∧ xs[j]? = some v ∧ j < xs.length ∧ -(xs.length : Int) ≤ i ∧ i < xs.length := by
  unfold atI at h
  cases e : ixN xs.length i with
  | none => rw [e] at h; cases h
  | some j =>
    rw [e] at h
    obtain ⟨h1, h2, h3, h4⟩ := ixN_seq e
    exact ⟨j, h1, h, h2, h3, h4⟩
theorem atI_nat {α : Type} {xs : List α} {j : Nat} {v : α} (h : xs[j]? = some v) : atI xs (j : Int) = some v := by
  have hj : j < xs.length := (List.getElem?_eq_some_iff.mp h).1
  have e : ixN xs.length (j : Int) = some j := by
    unfold ixN
    rw [if_pos (by omega), if_pos (by omega)]; simp
  unfold atI; rw [e]; exact h
def PlainIx (b : Expr) : Prop := ∀ o i, subscripted b false o i = operate [o, i] (getItem o i)
def IxR (X : Cx) (r : R2) : Prop :=
  ∀ (value slice : Expr) (pins : List (Addr × Obj)) (s : Shared) (σ : St) (H : Hp) (x y : V) (v u : Value) (Q : VK), Inv X pins σ H s → RelV x v → RelV y u → r x y H Q →
    subscripted slice false v u = operate [v, u] (getItem v u) → wpAny (model X.prog X.w) X.A (subscriptTail value slice v u) (EP X pins σ Q) X.xe s
def MtR (X : Cx) (id : String) (r : V → List V → Hp → VK → Prop) : Prop :=
  ∀ (pins : List (Addr × Obj)) (s : Shared) (σ : St) (H : Hp) (x : V) (xs : List V) (v : Value) (us : List Value) (Q : VK), Inv X pins σ H s → RelV x v → Vals xs us → r x xs H Q →
    wpAny (model X.prog X.w) X.A (call (.builtin id) (v :: us)) (EP X pins σ Q) X.xe s
section
variable {X : Cx} {a b : Expr} {ta tb : TE} {pos : Pos}
theorem IxR.or {r r' : R2} (h : IxR X r) (h' : IxR X r') : IxR X (fun x y H Q => r x y H Q ∨ r' x y H Q) := by
  intro value slice pins s σ H x y v u Q I rx ry q hs
  rcases q with q | q
  · exact h value slice pins s σ H x y v u Q I rx ry q hs
  · exact h' value slice pins s σ H x y v u Q I rx ry q hs
theorem MtR.or {id : String} {r r' : V → List V → Hp → VK → Prop} (h : MtR X id r) (h' : MtR X id r') : MtR X id (fun x xs H Q => r x xs H Q ∨ r' x xs H Q) := by
  intro pins s σ H x xs v us Q I rx rs q
  rcases q with q | q
  · exact h pins s σ H x xs v us Q I rx rs q
  · exact h' pins s σ H x xs v us Q I rx rs q
theorem pe_ix {r : R2} (hr : IxR X r) (ha : PE X a ta) (hb : PE X b tb) (hs : PlainIx b) : PE X (.Subscript a b pos) (tOp r ta tb) := by
  intro pins s σ H Q I h
  exact Subscript_ (binT ha hb I h fun v u s2 x y H2 I2 rx ry q => hr a b pins s2 σ H2 x y v u Q I2 rx ry q (hs _ _))
def rIxL (K : PySem.W.Frag) : R2 := fun x y H Q => ∃ p xs i v, x = .ref p ∧ y = .int i ∧ SqL K H p xs ∧ atI xs i = some v ∧ Q v H
def rIxT (K : PySem.W.Frag) : R2 := fun x y H Q => ∃ p xs i v, x = .ref p ∧ y = .int i ∧ SqT K H p xs ∧ atI xs i = some v ∧ Q v H
def rIxS : R2 := fun x y H Q => ∃ z i c, x = .str z ∧ y = .int i ∧ z.length ≤ sizeLine ∧ atI z.cps.toList i = some c ∧ Q (.str ⟨#[c]⟩) H
theorem ix_list : IxR X (rIxL X.K) := by
  intro value slice pins s σ H x y v u Q I rx ry h hs
  obtain ⟨p, xs, i, z, rfl, rfl, hq, he, q⟩ := h
  cases rx
  obtain ⟨t, rfl⟩ := ry
  obtain ⟨its, r, pl, hz⟩ := I.list hq
  obtain ⟨j, h1, h2, h3, h4, h5⟩ := atI_get he
  obtain ⟨w, ew, rw'⟩ := r.get h2
  have hl := r.length
  have hn := line63
  have fin : EP X pins σ Q w s := ⟨z, H, I, rw', q⟩
  by_cases h0 : 0 ≤ i
  · have hj : i.toNat = j := by
      rw [seqIndex_of h0 h5] at h1
      exact Option.some.inj h1
    exact item_listR pl.isList h0 (by omega) (by rw [hj]; simpa using ew) fin hs
  · have hj : (i + (its.toArray.size : Int)).toNat = j := by
      rw [seqIndex_neg (by omega) h4] at h1
      rw [List.size_toArray, ← hl]
      exact Option.some.inj h1
    exact subscriptTail_builtinR (x := w) pl.isList.typeIs slot_list_getitem.lookup
      (wpAny_getItem_list_neg (Q := fun r s' => r = w ∧ EP X pins σ Q r s') pl.isList (by omega) (by rw [List.size_toArray] <;> omega) (by omega) (by rw [hj]; simpa using ew) ⟨rfl, fin⟩) hs
theorem ix_tup : IxR X (rIxT X.K) := by
  intro value slice pins s σ H x y v u Q I rx ry h hs
  obtain ⟨p, xs, i, z, rfl, rfl, hq, he, q⟩ := h
  cases rx
  obtain ⟨t, rfl⟩ := ry
  obtain ⟨its, r, pl, hz⟩ := I.tuple hq
  obtain ⟨j, h1, h2, h3, h4, h5⟩ := atI_get he
  obtain ⟨w, ew, rw'⟩ := r.get h2
  have hl := r.length
  have hn := line63
  have fin : EP X pins σ Q w s := ⟨z, H, I, rw', q⟩
  exact subscriptTail_builtinR (x := w) pl.typeIs slot_tuple_getitem.lookup
    (getItem_tuple (j := j) (Q := fun r s' => r = w ∧ EP X pins σ Q r s') pl (by omega) (by omega) (by rw [List.size_toArray, ← hl]; exact h1) (by simpa using ew) ⟨rfl, fin⟩) hs
theorem ix_str : IxR X rIxS := by
  intro value slice pins s σ H x y v u Q I rx ry h hs
  obtain ⟨z, i, c, rfl, rfl, hz, he, q⟩ := h
  obtain ⟨t, rfl⟩ := rx
  obtain ⟨t', rfl⟩ := ry
  obtain ⟨j, h1, h2, h3, h4, h5⟩ := atI_get he
  have hl : z.cps.toList.length = z.length := by simp [Str.length]
  rw [hl] at h1 h4 h5
  have hn := line63
  exact tail_any (typeIs_str s z t) slot_str_getitem.lookup (getItem_str (c := c) (by
    have e1 : decide (i < -(2 ^ 63 : Int)) = false := decide_eq_false (by omega)
    have e2 : decide (i ≥ 2 ^ 63) = false := decide_eq_false (by omega)
    rw [e1, e2, Bool.or_false]) (by rw [h1]; simpa using h2) ⟨.str ⟨#[c]⟩, H, I.tok _, ⟨_, rfl⟩, q⟩) hs
def rIx (K : PySem.W.Frag) : R2 := fun x y H Q => rIxL K x y H Q ∨ rIxT K x y H Q ∨ rIxS x y H Q
theorem mapSeq_set (its : List Value) (n j : Nat) (u : Value) : Obj.mapSeq (·.setIfInBounds j u) { cls := .type "list", data := .seq its.toArray n } = { cls := .type "list", data := .seq (its.set j u).toArray n } := by
  simp [Obj.mapSeq]
theorem Inv.lst {pins : List (Addr × Obj)} {σ : St} {H : Hp} {s : Shared} {p : Addr} {xs : List V} (I : Inv X pins σ H s) (h : H p = some (.lst xs)) :
    ∃ (its : List Value) (n : Nat), Vals xs its ∧ s.heap.get? p = some { cls := .type "list", data := .seq its.toArray n } ∧ xs.length ≤ sizeLine := by
  obtain ⟨z, its, n, r, e⟩ := I.hok p _ h
  exact ⟨its, n, r, e, z⟩
theorem Inv.lstUpd {pins : List (Addr × Obj)} {σ : St} {H : Hp} {s : Shared} {p : Addr} {xs ys : List V} {its its' : List Value} {n n' : Nat} {f : Obj → Obj} (I : Inv X pins σ H s) (h : H p = some (.lst xs))
    (ho : s.heap.get? p = some { cls := .type "list", data := .seq its.toArray n }) (hf : f { cls := .type "list", data := .seq its.toArray n } = { cls := .type "list", data := .seq its'.toArray n' }) (r : Vals ys its') (hz : ys.length ≤ sizeLine) (t : Nat) :
    Inv X pins σ (upd H p (.lst ys)) { s with heap := s.heap.update p f, toks := t } := by
  have e : (s.heap.update p f).get? p = some { cls := .type "list", data := .seq its'.toArray n' } := by
    rw [Heap.get?_update_self f ho (by rw [hf] <;> rfl), hf]
  refine I.write (x := p) (e := p) (by rw [h]; trivial) (.inl rfl) (fun b u hb q => (Heap.get?_update_other _ _ (Ne.symm hb)).trans q) ⟨_, e⟩ ?_
  exact ⟨hz, its', n', r, e⟩
def rSetL : V → V → V → Hp → (Hp → Prop) → Prop := fun o i v H Q => ∃ p xs k j, o = .ref p ∧ i = .int k ∧ H p = some (.lst xs) ∧ ixN xs.length k = some j ∧ Q (upd H p (.lst (xs.set j v)))
theorem set_list : PSet X rSetL := by
  intro pins s σ H o i v ov iv u Q I ro ri rv h
  obtain ⟨p, xs, k, j, rfl, rfl, hp, hj, q⟩ := h
  cases ro
  obtain ⟨t, rfl⟩ := ri
  obtain ⟨its, n, r, ho, hz⟩ := I.lst hp
  obtain ⟨h1, h2, h3, h4⟩ := ixN_seq hj
  have hl := r.length
  have hn := line63
  have I' : Inv X pins σ (upd H p (.lst (xs.set j v))) { s with heap := s.heap.update p (Obj.mapSeq (·.setIfInBounds j u)) } :=
    I.lstUpd hp ho (mapSeq_set its n j u) (r.set rv j) (by rw [List.length_set]; exact hz) s.toks
  by_cases h0 : 0 ≤ k
  · have hk : k.toNat = j := by
      rw [seqIndex_of h0 h4] at h1
      exact Option.some.inj h1
    exact PySem.W.ki_setAt ho h0 (by omega) (by rw [List.size_toArray, ← hl]; exact h4) (by rw [hk]; exact ⟨_, I', q⟩)
  · have hk : (k + (its.toArray.size : Int)).toNat = j := by
      rw [seqIndex_neg (by omega) h3] at h1
      rw [List.size_toArray, ← hl]
      exact Option.some.inj h1
    exact PySem.W.ki_setBack ho (by omega) (by rw [List.size_toArray, ← hl]; exact h3) (by omega) (by rw [hk]; exact ⟨_, I', q⟩)
theorem slice_bounds (lo hi : Option Int) (n : Nat) : (sliceBounds lo hi none n).1 = ((HT.sIx n 0 lo : Nat) : Int) ∧ (sliceBounds lo hi none n).2.1 = ((HT.sIx n n hi : Nat) : Int) ∧ (sliceBounds lo hi none n).2.2 = 1 := by
  refine ⟨?_, ?_, rfl⟩
  · cases lo with
    | none => simp [sliceBounds, HT.sIx]
    | some i =>
      simp only [sliceBounds, HT.sIx, Option.getD_none, show (1 : Int) > 0 by decide, if_true]
      by_cases h : i < 0
      · simp only [h, if_true] <;> omega
      · simp only [h, if_false] <;> omega
  · cases hi with
    | none => simp [sliceBounds, HT.sIx]
    | some i =>
      simp only [sliceBounds, HT.sIx, Option.getD_none, show (1 : Int) > 0 by decide, if_true]
      by_cases h : i < 0
      · simp only [h, if_true] <;> omega
      · simp only [h, if_false] <;> omega
theorem slicePick_cut (its : List Value) (lo hi : Option Int) : slicePick its.toArray lo hi none = ((its.drop (HT.sIx its.length 0 lo)).take (HT.sIx its.length its.length hi - HT.sIx its.length 0 lo)).toArray := by
  obtain ⟨h1, h2, h3⟩ := slice_bounds lo hi its.toArray.size
  unfold slicePick
  rw [h1, h2, h3]
  simp only [sliceRange_one, pick_run, List.size_toArray] <;> rfl
def rSlL (K : PySem.W.Frag) : V → Option Int → Option Int → Hp → VK → Prop := fun x lo hi H Q => ∃ a xs, x = .ref a ∧ SqL K H a xs ∧ ∀ p, H p = none → Q (.ref p) (upd H p (.lst (cutV xs lo hi)))
theorem sl_list : SlR X (rSlL X.K) := by
  intro pins s σ H x v vl vu lo hi sl Q I rx hs pl pu h
  obtain ⟨a, xs, rfl, hx, q⟩ := h
  cases rx
  obtain ⟨its, r, ht, hz⟩ := I.list hx
  have hlen := r.length
  refine ⟨"list", _, slot_list_getitem.lookup, ht.isList.typeIs, ?_⟩
  refine wpAny_getItem_list_slice ht.isList hs pl pu .none (by simp) ?_ (by rw [List.size_toArray] <;> omega)
  rw [slicePick_cut, ← hlen]
  refine ⟨.ref s.heap.objs.size, _, I.laid (t' := s.toks) (o := .lst (cutV xs lo hi)) (fun b ob q => Heap.get?_push_of_some _ q) (Nat.le_refl _) ?_, rfl, q _ (I.hok.fresh (Nat.le_refl _))⟩
  exact ⟨Nat.le_trans (cutV_length xs lo hi) hz, _, 0, (r.drop (HT.sIx xs.length 0 lo)).take (HT.sIx xs.length xs.length hi - HT.sIx xs.length 0 lo), Heap.get?_push_size _ rfl⟩
def flatV : V → Bool
  | .non => true
  | .bl _ => true
  | .int _ => true
  | .str _ => true
  | _ => false
def eqV : V → V → Bool
  | .non, .non => true
  | .bl a, .bl b => a == b
  | .bl a, .int b => (if a then 1 else 0) == b
  | .int a, .bl b => a == (if b then 1 else 0)
  | .int a, .int b => a == b
  | .str a, .str b => a == b
  | _, _ => false
theorem eqAt_V {A : Around} {s : Shared} {y x : V} {u v : Value} (ry : RelV y u) (rx : RelV x v) (fy : flatV y = true) (fx : flatV x = true) : SeqAt.EqAt A s u v (eqV y x) := by
  cases y with
  | non =>
    cases ry
    cases x with
    | non => cases rx; exact SeqAt.EqAt.same _
    | bl b => cases rx; exact SeqAt.EqAt.none_bool b
    | int b => obtain ⟨t, rfl⟩ := rx; exact SeqAt.EqAt.none_int b t
    | str b => obtain ⟨t, rfl⟩ := rx; exact SeqAt.EqAt.none_str b t
    | _ => exact absurd (show false = true from fx) Bool.false_ne_true
  | bl a =>
    cases ry
    cases x with
    | non => cases rx; exact SeqAt.EqAt.bool_none a
    | bl b => cases rx; exact SeqAt.EqAt.bool_bool a b
    | int b => obtain ⟨t, rfl⟩ := rx; exact SeqAt.EqAt.bool_int a b t
    | str b => obtain ⟨t, rfl⟩ := rx; exact SeqAt.EqAt.bool_str a b t
    | _ => exact absurd (show false = true from fx) Bool.false_ne_true
  | int a =>
    obtain ⟨t', rfl⟩ := ry
    cases x with
    | non => cases rx; exact SeqAt.EqAt.int_none a t'
    | bl b => cases rx; exact SeqAt.EqAt.int_bool a t' b
    | int b => obtain ⟨t, rfl⟩ := rx; exact SeqAt.EqAt.int_int a t' b t
    | str b => obtain ⟨t, rfl⟩ := rx; exact SeqAt.EqAt.int_str a t' b t
    | _ => exact absurd (show false = true from fx) Bool.false_ne_true
  | str a =>
    obtain ⟨t', rfl⟩ := ry
    cases x with
    | non => cases rx; exact SeqAt.EqAt.str_none a t'
    | bl b => cases rx; exact SeqAt.EqAt.str_bool a t' b
    | int b => obtain ⟨t, rfl⟩ := rx; exact SeqAt.EqAt.str_int a t' b t
    | str b => obtain ⟨t, rfl⟩ := rx; exact SeqAt.EqAt.str_str a t' b t
    | _ => exact absurd (show false = true from fx) Bool.false_ne_true
  | _ => exact absurd (show false = true from fy) Bool.false_ne_true
def eqU (x : V) (u : Value) : Bool := match u with
  | .none => eqV .non x
  | .bool b => eqV (.bl b) x
  | .int i _ => eqV (.int i) x
  | .str z _ => eqV (.str z) x
  | _ => false
theorem eqU_of {x y : V} {u : Value} (r : RelV y u) (f : flatV y = true) : eqU x u = eqV y x := by
  cases y with
  | non => cases r; rfl
  | bl b => cases r; rfl
  | int i => obtain ⟨t, rfl⟩ := r; rfl
  | str z => obtain ⟨t, rfl⟩ := r; rfl
  | _ => exact absurd (show false = true from f) Bool.false_ne_true
theorem any_eqU {x : V} : ∀ {xs : List V} {us : List Value}, Vals xs us → xs.all flatV = true → us.any (eqU x) = xs.any fun y => eqV y x
  | _, _, .nil, _ => rfl
  | y :: xs, u :: us, .cons r t, f => by
    rw [List.all_cons, Bool.and_eq_true] at f
    rw [List.any_cons, List.any_cons, eqU_of r f.1, any_eqU t f.2]
theorem mem_eqAt {A : Around} {s : Shared} {x : V} {v : Value} (rx : RelV x v) (fx : flatV x = true) : ∀ {xs : List V} {us : List Value}, Vals xs us → xs.all flatV = true → ∀ u ∈ us, SeqAt.EqAt A s u v (eqU x u)
  | _, _, .nil, _ => fun u hu => by cases hu
  | y :: xs, u :: us, .cons r t, f => fun u' hu => by
    rw [List.all_cons, Bool.and_eq_true] at f
    rcases List.mem_cons.mp hu with rfl | hu
    · rw [eqU_of r f.1]; exact eqAt_V r rx f.1 fx
    · exact mem_eqAt rx fx t f.2 u' hu
def inV (x : V) (xs : List V) : Bool := xs.any fun y => eqV y x
def rIn (K : PySem.W.Frag) (neg : Bool) : R2 := fun x y H Q => ∃ p xs, y = .ref p ∧ (SqL K H p xs ∨ SqT K H p xs) ∧ flatV x = true ∧ xs.all flatV = true ∧ Q (.bl (if neg then !inV x xs else inV x xs)) H
theorem op_in_seq : OpR X (compareOp .In) (rIn X.K false) := by
  intro pins s σ H x y v u Q I rx ry h
  obtain ⟨p, xs, rfl, hq, fx, fs, q⟩ := h
  cases ry
  rcases hq with hq | hq
  · obtain ⟨its, r, pl, hz⟩ := I.list hq
    refine SeqAt.in_listAt (eqU x) pl.isList (fun w hw => mem_eqAt rx fx r fs w (by simpa using hw)) ⟨.bl _, H, I, rfl, ?_⟩
    rw [show its.toArray.any (eqU x) = its.any (eqU x) by simp, any_eqU r fs]
    exact q
  · obtain ⟨its, r, pl, hz⟩ := I.tuple hq
    refine SeqAt.in_tupleAt (eqU x) pl (fun w hw => mem_eqAt rx fx r fs w (by simpa using hw)) ⟨.bl _, H, I, rfl, ?_⟩
    rw [show its.toArray.any (eqU x) = its.any (eqU x) by simp, any_eqU r fs]
    exact q
theorem call_len_seq : CallR X (.builtin "len") (fun xs H Q => ∃ p ys, xs = [.ref p] ∧ (SqL X.K H p ys ∨ SqT X.K H p ys) ∧ Q (.int ys.length) H) := by
  intro pins s σ H xs us Q I r h
  obtain ⟨p, ys, rfl, hq, q⟩ := h
  obtain ⟨u, rfl, rx⟩ := vals1 r
  cases rx
  have hn := line63
  rcases hq with hq | hq
  · obtain ⟨its, r', pl, hz⟩ := I.list hq
    have hlen := r'.length
    exact Calls.call_len_list pl.isList (by simp only [List.size_toArray] <;> omega) ⟨.int ys.length, H, I.tok _, ⟨s.toks + 1, by rw [List.size_toArray, hlen]⟩, q⟩
  · obtain ⟨its, r', pl, hz⟩ := I.tuple hq
    have hlen := r'.length
    exact len_tuple pl (by simp only [List.size_toArray] <;> omega) ⟨.int ys.length, H, I.tok _, ⟨s.toks + 1, by rw [List.size_toArray, hlen]⟩, q⟩
theorem CallR.or {f : Value} {r r' : List V → Hp → VK → Prop} (h : CallR X f r) (h' : CallR X f r') : CallR X f (fun xs H Q => r xs H Q ∨ r' xs H Q) := by
  intro pins s σ H xs us Q I rs q
  rcases q with q | q
  · exact h pins s σ H xs us Q I rs q
  · exact h' pins s σ H xs us Q I rs q
theorem call_list_of : CallR X (.type "list") (fun xs H Q => ∃ p ys, xs = [.ref p] ∧ (SqL X.K H p ys ∨ SqT X.K H p ys) ∧ ∀ l, H l = none → Q (.ref l) (upd H l (.lst ys))) := by
  intro pins s σ H xs us Q I r h
  obtain ⟨p, ys, rfl, hq, q⟩ := h
  obtain ⟨u, rfl, rx⟩ := vals1 r
  cases rx
  have fin : ∀ (its : List Value), Vals ys its → ys.length ≤ sizeLine → ∀ (h' : Heap) (c' : Nat), (∀ b o', s.heap.get? b = some o' → h'.get? b = some o') →
      h'.get? s.heap.objs.size = some { cls := .type "list", dict := none, data := .seq its.toArray c', slots := #[] } → EP X pins σ Q (.ref s.heap.objs.size) { s with heap := h' } := fun its r' hz h' c' kp e =>
    ⟨.ref s.heap.objs.size, _, I.laid (t' := s.toks) kp (Nat.le_refl _) (show ObjOk X.prog X.w _ h' _ (.lst ys) from ⟨hz, its, c', r', e⟩), rfl, q _ (I.hok.fresh (Nat.le_refl _))⟩
  rcases hq with hq | hq
  · obtain ⟨its, r', pl, hz⟩ := I.list hq
    have hlen := r'.length
    obtain ⟨o, ho, hc, n, hd⟩ := pl.isList
    exact call_list_seq p (.inl rfl) ho hc hd (fun h' c' kp e => fin its r' hz h' c' kp e) (by simp only [List.size_toArray] <;> omega)
  · obtain ⟨its, r', pl, hz⟩ := I.tuple hq
    have hlen := r'.length
    obtain ⟨o, ho, hc, n, hd⟩ := pl
    exact call_list_seq p (.inr rfl) ho hc hd (fun h' c' kp e => fin its r' hz h' c' kp e) (by simp only [List.size_toArray] <;> omega)
def tyV (K : PySem.W.Frag) (T : String) (x : V) (H : Hp) : Prop := match x with
  | .str _ => T = "str"
  | .int _ => T = "int"
  | .ref p => (T = "list" ∧ ∃ xs, SqL K H p xs) ∨ (T = "tuple" ∧ ∃ o, K.lookup p = some o ∧ o.cls = .type "tuple" ∧ o.dict = none) ∨
      (T = "dict" ∧ ((∃ kvs, H p = some (.dK kvs)) ∨ ∃ kvs, H p = some (.dT kvs))) ∨ (T = "set" ∧ ∃ S n, H p = some (.set S n))
  | _ => False
theorem tyV_is {pins : List (Addr × Obj)} {σ : St} {H : Hp} {s : Shared} {T : String} {x : V} {v : Value} (I : Inv X pins σ H s) (r : RelV x v) (ty : tyV X.K T x H) :
    s.TypeIs v T ∧ ∀ a, v = .ref a → ∃ ob, s.heap.get? a = some ob ∧ ob.dict = none := by
  cases x with
  | str z =>
    obtain ⟨t, rfl⟩ := r
    cases (show T = "str" from ty)
    exact ⟨typeIs_str s z t, fun _ e => nomatch e⟩
  | int i =>
    obtain ⟨t, rfl⟩ := r
    cases (show T = "int" from ty)
    exact ⟨typeIs_int s i t, fun _ e => nomatch e⟩
  | ref p =>
    cases r
    rcases ty with ⟨rfl, xs, hq⟩ | ⟨rfl, o, hk, hc, hd⟩ | ⟨rfl, hk⟩ | ⟨rfl, S, n, hk⟩
    · obtain ⟨its, _, pl, _⟩ := I.list hq
      refine ⟨pl.isList.typeIs, fun a e => ?_⟩
      cases e
      obtain ⟨o, n, e, c, hd, _⟩ := pl
      exact ⟨o, e, hd⟩
    · refine ⟨⟨o, I.kIn p o hk, hc⟩, fun a e => ?_⟩
      cases e
      exact ⟨o, I.kIn _ o hk, hd⟩
    · have z : ∃ o, s.heap.get? p = some o ∧ o.ExactDict := by
        rcases hk with ⟨kvs, hk⟩ | ⟨kvs, hk⟩
        · obtain ⟨_, _, _, _, o, _, _, e, ex, _⟩ := I.hok p _ hk
          exact ⟨o, e, ex⟩
        · obtain ⟨_, _, _, _, o, _, _, e, ex, _⟩ := I.hok p _ hk
          exact ⟨o, e, ex⟩
      obtain ⟨o, e, ex⟩ := z
      refine ⟨⟨o, e, ex.1⟩, fun a e2 => ?_⟩
      cases e2
      exact ⟨o, e, ex.2.1⟩
    · obtain ⟨o, _, _, _, e, ex, _⟩ := I.hok p _ hk
      refine ⟨⟨o, e, ex.1⟩, fun a e2 => ?_⟩
      cases e2
      exact ⟨o, e, ex.2.1⟩
  | _ => exact False.elim ty
def tBM0 (K : PySem.W.Frag) (T : String) (r : V → List V → Hp → VK → Prop) (to : TE) : TE := fun σ H Q => to σ H fun x H1 => tyV K T x H1 ∧ r x [] H1 Q
def tBM (K : PySem.W.Frag) (T : String) (r : V → List V → Hp → VK → Prop) (to : TE) (t : TA) : TE := fun σ H Q => to σ H fun x H1 => tyV K T x H1 ∧ t σ H1 fun xs H2 => r x xs H2 Q
variable {o e : Expr} {es : List Expr} {to : TE} {t : TA} {name : Str} {apos cpos : Pos} {T id : String} {r : V → List V → Hp → VK → Prop}
theorem pe_bm (pa : PlainAttrs T) (slot : Slot T name id) (hty : typeOf (.builtin id) = pure (.type "method_descriptor")) (hm : MtR X id r) (ho : PE X o to) (ha : PA X (e :: es) t)
    (hbase : attributeBase o name X.env (eval o X.env) = eval o X.env := by rfl)
    (hfew : ((backTo cpos (starEach (e :: es) X.env)).all (fun x => !x.1) && (backToKw cpos (keywordEach [] X.env)).all (fun x => x.1.isSome)
      && decide ((e :: es).length + ([] : List Keyword).length + (if ([] : List Keyword).isEmpty then 0 else 1) < 30)) = true := by rfl)
    (hline : (apos.endLine == cpos.line) = true := by rfl) (hs : starEach (e :: es) X.env = (false, eval e X.env) :: starEach es X.env := by rfl) (hplain : (backTo cpos (starEach es X.env)).any (·.1) = false := by rfl) :
    PE X (.Call (.Attribute o name apos) (e :: es) [] cpos) (tBM X.K T r to t) := by
  intro pins s σ H Q I h
  refine wpAny_Call_method_late hbase hfew hline rfl (thn (ho pins s σ H _ I h) fun v s1 ⟨x, H1, I1, r1, ty, q1⟩ => ?_)
  obtain ⟨h1, h2⟩ := tyV_is I1 r1 ty
  refine ⟨T, id, pa, slot, hty, h1, h2, ?_⟩
  have hA := ha cpos pins s1 σ H1 _ I1 q1
  rw [hs] at hA ⊢
  refine Calls.callWith_builtin (by show (false || (backTo cpos (starEach es X.env)).any (·.1)) = false; rw [hplain] <;> rfl) (Calls.evalArgs_plain ?_)
  exact thn hA fun us s2 ⟨vs, H2, I2, r2, q2⟩ => hm pins s2 σ H2 x vs v us Q I2 r1 r2 q2
end
end L2
namespace L2
open PySem PySem.Spec PyProof.Rows
def MtM (X : Cx) (id : String) (r : V → List V → Hp → VK → Prop) : Prop :=
  ∀ (pins : List (Addr × Obj)) (s : Shared) (σ : St) (H : Hp) (x : V) (xs : List V) (v : Value) (us : List Value) (Q : VK), Inv X pins σ H s → RelV x v → Vals xs us → r x xs H Q →
    wpAny (model X.prog X.w) X.A (call (.builtin id) (v :: us)) (EP X pins σ Q) X.xe s
theorem Vals.one : ∀ {x : V} {us : List Value}, Vals [x] us → ∃ u, us = [u] ∧ RelV x u
  | _, _, .cons r .nil => ⟨_, rfl, r⟩
theorem Vals.two : ∀ {x y : V} {us : List Value}, Vals [x, y] us → ∃ u v, us = [u, v] ∧ RelV x u ∧ RelV y v
  | _, _, _, .cons r (.cons q .nil) => ⟨_, _, rfl, r, q⟩
theorem Vals.zero : ∀ {us : List Value}, Vals [] us → us = []
  | _, .nil => rfl
theorem Vals.dropLast {xs : List V} {us : List Value} (h : Vals xs us) : Vals xs.dropLast us.dropLast := by
  induction h with
  | nil => exact .nil
  | cons r t ih =>
    cases t with
    | nil => exact .nil
    | cons q t' => exact .cons r ih
theorem Vals.eraseIdx : ∀ {xs : List V} {us : List Value} (i : Nat), Vals xs us → Vals (xs.eraseIdx i) (us.eraseIdx i)
  | _, _, _, .nil => .nil
  | _, _, 0, .cons _ t => t
  | _, _, i + 1, .cons r t => .cons r (Vals.eraseIdx i t)
theorem Vals.reverse {xs : List V} {us : List Value} (h : Vals xs us) : Vals xs.reverse us.reverse := by
  induction h with
  | nil => exact .nil
  | cons r t ih => rw [List.reverse_cons, List.reverse_cons]; exact Vals.append ih (.cons r .nil)
section
variable {X : Cx} {pins : List (Addr × Obj)} {σ : St} {H : Hp} {s : Shared} {l b : Addr} {xs ys zs : List V}
theorem Inv.lset {its its' : List Value} {n : Nat} {f : Array Value → Array Value} {t' : Nat} (I : Inv X pins σ H s) (hH : H l = some (.lst xs))
    (e : s.heap.get? l = some { cls := .type "list", data := .seq its.toArray n }) (hf : f its.toArray = its'.toArray) (hv : Vals ys its') (hz : ys.length ≤ sizeLine) :
    Inv X pins σ (upd H l (.lst ys)) { s with heap := s.heap.update l (Obj.mapSeq f), toks := t' } := by
  have q := PySem.IsL.update e f
  rw [hf] at q
  refine I.write (x := l) (e := l) (by rw [hH]; exact trivial) (.inl rfl) (fun b' u hb hu => (Heap.get?_update_other s.heap (Obj.mapSeq f) (Ne.symm hb)).trans hu) ⟨_, q⟩ ?_
  exact ⟨hz, its', _, hv, q⟩
theorem Inv.lnew {its : List Value} {t' : Nat} (I : Inv X pins σ H s) (hv : Vals ys its) (hz : ys.length ≤ sizeLine) :
    Inv X pins σ (upd H s.heap.objs.size (.lst ys)) { s with heap := s.heap.push { cls := .type "list", data := .seq its.toArray }, toks := t' } :=
  I.laid (fun _ _ q => Heap.get?_push_of_some _ q) (Nat.le_refl _) ⟨hz, its, 0, hv, Heap.get?_push_size _ rfl⟩
theorem Inv.fresh (I : Inv X pins σ H s) : H s.heap.objs.size = none := I.hok.fresh (Nat.le_refl _)
theorem Inv.lstM (I : Inv X pins σ H s) (hH : H l = some (.lst xs)) : xs.length ≤ sizeLine ∧ ∃ (its : List Value) (n : Nat), Vals xs its ∧ xs.length = its.length ∧ s.heap.get? l = some { cls := .type "list", data := .seq its.toArray n } := by
  obtain ⟨z, its, n, r, e⟩ := I.hok l _ hH
  exact ⟨z, its, n, r, r.length, e⟩
end
section
variable {X : Cx}
def rAppend : V → List V → Hp → VK → Prop := fun x vs H Q => ∃ l xs y, x = .ref l ∧ vs = [y] ∧ H l = some (.lst xs) ∧ xs.length < sizeLine ∧ Q .non (upd H l (.lst (xs ++ [y])))
theorem mt_append : MtM X "list.append" rAppend := by
  intro pins s σ H x vs v us Q I rx rv h
  obtain ⟨l, xs, y, rfl, rfl, hH, hz, q⟩ := h
  cases rx
  obtain ⟨u, rfl, ru⟩ := rv.one
  obtain ⟨z, its, n, r, hl, e⟩ := I.lstM hH
  refine call_meets F.slot_list_append ⟨_, e, rfl⟩ F.entry_list_append (F.args_list_append_2 _ _) (PySem.list_append l its.toArray n u (by rw [List.size_toArray]; omega)) ⟨e, ?_⟩
  refine ⟨.non, _, I.lset (its' := its ++ [u]) hH e (by simp) (r.append (.cons ru .nil)) ?_, rfl, q⟩
  rw [List.length_append, List.length_singleton]
  omega
def rExtend : V → List V → Hp → VK → Prop := fun x vs H Q => ∃ l b xs zs, x = .ref l ∧ vs = [.ref b] ∧ H l = some (.lst xs) ∧ H b = some (.lst zs) ∧ xs.length + zs.length ≤ sizeLine ∧ Q .non (upd H l (.lst (xs ++ zs)))
def rPop : V → List V → Hp → VK → Prop := fun x vs H Q => ∃ l xs y, x = .ref l ∧ vs = [] ∧ H l = some (.lst xs) ∧ xs[xs.length - 1]? = some y ∧ Q y (upd H l (.lst xs.dropLast))
def rPopAt : V → List V → Hp → VK → Prop := fun x vs H Q => ∃ l xs i k y, x = .ref l ∧ vs = [.int i] ∧ H l = some (.lst xs) ∧ -(2 ^ 63) ≤ i ∧ i < 2 ^ 63 ∧ seqIndex? i xs.length = some k ∧ xs[k]? = some y ∧ Q y (upd H l (.lst (xs.eraseIdx k)))
def rReverse : V → List V → Hp → VK → Prop := fun x vs H Q => ∃ l xs, x = .ref l ∧ vs = [] ∧ H l = some (.lst xs) ∧ Q .non (upd H l (.lst xs.reverse))
def rClear : V → List V → Hp → VK → Prop := fun x vs H Q => ∃ l xs, x = .ref l ∧ vs = [] ∧ H l = some (.lst xs) ∧ Q .non (upd H l (.lst []))
def rCat : R2 := fun x y H Q => ∃ l b xs zs, x = .ref l ∧ y = .ref b ∧ H l = some (.lst xs) ∧ H b = some (.lst zs) ∧ xs.length + zs.length ≤ sizeLine ∧ ∀ p, H p = none → Q (.ref p) (upd H p (.lst (xs ++ zs)))
theorem op_cat : OpR X (binaryOp .Add) rCat := by
  intro pins s σ H x y v u Q I rx ry h
  obtain ⟨l, b, xs, zs, rfl, rfl, hH, hB, hz, q⟩ := h
  cases rx
  cases ry
  obtain ⟨z, its, n, r, hl, e⟩ := I.lstM hH
  obtain ⟨z2, its2, n2, r2, hl2, e2⟩ := I.lstM hB
  refine PySem.P.add_list e e2 ?_ (by rw [List.size_toArray, List.size_toArray]; omega)
  have ea : its.toArray ++ its2.toArray = (its ++ its2).toArray := by simp
  rw [ea]
  exact ⟨.ref _, _, I.lnew (t' := s.toks) (r.append r2) (by rw [List.length_append]; omega), rfl, q _ I.fresh⟩
def rRep : R2 := fun x y H Q => ∃ l k xs, x = .ref l ∧ y = .int k ∧ H l = some (.lst xs) ∧ -(2 ^ 63) ≤ k ∧ k < 2 ^ 63 ∧ xs.length * k.toNat ≤ sizeLine ∧
  ∀ p, H p = none → Q (.ref p) (upd H p (.lst (List.replicate k.toNat xs).flatten))
end
section
variable {prog : Program} {w : World} {A : Around} {E : Value → Shared → Prop} {s : Shared}
set_option maxRecDepth 100000 in
end
section
variable {X : Cx}
end
end L2
namespace L2
open PySem PySem.Spec PyProof.Rows
section
variable {κ : Type} [DecidableEq κ]
def valV (kvs : List (κ × V)) (k : κ) : Option V := (kvs.find? fun kv => decide (kv.1 = k)).map (·.2)
def putK (kvs : List (κ × V)) (k : κ) (v : V) : List (κ × V) :=
  if (kvs.any fun kv => decide (kv.1 = k)) = true then kvs.map (fun kv => if kv.1 = k then (kv.1, v) else kv) else kvs ++ [(k, v)]
def dropK (kvs : List (κ × V)) (k : κ) : List (κ × V) := kvs.filter fun kv => decide (kv.1 ≠ k)
theorem valV_pos {p : κ × V} {r : List (κ × V)} {k : κ} (e : p.1 = k) : valV (p :: r) k = some p.2 := by simp [valV, List.find?_cons, e]
theorem valV_neg {p : κ × V} {r : List (κ × V)} {k : κ} (e : ¬ p.1 = k) : valV (p :: r) k = valV r k := by simp [valV, List.find?_cons, e]
theorem valV_any (k : κ) : ∀ kvs : List (κ × V), (kvs.any fun kv => decide (kv.1 = k)) = (valV kvs k).isSome
  | [] => rfl
  | p :: r => by
    rw [List.any_cons]
    by_cases e : p.1 = k
    · simp only [valV_pos e, decide_eq_true e, Bool.true_or, Option.isSome_some]
    · rw [valV_neg e, decide_eq_false e, Bool.false_or]; exact valV_any k r
theorem length_putK (kvs : List (κ × V)) (k : κ) (v : V) : (putK kvs k v).length ≤ kvs.length + 1 := by
  unfold putK
  split
  · rw [List.length_map]; omega
  · rw [List.length_append, List.length_cons, List.length_nil]; omega
theorem RelO.isSome_eq {o : Option V} {u : Option Value} (r : RelO o u) : o.isSome = u.isSome := by
  cases o with
  | none => cases u with
    | none => rfl
    | some _ => exact (show False from r).elim
  | some _ => cases u with
    | none => exact (show False from r).elim
    | some _ => rfl
theorem RelO.getD {o : Option V} {u : Option Value} {d : V} {d' : Value} (r : RelO o u) (rd : RelV d d') : RelV (o.getD d) (u.getD d') := by
  cases o with
  | none => cases u with
    | none => exact rd
    | some _ => exact (show False from r).elim
  | some _ => cases u with
    | none => exact (show False from r).elim
    | some _ => exact r
theorem KV.val {kvs : List (κ × V)} {vs : List (κ × Value)} (r : KV kvs vs) (k : κ) : RelO (valV kvs k) (valueAt vs k) := by
  unfold KV at r
  induction r with
  | nil => exact True.intro
  | @cons p q ps qs h t ih =>
    obtain ⟨h1, h2⟩ := h
    by_cases e : p.1 = k
    · have e' : q.1 = k := h1.symm.trans e
      have b : valueAt (q :: qs) k = some q.2 := by simp [valueAt, List.find?_cons, e']
      rw [valV_pos e, b]; exact h2
    · have e' : ¬ q.1 = k := fun z => e (h1.trans z)
      have b : valueAt (q :: qs) k = valueAt qs k := by simp [valueAt, List.find?_cons, e']
      rw [valV_neg e, b]; exact ih
theorem KV.any {kvs : List (κ × V)} {vs : List (κ × Value)} (r : KV kvs vs) (k : κ) : (kvs.any fun kv => decide (kv.1 = k)) = vs.any fun kv => decide (kv.1 = k) := by
  unfold KV at r
  induction r with
  | nil => rfl
  | cons h t ih => rw [List.any_cons, List.any_cons, ih, h.1]
theorem KV.repl {kvs : List (κ × V)} {vs : List (κ × Value)} (r : KV kvs vs) (k : κ) {y : V} {u : Value} (ry : RelV y u) :
    KV (kvs.map fun kv => if kv.1 = k then (kv.1, y) else kv) (vs.map fun kv => if kv.1 = k then (kv.1, u) else kv) := by
  unfold KV at r ⊢
  induction r with
  | nil => exact .nil
  | @cons p q ps qs h t ih =>
    rw [List.map_cons, List.map_cons]
    refine .cons ?_ ih
    obtain ⟨h1, h2⟩ := h
    by_cases e : p.1 = k
    · rw [if_pos e, if_pos (h1.symm.trans e)]; exact ⟨h1, ry⟩
    · rw [if_neg e, if_neg (fun z => e (h1.trans z))]; exact ⟨h1, h2⟩
theorem KV.put {kvs : List (κ × V)} {vs : List (κ × Value)} (r : KV kvs vs) (k : κ) {y : V} {u : Value} (ry : RelV y u) : KV (putK kvs k y) (stored vs k u) := by
  unfold putK stored
  rw [r.any k]
  by_cases e : (vs.any fun kv => decide (kv.1 = k)) = true
  · rw [if_pos e, if_pos e]; exact r.repl k ry
  · rw [if_neg e, if_neg e]; exact Paired.snoc r ⟨rfl, ry⟩
theorem KV.drop {kvs : List (κ × V)} {vs : List (κ × Value)} (r : KV kvs vs) (k : κ) : KV (dropK kvs k) (without vs k) := by
  unfold KV at r ⊢
  unfold dropK without
  induction r with
  | nil => exact .nil
  | @cons p q ps qs h t ih =>
    obtain ⟨h1, h2⟩ := h
    rw [List.filter_cons, List.filter_cons]
    by_cases e : p.1 = k
    · have a : ¬ decide (p.1 ≠ k) = true := by simp [e]
      have b : ¬ decide (q.1 ≠ k) = true := by simp [h1.symm.trans e]
      rw [if_neg a, if_neg b]; exact ih
    · have e' : ¬ q.1 = k := fun z => e (h1.trans z)
      have a : decide (p.1 ≠ k) = true := by simp [e]
      have b : decide (q.1 ≠ k) = true := by simp [e']
      rw [if_pos a, if_pos b]; exact .cons ⟨h1, h2⟩ ih
theorem KV.keys {kvs : List (κ × V)} {vs : List (κ × Value)} (r : KV kvs vs) : kvs.map (·.1) = vs.map (·.1) := by
  unfold KV at r
  induction r with
  | nil => rfl
  | cons h t ih => rw [List.map_cons, List.map_cons, ih, h.1]
theorem KV.length {kvs : List (κ × V)} {vs : List (κ × Value)} (r : KV kvs vs) : kvs.length = vs.length := Paired.length r
end
theorem kV_is {P : Program} {w : World} {k : Key} {u : Value} (r : RelV (kV k) u) : (mixKind P w).is k u = true := by
  cases k with
  | inl i => obtain ⟨t, e⟩ := (show ∃ t, u = Value.int i t from r); subst e; exact mixKind_int P w i t
  | inr x => obtain ⟨t, e⟩ := (show ∃ t, u = Value.str x t from r); subst e; exact mixKind_str P w x t
theorem items_are {P : Program} {w : World} : ∀ {ks : List Key} {us : List Value}, Vals (ks.map kV) us → ItemsAre (mixKind P w) ks us
  | [], _, r => by rw [List.map_nil] at r; cases r; exact .nil
  | k :: ks, _, r => by
    rw [List.map_cons] at r
    cases r with
    | cons h t => exact .cons (kV_is h) (items_are t)
abbrev KT (H : Hp) : List (List Key × V) → List (List Key × Addr × Value) → Prop := Paired fun p q => p.1 = q.1 ∧ H q.2.1 = some (.tup (p.1.map kV)) ∧ RelV p.2 q.2.2
theorem KT.val {H : Hp} {kvs : List (List Key × V)} {xs : List (List Key × Addr × Value)} (r : KT H kvs xs) (k : List Key) : RelO (valV kvs k) ((atKey xs k).map (·.2)) := by
  induction r with
  | nil => exact True.intro
  | @cons p q ps qs h t ih =>
    obtain ⟨h1, _, h2⟩ := h
    by_cases e : p.1 = k
    · have e' : q.1 = k := h1.symm.trans e
      have b : atKey (q :: qs) k = some q.2 := by simp [atKey, List.find?_cons, e']
      rw [valV_pos e, b]; exact h2
    · have e' : ¬ q.1 = k := fun z => e (h1.trans z)
      have b : atKey (q :: qs) k = atKey qs k := by simp [atKey, List.find?_cons, e']
      rw [valV_neg e, b]; exact ih
theorem KT.repl {H : Hp} {kvs : List (List Key × V)} {xs : List (List Key × Addr × Value)} (r : KT H kvs xs) (k : List Key) {y : V} {u : Value} (ry : RelV y u) :
    KT H (kvs.map fun kv => if kv.1 = k then (kv.1, y) else kv) (xs.map (putAt k u)) := by
  induction r with
  | nil => exact .nil
  | @cons p q ps qs h t ih =>
    rw [List.map_cons, List.map_cons]
    refine .cons ?_ ih
    obtain ⟨h1, h2, h3⟩ := h
    unfold putAt
    by_cases e : p.1 = k
    · rw [if_pos e, if_pos (h1.symm.trans e)]; exact ⟨h1, h2, ry⟩
    · rw [if_neg e, if_neg (fun z => e (h1.trans z))]; exact ⟨h1, h2, h3⟩
theorem KT.put {H : Hp} {kvs : List (List Key × V)} {xs : List (List Key × Addr × Value)} (r : KT H kvs xs) (k : List Key) {b : Addr} {y : V} {u : Value} (hb : H b = some (.tup (k.map kV))) (ry : RelV y u) :
    KT H (putK kvs k y) (storedH xs k b u) := by
  have e : (kvs.any fun kv => decide (kv.1 = k)) = (atKey xs k).isSome := by
    rw [valV_any, (r.val k).isSome_eq, Option.isSome_map]
  unfold putK storedH
  rw [e]
  by_cases q : (atKey xs k).isSome = true
  · rw [if_pos q, if_pos q]; exact r.repl k ry
  · rw [if_neg q, if_neg q]; exact Paired.snoc r ⟨rfl, hb, ry⟩
theorem KT.keeps {H H' : Hp} {kvs : List (List Key × V)} {xs : List (List Key × Addr × Value)} (r : KT H kvs xs) (ht : ∀ b ys, H b = some (.tup ys) → H' b = some (.tup ys)) : KT H' kvs xs :=
  Paired.mapP r fun _ _ z => ⟨z.1, ht _ _ z.2.1, z.2.2⟩
section
variable {P : Program} {w : World} {H : Hp} {h : Heap} {a : Addr}
theorem rd_of {u : HO} (ok : HOk P w H h) (e : Rd H a u) : ObjOk P w H h a u := e.ok ok
theorem dk_rd {kvs : List (Key × V)} (ok : HOk P w H h) (e : Rd H a (.dK kvs)) : kvs.length ≤ sizeLine ∧ (a == sysModules) = false ∧ ∃ vs, KV kvs vs ∧ h.DictOf (mixKind P w) a vs :=
  show ObjOk P w H h a (.dK kvs) from rd_of ok e
theorem dk_of {kvs : List (Key × V)} (ok : HOk P w H h) (e : H a = some (.dK kvs)) : kvs.length ≤ sizeLine ∧ (a == sysModules) = false ∧ ∃ vs, KV kvs vs ∧ h.DictOf (mixKind P w) a vs := dk_rd ok (.inl e)
theorem key_of {ks : List Key} (ok : HOk P w H h) (e : H a = some (.tup (ks.map kV))) : (tupleKind (mixKind P w)).is h ks a := by
  obtain ⟨_, its, r, o, h1, h2, n, h3⟩ := (show ObjOk P w H h a (.tup (ks.map kV)) from ok a _ e)
  exact ⟨o, its.toArray, n, h1, h2, h3, by simpa using items_are r⟩
theorem dt_rd {kvs : List (List Key × V)} (ok : HOk P w H h) (e : Rd H a (.dT kvs)) : kvs.length ≤ sizeLine ∧ (a == sysModules) = false ∧
    ∃ xs, KT H kvs xs ∧ h.DictOfH (tupleKind (mixKind P w)) a xs := by
  obtain ⟨z, y, xs, r, o, es, ep, h1, h2, h3, h4, h5⟩ := (show ObjOk P w H h a (.dT kvs) from rd_of ok e)
  refine ⟨z, y, xs, r, o, es, ep, h1, h2, h3, h4, fun x hx => ?_, h5⟩
  have all : ∀ {l : List (List Key × V)} {m : List (List Key × Addr × Value)}, KT H l m → ∀ x ∈ m, (tupleKind (mixKind P w)).is h x.1 x.2.1 := by
    intro l m q
    induction q with
    | nil => intro x hx; exact nomatch hx
    | @cons p q ps qs hq t ih =>
      intro x hx
      rcases List.mem_cons.mp hx with e | hx
      · subst e
        exact key_of ok (by rw [← hq.1]; exact hq.2.1)
      · exact ih x hx
  exact all r x hx
theorem dt_of {kvs : List (List Key × V)} (ok : HOk P w H h) (e : H a = some (.dT kvs)) : kvs.length ≤ sizeLine ∧ (a == sysModules) = false ∧
    ∃ xs, KT H kvs xs ∧ h.DictOfH (tupleKind (mixKind P w)) a xs := dt_rd ok (.inl e)
end
def DGet (H : Hp) (a : Addr) (y : V) (r : Option V) : Prop :=
  (∃ kvs k, Rd H a (.dK kvs) ∧ y = kV k ∧ r = valV kvs k) ∨ ∃ kvs k b, Rd H a (.dT kvs) ∧ y = .ref b ∧ H b = some (.tup (k.map kV)) ∧ r = valV kvs k
def DPut (H : Hp) (a : Addr) (y v : V) (H' : Hp) : Prop :=
  (∃ kvs k, H a = some (.dK kvs) ∧ y = kV k ∧ kvs.length < sizeLine ∧ H' = upd H a (.dK (putK kvs k v))) ∨
  ∃ kvs k b, H a = some (.dT kvs) ∧ y = .ref b ∧ H b = some (.tup (k.map kV)) ∧ kvs.length < sizeLine ∧ H' = upd H a (.dT (putK kvs k v))
theorem DGet.k {H : Hp} {a : Addr} {kvs : List (Key × V)} {k : Key} (e : H a = some (.dK kvs)) : DGet H a (kV k) (valV kvs k) := .inl ⟨kvs, k, .inl e, rfl, rfl⟩
theorem DGet.t {H : Hp} {a b : Addr} {kvs : List (List Key × V)} {k : List Key} (e : H a = some (.dT kvs)) (eb : H b = some (.tup (k.map kV))) : DGet H a (.ref b) (valV kvs k) := .inr ⟨kvs, k, b, .inl e, rfl, eb, rfl⟩
theorem DPut.k {H : Hp} {a : Addr} {kvs : List (Key × V)} {k : Key} {v : V} (e : H a = some (.dK kvs)) (hl : kvs.length < sizeLine) : DPut H a (kV k) v (upd H a (.dK (putK kvs k v))) := .inl ⟨kvs, k, e, rfl, hl, rfl⟩
theorem DPut.t {H : Hp} {a b : Addr} {kvs : List (List Key × V)} {k : List Key} {v : V} (e : H a = some (.dT kvs)) (eb : H b = some (.tup (k.map kV))) (hl : kvs.length < sizeLine) :
    DPut H a (.ref b) v (upd H a (.dT (putK kvs k v))) := .inr ⟨kvs, k, b, e, rfl, eb, hl, rfl⟩
section
variable {X : Cx} {pins : List (Addr × Obj)} {σ : St} {H : Hp} {s : Shared} {a : Addr} {y v : V} {u r : Value} {o : Option V} {A : Around} {E : Value → Shared → Prop}
theorem Inv.big (I : Inv X pins σ H s) : sysModules < s.heap.objs.size := by
  have h : mainGlobals < s.heap.objs.size := (I.mod.glob.keeps I.bk).lt
  exact Nat.lt_trans (by decide) h
theorem d_write {h' : Heap} {t' : Nat} {ob : HO} (I : Inv X pins σ H s) (mu : Mut (H a)) (hs : Heap.SameBut a s.heap h') (he : ∃ q, h'.get? a = some q) (new : ObjOk X.prog X.w (upd H a ob) h' a ob) :
    Inv X pins σ (upd H a ob) { s with heap := h', toks := t' } :=
  I.write (x := a) (e := a) mu (.inl rfl) (fun b q hb z => (hs.2 b hb).trans z) he new
theorem dk_new {P : Program} {w : World} {H' : Hp} {h' : Heap} {kvs : List (Key × V)} {vs : List (Key × Value)} (z : kvs.length ≤ sizeLine) (hd : (a == sysModules) = false) (rel : KV kvs vs) (dd : h'.DictOf (mixKind P w) a vs) :
    ObjOk P w H' h' a (.dK kvs) := ⟨z, hd, vs, rel, dd⟩
theorem d_setItem {H' : Hp} {Q : Unit → Shared → Prop} (hu : A.units + 1 < cLine) (I : Inv X pins σ H s) (g : DPut H a y v H') (ry : RelV y u) (rv : RelV v r) (h : ∀ s', Inv X pins σ H' s' → Q () s') :
    wpAny (model X.prog X.w) A (setItem (.ref a) u r) Q E s := by
  rcases g with ⟨kvs, k, e, ey, l, eH⟩ | ⟨kvs, k, b, e, ey, eb, l, eH⟩
  · subst ey eH
    obtain ⟨z, hd, vs, rel, dd⟩ := dk_of I.hok e
    have hz : vs.length ≤ sizeLine := by rw [← rel.length]; exact z
    have hl : (putK kvs k v).length ≤ sizeLine := by have := length_putK kvs k v; omega
    refine wpAny_setItem_pairs (hsz := hz) (kV_is ry) dd fun h' dd' hs => h _ ?_
    have he : ∃ q, h'.get? a = some q := let ⟨q, _, _, hq, _⟩ := dd'; ⟨q, hq⟩
    exact d_write I (by rw [e]; exact True.intro) hs he (dk_new hl hd (rel.put k rv) dd')
  · subst ey eH
    cases (show u = Value.ref b from ry)
    obtain ⟨z, hd, xs, rel, dd⟩ := dt_of I.hok e
    have hz : xs.length ≤ sizeLine := by rw [← Paired.length rel]; exact z
    have hl : (putK kvs k v).length ≤ sizeLine := by have := length_putK kvs k v; omega
    refine wpAny_setItem_heap (hsz := hz) (tupleKind_room_in1 hu) (key_of I.hok eb) dd fun h' dd' hs => h _ ?_
    obtain ⟨q, es, ep, hq, h2, h3, h4, _, h5⟩ := dd'
    refine d_write I (by rw [e]; exact True.intro) hs ⟨q, hq⟩ ⟨hl, hd, _, (rel.put k eb rv).keeps fun c ys ec => ?_, q, es, ep, hq, h2, h3, h4, h5⟩
    rw [upd_ne (ne_of ec e (fun z => nomatch z))]
    exact ec
end
section
variable {X : Cx} {pins : List (Addr × Obj)} {σ : St} {H : Hp} {s : Shared} {a : Addr} {kvs : List (Key × V)} {k : Key} {u : Value} {A : Around} {E : Value → Shared → Prop}
end
def NoSl (i : Expr) : Prop := ∀ ov iv, subscripted i false ov iv = operate [ov, iv] (getItem ov iv)
theorem subD_of {prog : Program} {w : World} {A : Around} {E : Value → Shared → Prop} {s : Shared} {env : Env} {value slice : Expr} {pos : Pos} {T id : String} {Q : Value → Shared → Prop}
    (hl : typeLookup (.type T) "__getitem__" = pure (some (.builtin id))) (hs : NoSl slice)
    (h : wpAny (model prog w) A (eval value env) (fun o s₁ => wpAny (model prog w) A (eval slice env) (fun i s₂ => s₂.TypeIs o T ∧ wpAny (model prog w) A (getItem o i) Q E s₂) E s₁) E s) :
    wpAny (model prog w) A (eval (.Subscript value slice pos) env) Q E s := by
  refine Subscript_ (wpAny_mono h (fun o s₁ h₁ => wpAny_mono h₁ (fun i s₂ h₂ => ?_) fun _ _ x => x) fun _ _ x => x)
  obtain ⟨hT, h₂⟩ := h₂
  unfold subscriptTail
  refine wpAny_bind ?_
  rw [getitemInPython_of_ne hT.not_modules]
  refine wpAny_bind (wpAny_specialOf hT hl ?_)
  have fin : wpAny (model prog w) A (subscripted slice false o i) (fun r s₃ => wpAny (model prog w) A (letTemporaryGo value o r >>= fun _ => pure r) Q E s₃) E s₂ := by
    rw [hs o i]
    exact wpAny_operating (wpAny_mono h₂ (fun r s₃ h₃ => wpAny_bind (wpAny_letTemporaryGo (wpAny_pure h₃))) fun _ _ x => x)
  first
    | exact wpAny_pure (wpAny_bind fin)
    | exact wpAny_bind (wpAny_pure (wpAny_bind fin))
    | exact wpAny_bind fin
def tDGet (td ty : TE) : TE := fun σ H Q => td σ H fun x H1 => ty σ H1 fun y H2 => ∃ a v, x = .ref a ∧ DGet H2 a y (some v) ∧ Q v H2
def tDIn (ty td : TE) : TE := fun σ H Q => ty σ H fun y H1 => td σ H1 fun x H2 => ∃ a o, x = .ref a ∧ DGet H2 a y o ∧ Q (.bl o.isSome) H2
def tDNotIn (ty td : TE) : TE := fun σ H Q => ty σ H fun y H1 => td σ H1 fun x H2 => ∃ a o, x = .ref a ∧ DGet H2 a y o ∧ Q (.bl (!o.isSome)) H2
def sDPut (td ty tv : TE) : TS := fun D σ H => tv σ H fun v H1 => td σ H1 fun x H2 => ty σ H2 fun y H3 => ∃ a H4, x = .ref a ∧ DPut H3 a y v H4 ∧ D.nx σ H4
def sDAug (td ty tv : TE) (rd : V → V → Hp → VK → Prop) : TS := fun D σ H => td σ H fun x H1 => ty σ H1 fun y H2 => ∃ a v, x = .ref a ∧ DGet H2 a y (some v) ∧
  tv σ H2 fun y2 H3 => rd v y2 H3 fun z H4 => ∃ H5, DPut H4 a y z H5 ∧ D.nx σ H5
def sDDel (td ty : TE) : TS := fun D σ H => td σ H fun x H1 => ty σ H1 fun y H2 => ∃ a kvs k, x = .ref a ∧ H2 a = some (.dK kvs) ∧ y = kV k ∧ (valV kvs k).isSome = true ∧ D.nx σ (upd H2 a (.dK (dropK kvs k)))
section
variable {X : Cx} {o i e value : Expr} {pos pos' tpos : Pos} {td ty tv : TE}
theorem ps_dput (hu : X.A.units + 1 < cLine) (ho : PE X o td) (hi : PE X i ty) (hv : PE X value tv) (hs : swapsWith value (some (.Subscript o i pos')) pos.line X.env = pure false) :
    PS X (.Assign [.Subscript o i pos'] value pos) (sDPut td ty tv) := by
  intro pins s σ H D I h
  refine wpAny_Assign_Subscript (thn (hv pins s σ H _ I h) fun r s1 ⟨v, H1, I1, rv, q1⟩ => thn (ho pins s1 σ H1 _ I1 q1) fun u s2 ⟨x, H2, I2, rx, q2⟩ => thn (hi pins s2 σ H2 _ I2 q2) fun iv s3 ⟨y, H3, I3, ry, a, H4, ex, g, q3⟩ => ?_) hs
  subst ex
  obtain rfl : u = Value.ref a := rx
  exact d_setItem hu I3 g ry rv fun s4 I4 => ⟨σ, H4, I4, q3⟩
end
theorem dk_empty {P : Program} {w : World} {H : Hp} (h : Heap) (hb : sysModules < h.objs.size) : ObjOk P w H (h.push { cls := .type "dict", data := .dict #[] }) h.objs.size (.dK []) :=
  ⟨Nat.zero_le _, beq_eq_false_iff_ne.mpr (Ne.symm (Nat.ne_of_lt hb)), [], .nil, Heap.DictOf.new h⟩
def tDNewK : TE := fun _ H Q => ∀ p, H p = none → Q (.ref p) (upd H p (.dK []))
def tDNewT : TE := fun _ H Q => ∀ p, H p = none → Q (.ref p) (upd H p (.dT []))
section
variable {X : Cx} {pos : Pos}
end
def tPairs : List (TE × TE) → St → Hp → (List (V × V) → Hp → Prop) → Prop
  | [], _, H, Q => Q [] H
  | (tk, tv) :: r, σ, H, Q => tk σ H fun x H1 => tv σ H1 fun y H2 => tPairs r σ H2 fun ps H3 => Q ((x, y) :: ps) H3
abbrev VV : List (V × V) → List (Value × Value) → Prop := Paired fun p q => RelV p.1 q.1 ∧ RelV p.2 q.2
def PPs (X : Cx) (pos : Pos) (keys : List (Option Expr)) (values : List Expr) (trs : List (TE × TE)) : Prop :=
  ∀ (pins : List (Addr × Obj)) (s : Shared) (σ : St) (H : Hp) (Q : List (V × V) → Hp → Prop), Inv X pins σ H s → tPairs trs σ H Q →
    wpAny (model X.prog X.w) X.A (evalPairs (pairTrees keys values X.env pos)) (fun vs s' => ∃ ps H', Inv X pins σ H' s' ∧ VV ps vs ∧ Q ps H') X.xe s
theorem pps_nil {X : Cx} {pos : Pos} : PPs X pos [] [] [] := fun pins s σ H Q I h => pairTrees_nil_walk ⟨[], H, I, .nil, h⟩
theorem pps_cons {X : Cx} {pos : Pos} {k v : Expr} {ks : List (Option Expr)} {vs : List Expr} {tk tv : TE} {trs : List (TE × TE)} (hk : PE X k tk) (hv : PE X v tv) (hr : PPs X pos ks vs trs) :
    PPs X pos (some k :: ks) (v :: vs) ((tk, tv) :: trs) := fun pins s σ H Q I h =>
  pairTrees_cons_walk (thn (hk pins s σ H _ I h) fun u s1 ⟨x, H1, I1, rx, q1⟩ => thn (hv pins s1 σ H1 _ I1 q1) fun w2 s2 ⟨y, H2, I2, ry, q2⟩ =>
    thn (hr pins s2 σ H2 _ I2 q2) fun ws s3 ⟨ps, H3, I3, rel, q3⟩ => ⟨(x, y) :: ps, H3, I3, .cons ⟨rx, ry⟩ rel, q3⟩)
def mergeK (kvs more : List (Key × V)) : List (Key × V) := more.foldl (fun acc kv => putK acc kv.1 kv.2) kvs
theorem KV.merge : ∀ {more : List (Key × V)} {rs : List (Key × Value)} {kvs : List (Key × V)} {vs : List (Key × Value)}, KV more rs → KV kvs vs → KV (mergeK kvs more) (merged vs rs) := by
  intro more rs kvs vs r
  unfold KV at r
  induction r generalizing kvs vs with
  | nil => intro q; exact q
  | @cons p q ps qs h t ih =>
    intro r0
    have e : KV (putK kvs p.1 p.2) (stored vs q.1 q.2) := by
      have := r0.put p.1 h.2
      rw [← h.1]; exact this
    exact ih e
theorem length_mergeK : ∀ (more kvs : List (Key × V)), (mergeK kvs more).length ≤ kvs.length + more.length
  | [], kvs => by show kvs.length ≤ kvs.length + 0; omega
  | p :: r, kvs => by
    have h1 := length_mergeK r (putK kvs p.1 p.2)
    have h2 := length_putK kvs p.1 p.2
    show (mergeK (putK kvs p.1 p.2) r).length ≤ _
    rw [List.length_cons]; omega
theorem carries_of {P : Program} {w : World} : ∀ {kvs : List (Key × V)} {ws : List (Value × Value)}, VV (kvs.map fun kv => (kV kv.1, kv.2)) ws → ∃ rs, Carries (mixKind P w) ws rs ∧ KV kvs rs
  | [], _, r => by rw [List.map_nil] at r; cases r; exact ⟨[], True.intro, .nil⟩
  | p :: kvs, _, r => by
    rw [List.map_cons] at r
    cases r with
    | @cons a b as bs h t =>
      obtain ⟨rs, c, q⟩ := carries_of (P := P) (w := w) t
      obtain ⟨b1, b2⟩ := b
      exact ⟨(p.1, b2) :: rs, ⟨kV_is h.1, rfl, c⟩, .cons ⟨rfl, h.2⟩ q⟩
def tDisp (trs : List (TE × TE)) : TE := fun σ H Q => ∀ p, H p = none → tPairs trs σ (upd H p (.dK [])) fun ps H2 => H2 p = some (.dK []) ∧ ∃ kvs : List (Key × V), ps = kvs.map (fun kv => (kV kv.1, kv.2)) ∧ kvs.length ≤ 15 ∧ Q (.ref p) (upd H2 p (.dK (mergeK [] kvs)))
theorem pe_disp {X : Cx} {pos : Pos} {keys : List (Option Expr)} {values : List Expr} {trs : List (TE × TE)} (h : PPs X pos keys values trs) (hall : keys.all (·.isSome) = true) (hl : keys.length = values.length) (h0 : keys ≠ [])
    (h15 : keys.length ≤ 15) : PE X (.Dict keys values pos) (tDisp trs) := by
  intro pins s σ H Q I q
  have hn := I.hok.fresh (Nat.le_refl s.heap.objs.size)
  have I1 := I.laid (a := s.heap.objs.size) (o := .dK []) (h' := s.heap.push { cls := .type "dict", data := .dict #[] }) (t' := s.toks) (fun _ _ q => Heap.get?_push_of_some _ q) (Nat.le_refl _) (dk_empty s.heap I.big)
  refine wpAny_Dict_walk (knd := mixKind X.prog X.w) hall hl h0 h15 (thn (h pins _ σ _ _ I1 (q _ hn)) fun ws s2 ⟨ps, H2, I2, rel, e, kvs, ep, lk, q2⟩ => ?_)
  subst ep
  obtain ⟨rs, c, rk⟩ := carries_of (P := X.prog) (w := X.w) rel
  obtain ⟨z, hd, vs0, r0, dd⟩ := dk_of I2.hok e
  cases r0
  refine ⟨rs, c, dd, fun h' dd' hs => ⟨.ref s.heap.objs.size, _, ?_, rfl, q2⟩⟩
  have hz : (mergeK [] kvs).length ≤ sizeLine := by
    have h1 := length_mergeK kvs []
    rw [List.length_nil] at h1
    rw [sizeLine_eq]; omega
  have he : ∃ q, h'.get? s.heap.objs.size = some q := let ⟨q, _, _, hq, _⟩ := dd'; ⟨q, hq⟩
  exact d_write I2 (by rw [e]; exact True.intro) hs he (dk_new hz hd (rk.merge .nil) dd')
structure M1 (X : Cx) (o : Expr) (m : Str) (apos : Pos) (e : Expr) (cpos : Pos) : Prop where
  base : attributeBase o m X.env (eval o X.env) = eval o X.env
  few : ((backTo cpos (starEach [e] X.env)).all (fun x => !x.1) && (backToKw cpos (keywordEach [] X.env)).all (fun x => x.1.isSome)
    && decide (([e] : List Expr).length + ([] : List Keyword).length + (if ([] : List Keyword).isEmpty then 0 else 1) < 30)) = true
  line : (apos.endLine == cpos.line) = true
  trees : backTo cpos (starEach [e] X.env) = [(false, eval e X.env)]
structure M2 (X : Cx) (o : Expr) (m : Str) (apos : Pos) (e f : Expr) (cpos : Pos) : Prop where
  base : attributeBase o m X.env (eval o X.env) = eval o X.env
  few : ((backTo cpos (starEach [e, f] X.env)).all (fun x => !x.1) && (backToKw cpos (keywordEach [] X.env)).all (fun x => x.1.isSome)
    && decide (([e, f] : List Expr).length + ([] : List Keyword).length + (if ([] : List Keyword).isEmpty then 0 else 1) < 30)) = true
  line : (apos.endLine == cpos.line) = true
  trees : backTo cpos (starEach [e, f] X.env) = [(false, eval e X.env), (false, eval f X.env)]
def IsD (H : Hp) (a : Addr) : Prop := (∃ kvs, Rd H a (.dK kvs)) ∨ ∃ kvs, Rd H a (.dT kvs)
theorem isD_at {X : Cx} {pins : List (Addr × Obj)} {σ : St} {H : Hp} {s : Shared} {a : Addr} (I : Inv X pins σ H s) (d : IsD H a) :
    s.TypeIs (.ref a) "dict" ∧ (∀ b, Value.ref a = .ref b → ∃ ob, s.heap.get? b = some ob ∧ ob.dict = none) ∧ (a == sysModules) = false := by
  rcases d with ⟨kvs, e⟩ | ⟨kvs, e⟩
  · obtain ⟨_, hd, vs, _, dd⟩ := dk_rd I.hok e
    refine ⟨dd.typeIs, fun b q => ?_, hd⟩
    cases q
    obtain ⟨ob, _, _, h1, h2, _⟩ := dd
    exact ⟨ob, h1, h2.2.1⟩
  · obtain ⟨_, hd, xs, _, dd⟩ := dt_rd I.hok e
    refine ⟨dd.typeIs, fun b q => ?_, hd⟩
    cases q
    obtain ⟨ob, _, _, h1, h2, _⟩ := dd
    exact ⟨ob, h1, h2.2.1⟩
section
variable {X : Cx} {pins : List (Addr × Obj)} {σ : St} {H : Hp} {s : Shared} {a : Addr} {y d : V} {u r : Value} {o : Option V} {A : Around} {E : Value → Shared → Prop}
theorem d_get2 {Q : Value → Shared → Prop} (hu : A.units + 1 < cLine) (I : Inv X pins σ H s) (g : DGet H a y o) (ry : RelV y u) (rd : RelV d r) (h : ∀ w' s', Inv X pins σ H s' → RelV (o.getD d) w' → Q w' s') :
    wpAny (model X.prog X.w) A (call (.builtin "dict.get") [.ref a, u, r]) Q E s := by
  rcases g with ⟨kvs, k, e, ey, l⟩ | ⟨kvs, k, b, e, ey, eb, l⟩
  · subst ey
    obtain ⟨z, hd, vs, rel, dd⟩ := dk_rd I.hok e
    refine call_meetsIn PySem.F.slot_dict_get dd.typeIs PySem.F.entry_dict_get (PySem.F.args_dict_get_3 _ _ _) (meets_dict_get_default (mixKind X.prog X.w) a (kV_is ry) hd r) ⟨_, dd.mapOf, h _ _ (I.tok _) ?_⟩
    rw [l]
    exact (rel.val k).getD rd
  · subst ey
    cases (show u = Value.ref b from ry)
    obtain ⟨z, hd, xs, rel, dd⟩ := dt_rd I.hok e
    refine call_meetsIn PySem.F.slot_dict_get dd.typeIs PySem.F.entry_dict_get (PySem.F.args_dict_get_3 _ _ _) (meetsH_dict_get_default (tupleKind (mixKind X.prog X.w)) a b hd r) ⟨tupleKind_room_in1 hu, k, xs, key_of I.hok eb, dd, h _ _ (I.tok _) ?_⟩
    rw [l]
    exact (rel.val k).getD rd
end
def tDGet1 (td ty : TE) : TE := fun σ H Q => td σ H fun x H1 => ∃ a, x = .ref a ∧ IsD H1 a ∧ ty σ H1 fun y H2 => ∃ o, DGet H2 a y o ∧ Q (o.getD .non) H2
def tDGet2 (td ty tx : TE) : TE := fun σ H Q => td σ H fun x H1 => ∃ a, x = .ref a ∧ IsD H1 a ∧ ty σ H1 fun y H2 => tx σ H2 fun z H3 => ∃ o, DGet H3 a y o ∧ Q (o.getD z) H3
def tDPop1 (td ty : TE) : TE := fun σ H Q => td σ H fun x H1 => ∃ a, x = .ref a ∧ IsD H1 a ∧ ty σ H1 fun y H2 => ∃ kvs k v, H2 a = some (.dK kvs) ∧ y = kV k ∧ valV kvs k = some v ∧ Q v (upd H2 a (.dK (dropK kvs k)))
def tDPop2 (td ty tx : TE) : TE := fun σ H Q => td σ H fun x H1 => ∃ a, x = .ref a ∧ IsD H1 a ∧ ty σ H1 fun y H2 => tx σ H2 fun z H3 => ∃ kvs k, H3 a = some (.dK kvs) ∧ y = kV k ∧
  (∀ v, valV kvs k = some v → Q v (upd H3 a (.dK (dropK kvs k)))) ∧ (valV kvs k = none → Q z H3)
section
variable {X : Cx} {o e f : Expr} {apos cpos : Pos} {td ty tx : TE}
theorem pe_dget2 (hu : X.A.units + 1 < cLine) (ho : PE X o td) (he : PE X e ty) (hf : PE X f tx) (m : M2 X o "get" apos e f cpos) : PE X (.Call (.Attribute o "get" apos) [e, f] [] cpos) (tDGet2 td ty tx) := by
  intro pins s σ H Q I h
  refine wpAny_Call_method m.base m.few m.line PySem.F.plainAttrs_dict PySem.F.slot_dict_get PySem.F.type_dict_get (thn (ho pins s σ H _ I h) fun u s1 ⟨x, H1, I1, rx, a, ex, d, q1⟩ => ?_)
  subst ex
  obtain rfl : u = Value.ref a := rx
  obtain ⟨t1, t2, _⟩ := isD_at I1 d
  refine ⟨t1, t2, ?_⟩
  rw [m.trees]
  refine Calls.callWith_builtin rfl (Calls.evalArgs_plain (Calls.spliced_cons (thn (he pins s1 σ H1 _ I1 q1) fun iv s2 ⟨y, H2, I2, ry, q2⟩ =>
    Calls.spliced_cons (thn (hf pins s2 σ H2 _ I2 q2) fun fv s3 ⟨z, H3, I3, rz, ov, g, q3⟩ => Calls.spliced_nil ?_))))
  exact d_get2 hu I3 g ry rz fun w' s4 I4 rw' => ⟨_, H3, I4, rw', q3⟩
end
section
variable {X : Cx} {pins : List (Addr × Obj)} {σ : St} {H : Hp} {s : Shared} {a : Addr} {kvs : List (Key × V)} {A : Around} {E : Value → Shared → Prop}
theorem d_copyOf {Q : Value → Shared → Prop} (I : Inv X pins σ H s) (e : Rd H a (.dK kvs)) (h : ∀ p s', H p = none → Inv X pins σ (upd H p (.dK kvs)) s' → Q (.ref p) s') : wpAny (model X.prog X.w) A (call (.type "dict") [.ref a]) Q E s := by
  obtain ⟨z, hd, vs, rel, dd⟩ := dk_rd I.hok e
  refine kt_call_dict hd dd (by rw [← rel.length]; exact z) fun h' dd' hs => ?_
  refine h _ _ (I.hok.fresh (Nat.le_refl _)) (I.laid (a := s.heap.objs.size) (o := .dK kvs) (t' := s.toks) (fun b q hq => ?_) (Nat.le_refl _) (dk_new z (beq_eq_false_iff_ne.mpr (Ne.symm (Nat.ne_of_lt I.big))) rel dd'))
  exact (hs.2 b (Nat.ne_of_lt (Heap.lt_size hq))).trans (Heap.get?_push_of_some _ hq)
end
section
variable {X : Cx} {pins : List (Addr × Obj)} {σ : St} {H : Hp} {s : Shared} {a : Addr} {y : V} {u : Value} {A : Around} {E : Value → Shared → Prop}
end
end L2
namespace Att
open PySem PySem.W PySem.Calls PyProof.Rows
theorem ints_of_wellAll {P : Params} {h : Heap} : ∀ (ns : List Int) (vs : List Value), WellAll P h vs (ns.map WData.int) → IntsAre vs ns := by
  intro ns
  induction ns with
  | nil =>
    intro vs w
    rw [List.map_nil] at w
    cases w
    exact .nil
  | cons n ns ih =>
    intro vs w
    rw [List.map_cons] at w
    cases w with
    | cons a b =>
      cases a
      exact .cons _ _ (ih _ b)
theorem script_of {l : OpenLaw} {n : Nat} (hn : l.most = some n) {P : Params} {h : Heap} {args : List WData} {vals : List Value}
    (hpre : l.row.toRowW.claim.pre args = true) (hwl : WellAll P h vals args) :
    ∃ a vs ns, vals = [Value.ref a] ∧ args = [WData.list (ns.map WData.int)] ∧ h.get? a = some { cls := .type "list", data := .seq vs.toArray } ∧ IntsAre vs ns ∧ ns.length ≤ n := by
  have hsh : WShape.hasAll [] args [.list .int] = true := (pre_splitW hpre).1
  have hc : l.pre.holds [] { args := args } = true := (pre_splitW hpre).2
  obtain ⟨d, r, rfl, h1, h2⟩ := hasAllW_cons hsh
  obtain rfl := hasAllW_nil h2
  obtain ⟨xs, rfl, h3⟩ := hasW_list h1
  obtain ⟨ns, rfl⟩ := items_int h3
  have hlen : ns.length ≤ n := by
    unfold OpenLaw.pre at hc
    have h4 : (WTm.not (.lt (.lit (.int (n : Int))) (.len (.arg 0)))).holds [] { args := [.list (ns.map .int)] } = true := by
      have h4 := (holds_andW hc).1
      rw [hn] at h4
      exact h4
    have h5 := condW_of h4 (w_not (w_lt w_lit (w_len_list (w_arg rfl))))
    rw [List.length_map] at h5
    refine Nat.le_of_not_lt fun q => ?_
    have q' : (n : Int) < ((ns.length : Nat) : Int) := by omega
    first
      | (rw [decide_eq_true q'] at h5; exact absurd h5 (by decide))
      | (simp at h5; omega)
  cases hwl with
  | cons w1 w2 =>
    cases w2
    cases w1 with
    | list ho hall => exact ⟨_, _, ns, rfl, rfl, ho, ints_of_wellAll ns _ hall, hlen⟩
theorem post_true (l : OpenLaw) (args : List WData) : l.row.toRowW.claim.post args (.bool true) args = true :=
  postW_of (r := l.row.toRowW) (X := (true == true))
    (show WShape.has [] (.bool true) .bool = true by first | rfl | decide | simp [WShape.has, WShape.arms, WShape.armsAll])
    (show (WTm.eq .res (.lit (.bool true))).value [] { args := args, res := some (.bool true), after := args } = some (.bool (true == true)) from w_eq_bool (w_res rfl) w_lit) rfl
theorem attach_call {l : OpenLaw} {n : Nat} {q : Program} {loose : List Str} {XP : (Str → Option Value) → Heap → Prop} {YP : World → Heap → Prop} {d : DefRec}
    (hn : l.most = some n) (hdf : d.params.defaults = [])
    (call : ∀ (w : World) (s₀ s₁ : Shared) (mg mb : Str → Option Value) (fa : Addr) (o : Obj) (pm cd doc : Value) (a : Addr) (vs : List Value) (ns : List Int),
      Ground q loose [] XP w s₀ mg mb s₁.heap → YP w s₁.heap →
      s₁.heap.get? fa = some o → o.data = .func (docDef d.name d.params d.body d.scope pm cd doc) → s₁.heap.CodeRec cd d.name → mg d.name = some (.ref fa) →
      s₁.heap.get? a = some { cls := .type "list", data := .seq vs.toArray } → IntsAre vs ns → ns.length ≤ n → s₁.gens = #[] →
      codeAny (model l.prog w) callerA (.call (.ref fa) ⟨[.ref a], []⟩) (fun r s' => r = .ok (.ret (.bool true)) ∧ OldK s₁.heap s'.heap ∧ s'.os = s₁.os ∧ AllBare s'.gens) s₁) :
    WalkO q loose XP YP l.row.toRowW d [] (fun f vs => PySem.call f vs) := by
  intro w s₀ s₁ mg mb G Y fa o pm cd doc dV kV ho hd hcd hD hmg hg args vals as hpre hlay hrd hwl hlo
  obtain rfl : dV = .none := Dflts.none hD hdf
  obtain rfl : kV = .none := Dflts.noKw hD
  obtain ⟨a, vs, ns, rfl, rfl, hobj, hints, hlen⟩ := script_of hn hpre hwl
  refine enter_call (codeAny_mono (call w s₀ s₁ mg mb fa o pm cd doc a vs ns G Y ho (fd_plain hd) hcd hmg hobj hints hlen hg) fun r s' hq => ?_)
  obtain ⟨rfl, h2, h3, h4⟩ := hq
  exact ⟨.inl ⟨.bool true, .bool true, [], rfl, fun _ => rfl, .bool true, post_true l _, fun _ => ⟨List.Pairwise.nil, fun _ hm => (nomatch hm)⟩⟩, h2, h3, h4⟩
section
variable {prog : Program} {w : World} {A : Around} {E : Value → Shared → Prop} {s : Shared} {K : Frag}
def noObjs (h : Heap) : Heap := { h with objs := #[] }
def ledger (h : Heap) (L d : Addr) : List (Addr × Obj) := (List.range h.objs.size).filterMap fun a => if a = L ∨ a = d then none else (h.get? a).map fun o => (a, o)
end
end Att
namespace L2
open PySem PySem.Spec PyProof.Rows
theorem vals_ints : ∀ {vs : List Value} {ns : List Int}, IntsAre vs ns → Vals (ns.map V.int) vs
  | _, _, .nil => .nil
  | _, _, .cons n t h => .cons ⟨t, rfl⟩ (vals_ints h)
def Only (H : Hp) : Prop := ∀ b, H b = none ∨ ∃ o xs, H b = some (.frz o (.lst xs))
theorem law_call {P : Program} {w : World} {K : PySem.W.Frag} {mg mb : Str → Option Value} {CX : CXT} {k : Nat} {fa a : Addr} {fd : FuncData} {x : Str} {sp : Sp} {s₁ : Shared} {vs : List Value} {ns : List Int}
    (KX : K.In s₁.heap) (hns : s₁.heap.Ns mainGlobals mg) (hb : s₁.heap.Ns builtinsNs mb) (hbb : ∀ x : Str, x ≠ "__name__" → mb x = bootBuiltins x) (hlim : s₁.heap.NoLimit) (hg : s₁.gens = #[])
    (ha : s₁.heap.get? a = some { cls := .type "list", data := .seq vs.toArray }) (hi : IntsAre vs ns) (hl : ns.length ≤ sizeLine) (hr : Room k callerA)
    (F : ∀ base : Heap, K.In base → base.Ns mainGlobals mg → FnOk P w K mg base CX k fa fd [x] sp) (hbind : ∀ (s : Shared) (u : Value), BindsTo s fd ⟨[u], []⟩ [(x, u)])
    (hsp : ∀ H : Hp, Only H → SqL K H a (ns.map V.int) → sp [.ref a] H (fun v _ => v = .bl true) fun _ _ _ => False)
    (hCX : ∀ H e s', CX [] H s₁ (fun _ _ _ => False) e s' → False) :
    codeAny (model P w) callerA (.call (.ref fa) ⟨[.ref a], []⟩) (fun r s' => r = .ok (.ret (.bool true)) ∧ OldK s₁.heap s'.heap ∧ s'.os = s₁.os ∧ AllBare s'.gens) s₁ := by
  have rv := vals_ints hi
  have lenV := hi.length
  have core : ∀ H : Hp, Only H → SqL K H a (ns.map V.int) → HOk P w H s₁.heap → (∀ b, H b ≠ none → b = a) → (H a ≠ none → K.lookup a = none) →
      codeAny (model P w) callerA (.call (.ref fa) ⟨[.ref a], []⟩) (fun r s' => r = .ok (.ret (.bool true)) ∧ OldK s₁.heap s'.heap ∧ s'.os = s₁.os ∧ AllBare s'.gens) s₁ := by
    intro H hO hS hok hA hK
    have base_of : ∀ {b : Addr} {o : Obj}, s₁.heap.get? b = some o → H b = none → (hidT s₁.heap H).get? b = some o := fun e n => hidT_get e n
    have noA : ∀ {b : Addr} {o : Obj} {es : Array DictEntry} {ep : Nat}, s₁.heap.get? b = some o → o.data = .dict es ep → H b = none := fun {b o es ep} e d => by
      cases q : H b with
      | none => rfl
      | some u =>
        have e' : b = a := hA b (by rw [q]; simp)
        subst e'
        rw [ha] at e; cases e
        have d' : Data.seq vs.toArray _ = Data.dict es ep := d
        cases d'
    have nsK : ∀ {b : Addr} {m : Str → Option Value}, s₁.heap.Ns b m → (hidT s₁.heap H).Ns b m := fun {b m} ⟨o, es, ep, e, d, r⟩ => ⟨o, es, ep, base_of e (noA e d), d, r⟩
    have hKb : K.In (hidT s₁.heap H) := fun b o e => base_of (KX b o e) (by
      cases q : H b with
      | none => rfl
      | some u =>
        have e' : b = a := hA b (by rw [q]; simp)
        subst e'
        rw [hK (by rw [q]; simp)] at e; cases e)
    have hM : Mod K mg (hidT s₁.heap H) := ⟨hKb, nsK hns, ⟨mb, nsK hb, hbb⟩, let ⟨mc, h1, h2⟩ := hlim; ⟨mc, nsK h1, h2⟩⟩
    have e0 : Env0 P w K mg (hidT s₁.heap H) callerA [] s₁ H := ⟨rfl, hM, fun b o e => of_hidT e, Nat.le_of_eq (hidT_size _ _), trivial, fun b hb => absurd (show b ∈ ([] : List Addr) from hb) (by simp), hok, .of_eq hg⟩
    refine codeAny_mono ((F _ hKb (nsK hns)).run callerA [] s₁ H ⟨[.ref a], []⟩ [.ref a] [.ref a] _ _ hr e0 (hbind s₁ (.ref a)) (.cons rfl .nil) (hsp H hO hS)) fun r s' h => ?_
    cases r with
    | error e => exact (hCX H e s' h).elim
    | ok fl =>
      cases fl with
      | next => exact False.elim h
      | brk => exact False.elim h
      | cont => exact False.elim h
      | ret u =>
        obtain ⟨v, H', os, bare, un, hok', r', q⟩ := h
        have q' : v = .bl true := q
        subst q'
        obtain rfl : u = Value.bool true := r'
        refine ⟨rfl, OldK.of_keep fun b o e => ?_, os, bare⟩
        cases q : H b with
        | none => exact un.keep b o e q (by intro z; exact absurd (show b ∈ ([] : List Addr) from z) (by simp)) (by simp)
        | some u =>
          rcases hO b with z | ⟨ob, xs, z⟩
          · rw [q] at z; cases z
          · have z2 := un.frzs b ob _ z
            obtain ⟨e1, _⟩ := hok b _ z
            obtain ⟨e2, _⟩ := hok' b _ z2
            rw [e] at e1; cases e1
            exact e2
  cases hk : K.lookup a with
  | some o =>
    have e := KX a o hk
    rw [ha] at e
    cases e
    refine core (fun _ => none) (fun _ => .inl rfl) (.inr ⟨_, vs.toArray, _, hk, rfl, rfl, rfl, by rw [List.size_toArray, lenV]; exact hl, by simpa using rv⟩) (fun b u z => by have z' : (none : Option HO) = some u := z; cases z') (fun b z => absurd rfl z) fun z => absurd rfl z
  | none =>
    refine core (fun b => if b = a then some (.frz { cls := .type "list", data := .seq vs.toArray } (.lst (ns.map V.int))) else none) (fun b => ?_) (.inl (.inr ⟨{ cls := .type "list", data := .seq vs.toArray }, if_pos rfl⟩)) (fun b u z => ?_) (fun b z => ?_) fun _ => hk
    · by_cases hb : b = a
      · exact .inr ⟨_, _, if_pos hb⟩
      · exact .inl (if_neg hb)
    · by_cases hb : b = a
      · have z' := (if_pos hb).symm.trans z
        cases z'
        subst hb
        exact ⟨ha, by rw [List.length_map]; exact hl, vs, _, rv, ha⟩
      · have z' := (if_neg hb).symm.trans z
        cases z'
    · by_cases hb : b = a
      · exact hb
      · exact absurd (if_neg hb) z
end L2
namespace L2
open PySem PySem.Spec PyProof.Rows
abbrev KOf {K : PySem.W.Frag} {h : Heap} (_ : K.In h) : PySem.W.Frag := K
theorem walk_of {l : PySem.W.OpenLaw} {n k : Nat} {q : Program} {loose : List Str} {XP : (Str → Option Value) → Heap → Prop} {YP : World → Heap → Prop} {d : DefRec} {K : Params → PySem.W.Frag} {CX : World → CXT} {sp : World → Sp} {x : Str}
    (hn : l.most = some n) (hn2 : n ≤ sizeLine) (hdf : d.params.defaults = []) (hr : Room k callerA)
    (hY : ∀ (w : World) (h : Heap), YP w h → (K w.params).In h)
    (F : ∀ (w : World) (mg : Str → Option Value) (fa : Addr) (h : Heap), (K w.params).In h → h.Ns mainGlobals mg → mg d.name = some (.ref fa) →
      ∃ fd : FuncData, (∀ (s : Shared) (u : Value), BindsTo s fd ⟨[u], []⟩ [(x, u)]) ∧
        ∀ base : Heap, (K w.params).In base → base.Ns mainGlobals mg → FnOk l.prog w (K w.params) mg base (CX w) k fa fd [x] (sp w))
    (hsp : ∀ (w : World) (H : Hp) (a : Addr) (ns : List Int), ns.length ≤ n → Only H → SqL (K w.params) H a (ns.map V.int) → sp w [.ref a] H (fun v _ => v = .bl true) fun _ _ _ => False)
    (hCX : ∀ (w : World) (H : Hp) (s : Shared) (e : Value) (s' : Shared), CX w [] H s (fun _ _ _ => False) e s' → False) :
    PySem.W.WalkO q loose XP YP l.row.toRowW d [] (fun f vs => PySem.call f vs) := by
  refine Att.attach_call hn hdf fun w s₀ s₁ mg mb fa o pm cd doc a vs ns G Y ho hd hcd hmg hobj hints hlen hg => ?_
  have KX := hY w _ Y
  obtain ⟨fd, hb, hF⟩ := F w mg fa _ KX G.T.g hmg
  exact law_call KX G.T.g G.T.b G.T.builtins G.T.nolimit hg hobj hints (Nat.le_trans hlen hn2) hr hF hb (fun H hO hS => hsp w H a ns hlen hO hS) fun H e s' => hCX w H s₁ e s'
end L2
/- THE LAST THEOREM (shape; LID, My.* are yours):
   My.Adr: a structure of the addresses that your layer names (classes, functions); My.Txt K t: a structure (Prop) of the equations over K;
   My.txt_mk : {K} {implicit addresses ..} (e1 : nsIn K mainGlobals "law" = some (some (.ref f))) (e2 : K.lookup f = some ⟨oc, od, .func (fnOf "law" "law" params body scope dV kV doc pm an cdv ct), sl⟩) (e3 : codeIn K cdv "law" = true) .. : ∃ t, My.Txt K t
set_option maxRecDepth 100000 in
set_option maxHeartbeats 0 in
(the tactic k_is has no namespace: write k_is) -/
namespace L2
open PySem PySem.Spec PyProof.Rows
def inClass (s : Stmt) (j : Nat) : Stmt := match s with
  | .ClassDef _ _ _ body _ _ _ _ _ _ _ => body.getD j (.Pass ⟨0, 0, 0, 0⟩)
  | _ => .Pass ⟨0, 0, 0, 0⟩
def defArgs (s : Stmt) : Arguments := match s with
  | .FunctionDef _ a _ _ _ _ _ _ _ _ => a
  | _ => { posonlyargs := [], args := [], vararg := none, kwonlyargs := [], kw_defaults := [], kwarg := none, defaults := [] }
def defBody (s : Stmt) : List Stmt := match s with
  | .FunctionDef _ _ b _ _ _ _ _ _ _ => b
  | _ => []
def defScope (s : Stmt) : Scope := match s with
  | .FunctionDef _ _ _ _ _ _ sc _ _ _ => sc
  | _ => { kind := .function, names := [], isGenerator := false, isCoroutine := false }
abbrev CX0 : CXT := fun _ _ _ _ _ _ => False
abbrev E0 : XK := fun _ _ _ => False
theorem pass0 {X : Cx} : Passes CX0 X E0 := fun _ _ _ _ _ _ _ h => h.elim
structure Fun (K : PySem.W.Frag) (x qual : Str) (st : Stmt) (f : Addr) (fd : FuncData) : Prop where
  ex : ∃ (oc : Value) (od : Option Addr) (kV doc pm : Value) (an : Option Addr) (cdv ct : Value) (osl : Array (Option Value)),
    fd = PySem.W.fnOf x qual (defArgs st) (defBody st) (defScope st) .none kV doc pm an cdv ct ∧ K.lookup f = some ⟨oc, od, .func fd, osl⟩ ∧ PySem.W.codeIn K cdv qual = true
  kp : PySem.W.keepIn K (.ref f) = true
section
variable {P : Program} {w : World} {K : PySem.W.Frag} {mg : Str → Option Value} {base : Heap}
theorem Fun.ok {x qual : Str} {st : Stmt} {f : Addr} {fd : FuncData} {N ps : List Str} {k : Nat} {sp : Sp} (F : Fun K x qual st f fd) (S : FnScope N ps (defScope st)) (len : ∀ vs H Q E, sp vs H Q E → vs.length = ps.length)
    (hbody : ∀ (cdv : Value) (A : Around) (outer : List Env) (s : Shared) (H : Hp) (vs : List V) (Q : VK) (E : XK), Room k (A.deeper (envOfC qual (defScope st) s.heap.objs.size f cdv)) → sp vs H Q E →
      ∃ t, PSs (cxOf CX0 P w K mg base N qual (defScope st) f cdv A outer s H E).nox (defBody st) t ∧ t { nx := fun _ H' => Q .non H', rt := Q } (start N vs) H) : FnOk P w K mg base CX0 (k + 1) f fd ps sp := by
  obtain ⟨oc, od, kV, doc, pm, an, cdv, ct, osl, rfl, lk, hcd⟩ := F.ex
  refine fn_of lk hcd S len fun A outer s H vs Q E hr hsp => ?_
  obtain ⟨t, h, q⟩ := hbody cdv A outer s H vs Q E hr hsp
  exact ⟨t, h.nox, q⟩
theorem Fun.binds {x qual : Str} {st : Stmt} {f : Addr} {fd : FuncData} {ps : List Str} (F : Fun K x qual st f fd)
    (h : ∀ (kV doc pm : Value) (an : Option Addr) (cdv ct : Value) (us : List Value), us.length = ps.length → bindArgs (PySem.W.fnOf x qual (defArgs st) (defBody st) (defScope st) .none kV doc pm an cdv ct) ⟨us, []⟩ = pure (ps.zip us)) : Binds K fd ps [] := by
  obtain ⟨oc, od, kV, doc, pm, an, cdv, ct, osl, rfl, lk, hcd⟩ := F.ex
  exact .all (h kV doc pm an cdv ct)
theorem fun_mk {x qual : Str} {st : Stmt} {f : Addr} {oc : Value} {od an : Option Addr} {osl : Array (Option Value)} {kV doc pm cdv ct : Value} (l : K.lookup f = some ⟨oc, od, .func (PySem.W.fnOf x qual (defArgs st) (defBody st) (defScope st) .none kV doc pm an cdv ct), osl⟩)
    (c : PySem.W.codeIn K cdv qual = true) (k : PySem.W.keepIn K (.ref f) = true) : Fun K x qual st f (PySem.W.fnOf x qual (defArgs st) (defBody st) (defScope st) .none kV doc pm an cdv ct) := ⟨⟨oc, od, kV, doc, pm, an, cdv, ct, osl, rfl, l, c⟩, k⟩
end
theorem hu_of {A : Around} {k : Nat} (hr : Room k A) : A.units + 1 < cLine := Nat.lt_of_le_of_lt (Nat.add_le_add_left (by decide : 1 ≤ 64) _) hr.units
section
variable {X : Cx}
end
def Same (H H' : Hp) : Prop := ∀ b o, H b = some o → H' b = some o
theorem Same.refl (H : Hp) : Same H H := fun _ _ h => h
theorem Same.trans {H H1 H2 : Hp} (a : Same H H1) (b : Same H1 H2) : Same H H2 := fun c o h => b c o (a c o h)
theorem Same.free {H H' : Hp} (e : Same H H') {l : Addr} (h : H' l = Option.none) : H l = Option.none := by
  cases q : H l with
  | none => rfl
  | some o =>
    rw [e l o q] at h
    cases h
theorem Same.seq {K : PySem.W.Frag} {H H' : Hp} {a : Addr} {xs : List V} (e : Same H H') (h : SqL K H a xs) : SqL K H' a xs := by
  rcases h with (h | ⟨o, h⟩) | h
  · exact .inl (.inl (e _ _ h))
  · exact .inl (.inr ⟨o, e _ _ h⟩)
  · exact .inr h
section
variable {κ : Type} [DecidableEq κ]
end
end L2
section
namespace L2
open PySem PySem.Spec PyProof.Rows
def CDivL (i j : Int) : Prop := 0 < j ∧ j.natAbs.log2 < 9000
section
variable {X : Cx}
theorem op_fdivL : OpR X (binaryOp .FloorDiv) (rI CDivL fun i j => .int (i / j)) := opI fun i j _ _ _ _ _ hc q => by
  have h1 : (0 : Int) < j := hc.1
  exact floordiv_int (by omega) (by rw [Int.fdiv_eq_ediv_of_nonneg i (by omega)]; exact q) (.inl (PyProof.noPylong_of_log2 hc.2))
end
mutual
def DA (K : PySem.W.Frag) (H : Hp) : PyData → V → Prop
  | .none, v => v = .non
  | .bool b, v => v = .bl b
  | .int i, v => v = .int i
  | .str x, v => v = .str x
  | .list ds, v => ∃ a xs, v = .ref a ∧ SqL K H a xs ∧ DAs K H ds xs
  | .tuple ds, v => ∃ a xs, v = .ref a ∧ SqT K H a xs ∧ DAs K H ds xs
  | .dict _, _ => False
def DAs (K : PySem.W.Frag) (H : Hp) : List PyData → List V → Prop
  | [], xs => xs = []
  | d :: ds, xs => ∃ x r, xs = x :: r ∧ DA K H d x ∧ DAs K H ds r
end
section
variable {X : Cx} {pins : List (Addr × Obj)} {σ : St} {H : Hp} {s : Shared}
mutual
theorem DA.reads (I : Inv X pins σ H s) : ∀ (d : PyData) {v : V} {u : Value}, DA X.K H d v → RelV v u → ∃ as, Reads s.heap u d as
  | .none, v, u, h, r => by
    have h : v = .non := by simpa only [DA] using h
    subst h; cases r; exact ⟨[], .none⟩
  | .bool b, v, u, h, r => by
    have h : v = .bl b := by simpa only [DA] using h
    subst h; cases r; exact ⟨[], .bool b⟩
  | .int i, v, u, h, r => by
    have h : v = .int i := by simpa only [DA] using h
    subst h; obtain ⟨t, rfl⟩ := r; exact ⟨[], .int i t⟩
  | .str x, v, u, h, r => by
    have h : v = .str x := by simpa only [DA] using h
    subst h; obtain ⟨t, rfl⟩ := r; exact ⟨[], .str x t⟩
  | .list ds, v, u, h, r => by
    have h : ∃ a xs, v = .ref a ∧ SqL X.K H a xs ∧ DAs X.K H ds xs := by simpa only [DA] using h
    obtain ⟨a, xs, rfl, hl, hs⟩ := h
    cases r
    obtain ⟨its, rel, ⟨o, n, e1, e2, _, e3⟩, _⟩ := I.list hl
    obtain ⟨as, ra⟩ := DAs.reads I ds hs rel
    exact ⟨a :: as, .list e1 e2 e3 ra⟩
  | .tuple ds, v, u, h, r => by
    have h : ∃ a xs, v = .ref a ∧ SqT X.K H a xs ∧ DAs X.K H ds xs := by simpa only [DA] using h
    obtain ⟨a, xs, rfl, hl, hs⟩ := h
    cases r
    obtain ⟨its, rel, ⟨o, e1, e2, n, e3⟩, _⟩ := I.tuple hl
    obtain ⟨as, ra⟩ := DAs.reads I ds hs rel
    exact ⟨as, .tuple e1 e2 e3 ra⟩
  | .dict _, v, u, h, r => by
    have h : False := by simpa only [DA] using h
    exact h.elim
theorem DAs.reads (I : Inv X pins σ H s) : ∀ (ds : List PyData) {xs : List V} {us : List Value}, DAs X.K H ds xs → Vals xs us → ∃ as, ReadsAll s.heap us ds as
  | [], xs, us, h, r => by
    have h : xs = [] := by simpa only [DAs] using h
    subst h; cases r; exact ⟨[], .nil⟩
  | d :: ds, xs, us, h, r => by
    have h : ∃ x r, xs = x :: r ∧ DA X.K H d x ∧ DAs X.K H ds r := by simpa only [DAs] using h
    obtain ⟨x, ys, rfl, h1, h2⟩ := h
    cases r with
    | cons rx ry =>
      obtain ⟨as, ra⟩ := DA.reads I d h1 rx
      obtain ⟨bs, rb⟩ := DAs.reads I ds h2 ry
      exact ⟨as ++ bs, .cons ra rb⟩
end
def rEqD (K : PySem.W.Frag) (neg : Bool) : R2 := fun x y H Q => ∃ dx dy, DA K H dx x ∧ DA K H dy y ∧ SeqAt.shaped dx = true ∧ SeqAt.shaped dy = true ∧ Q (.bl (if neg then !PyData.eqv dx dy else PyData.eqv dx dy)) H
theorem op_neD (hu : X.A.units + 64 < cLine) : OpR X (compareOp .NotEq) (rEqD X.K true) := by
  intro pins s σ H x y v u Q I rx ry ⟨dx, dy, hx, hy, sx, sy, q⟩
  obtain ⟨as, ra⟩ := DA.reads I dx hx rx
  obtain ⟨bs, rb⟩ := DA.reads I dy hy ry
  exact ne_dataH ra rb sx sy hu ⟨.bl (!PyData.eqv dx dy), H, I, rfl, q⟩
end
end L2
end
section
namespace L2
open PySem PySem.Spec PyProof.Rows
structure OwnAt (P : Program) (w : World) (K : PySem.W.Frag) (mg : Str → Option Value) (base : Heap) (f : Addr) (k : Nat) (sp : Sp) : Prop where
  ex : ∃ fd ps, FnOk P w K mg base CX0 k f fd ps sp ∧ PySem.W.keepIn K (.ref f) = true ∧ Binds K fd ps []
structure Own (P : Program) (w : World) (K : PySem.W.Frag) (mg : Str → Option Value) (base : Heap) (x : Str) (k : Nat) (sp : Sp) : Prop where
  ex : ∃ f, mg x = some (.ref f) ∧ OwnAt P w K mg base f k sp
def tCallL (X : Cx) (i : Nat) (t : TA) : TE := fun σ H Q => ∃ f k sp, σ[i]? = some (some (.ref f)) ∧ OwnAt X.prog X.w X.K X.mg X.base f k sp ∧ Room k X.A ∧ t σ H fun vs H1 => sp vs H1 Q E0
structure ModD (P : Program) (w : World) (base : Heap) (a : Addr) (kvs : List (Key × V)) : Prop where
  ne : (a == sysModules) = false
  ex : ∃ vs, KV kvs vs ∧ base.DictOf (mixKind P w) a vs
section
variable {X : Cx} {k : Nat} {sp : Sp} {x : Str} {p pos : Pos} {e o i : Expr} {es : List Expr} {t : TA} {td ty : TE}
theorem pe_own (O : Own X.prog X.w X.K X.mg X.base x k sp) (hr : Room k X.A) (ha : PA X (e :: es) t) (hg : Gl X x := by rfl) (hdb : (x == ("__debug__" : Str)) = false := by decide)
    (he : starEach (e :: es) X.env = (false, eval e X.env) :: starEach es X.env := by rfl) (hpl : (backTo pos (starEach es X.env)).any (·.1) = false := by rfl) :
    PE X (.Call (.Name x p) (e :: es) [] pos) (tCall sp [] E0 t) := by
  obtain ⟨f, hm, ⟨fd, ps, F, hk, hb⟩⟩ := O
  exact pe_call F hr hg hm hk hb .nil pass0 ha hdb he hpl
theorem pe_gref {a : Addr} (hm : X.mg x = some (.ref a)) (hg : Gl X x := by rfl) (hd : (x == ("__debug__" : Str)) = false := by decide) : PE X (.Name x p) (tC (.ref a)) := pe_glob (v := .ref a) hg hm rfl hd
theorem pe_ownL {n : Nat} (ha : PA X (e :: es) t) (hN : X.N[n]? = some x := by rfl) (hv : Vis X.env.scope x := by first | exact Or.inl rfl | exact Or.inr (Or.inl rfl) | exact Or.inr (Or.inr rfl)) (hdb : (x == ("__debug__" : Str)) = false := by decide) (hcd : (x == ("__classdict__" : Str)) = false := by decide)
    (he : starEach (e :: es) X.env = (false, eval e X.env) :: starEach es X.env := by rfl) (hpl : (backTo pos (starEach es X.env)).any (·.1) = false := by rfl) :
    PE X (.Call (.Name x p) (e :: es) [] pos) (tCallL X n t) := by
  intro pins s σ H Q I ⟨f, k, sp, hσ, ⟨fd, ps, F, hk, hb⟩, hr, h⟩
  refine wpAny_Call_Name_kw (thn (pe_var (pos := p) hN hv hdb hcd pins s σ H (fun v H1 => v = .ref f ∧ H1 = H) I ⟨_, hσ, rfl, rfl⟩) fun u s1 ⟨v, H1, I1, r, q⟩ => ?_)
  obtain ⟨rfl, rfl⟩ := q
  cases r
  refine PySem.W.callWith_K (h₀ := X.base) I.ok.mod.kin hk (thn (ha pos pins s1 σ H1 _ I1 h) fun us s2 ⟨vs, H2, I2, r2, q2⟩ => ⟨I2.kIn, ?_⟩) he hpl
  exact run_fn F hr hb .nil pass0 I2 r2 (by rw [List.append_nil]; exact q2)
def tMIn (X : Cx) (neg : Bool) (ty td : TE) : TE := fun σ H Q => ty σ H fun y H1 => td σ H1 fun z H2 => ∃ a kvs k, z = .ref a ∧ ModD X.prog X.w X.base a kvs ∧ y = kV k ∧ Q (.bl (if neg then !(valV kvs k).isSome else (valV kvs k).isSome)) H2
def tMGet (X : Cx) (td ty : TE) : TE := fun σ H Q => td σ H fun z H1 => ty σ H1 fun y H2 => ∃ a kvs k v, z = .ref a ∧ ModD X.prog X.w X.base a kvs ∧ y = kV k ∧ valV kvs k = some v ∧ Q v H2
theorem pc_mnotin (hi : PE X i ty) (ho : PE X o td) : PC X .NotIn i o (tMIn X true ty td) := by
  intro pins s σ H Q I h
  refine thn (hi pins s σ H _ I h) fun iv s1 ⟨y, H1, I1, ry, q1⟩ => thn (ho pins s1 σ H1 _ I1 q1) fun u s2 ⟨z, H2, I2, rx, a, kvs, k, ex, ⟨hd, vs, rel, dd⟩, ey, q2⟩ => ?_
  subst ex ey
  obtain rfl : u = Value.ref a := rx
  refine wpAny_notIn_of (kV_is ry) hd (dd.keep I2.bk).mapOf ?_
  rw [← (rel.val k).isSome_eq]
  exact ⟨.bl (!(valV kvs k).isSome), H2, I2.tok _, rfl, q2⟩
theorem pe_mget (ho : PE X o td) (hi : PE X i ty) (hs : NoSl i) : PE X (.Subscript o i pos) (tMGet X td ty) := by
  intro pins s σ H Q I h
  refine subD_of PySem.F.slot_dict_getitem.lookup hs (thn (ho pins s σ H _ I h) fun u s1 ⟨z, H1, I1, rx, q1⟩ => thn (hi pins s1 σ H1 _ I1 q1) fun iv s2 ⟨y, H2, I2, ry, a, kvs, k, v, ex, ⟨hd, vs, rel, dd⟩, ey, l, q2⟩ => ?_)
  subst ex ey
  obtain rfl : u = Value.ref a := rx
  have dd' := dd.keep I2.bk
  obtain ⟨w', hw, rw'⟩ := RelO.some_of (v := v) (o := valueAt vs k) (by rw [← l]; exact rel.val k)
  exact ⟨dd'.typeIs, wpAny_getItem_of (kV_is ry) dd'.mapOf hw ⟨v, H2, I2.tok _, rw', q2⟩⟩
theorem call_dict_of : CallR X (.type "dict") (fun xs H Q => ∃ a kvs, xs = [.ref a] ∧ Rd H a (.dK kvs) ∧ ∀ q, H q = none → Q (.ref q) (upd H q (.dK kvs))) := by
  intro pins s σ H xs us Q I r ⟨a, kvs, e, hd, q⟩
  subst e
  obtain ⟨u, rfl, ru⟩ := vals1 r
  cases ru
  exact d_copyOf I hd fun b s' hn I' => ⟨.ref b, _, I', rfl, q b hn⟩
end
end L2
end
section
namespace L2
open PySem PySem.Spec PyProof.Rows
def Ev (t : TE) (σ : St) (H : Hp) (v : V) : Prop := ∀ Q : VK, Q v H → t σ H Q
def EvT (t : TT) (σ : St) (H : Hp) (b : Bool) : Prop := ∀ Q : Bool → Hp → Prop, Q b H → t σ H Q
def EvA (t : TA) (σ : St) (H : Hp) (vs : List V) : Prop := ∀ Q : List V → Hp → Prop, Q vs H → t σ H Q
section
variable {σ : St} {H : Hp} {v x y : V} {i j : Int} {ta tb tc td : TE} {tt tu : TT} {t : TA} {K : PySem.W.Frag} {nx bk ct : St → Hp → Prop} {rt : VK} {u w : TS} {b c : Bool} {vs : List V} {n : Nat}
theorem Ev.go {Q : VK} (h : Ev ta σ H v) (q : Q v H) : ta σ H Q := h Q q
theorem EvT.go {Q : Bool → Hp → Prop} (h : EvT tt σ H b) (q : Q b H) : tt σ H Q := h Q q
theorem EvA.go {Q : List V → Hp → Prop} (h : EvA t σ H vs) (q : Q vs H) : t σ H Q := h Q q
end
end L2
end
section
namespace L2
open PySem PySem.Spec PyProof.Rows
def Keep (p : Addr) (H H' : Hp) : Prop := ∀ b o, H b = some o → b ≠ p → H' b = some o
def At1 (p : Addr) (H H' : Hp) : Prop := ∀ b, b ≠ p → H' b = H b
theorem At1.upd {H : Hp} {q : Addr} {o : HO} : At1 q H (upd H q o) := fun b n => upd_ne n
theorem At1.keep {H H' : Hp} {p : Addr} (a : At1 p H H') : Keep p H H' := fun b o e n => by rw [a b n]; exact e
def TupS (H H' : Hp) : Prop := ∀ b xs, H b = some (.tup xs) → H' b = some (.tup xs)
theorem Same.upd {H : Hp} {q : Addr} {o : HO} (h : H q = none) : Same H (upd H q o) := fun b u e => by
  rw [upd_ne (ne_of_none e h)]; exact e
theorem Keep.upd {H : Hp} {q : Addr} {o : HO} : Keep q H (upd H q o) := fun b u e n => by rw [upd_ne n]; exact e
theorem Keep.refl {H : Hp} {p : Addr} : Keep p H H := fun _ _ e _ => e
theorem Keep.of {H H' : Hp} {p : Addr} (s : Same H H') : Keep p H H' := fun b o e _ => s b o e
theorem Keep.trans {H H1 H2 : Hp} {p : Addr} (a : Keep p H H1) (b : Keep p H1 H2) : Keep p H H2 := fun c o e n => b c o (a c o e n) n
theorem Same.tr {H H1 H2 : Hp} {p : Addr} (a : Same H H1) (b : Keep p H1 H2) (n : H p = none) : Same H H2 := fun c o e => b c o (a c o e) (ne_of_none e n)
theorem Keep.free {H H' : Hp} {p : Addr} {o : HO} (k : Keep p H H') (hp : H' p = some o) {q : Addr} (h : H' q = none) : H q = none := by
  cases e : H q with
  | none => rfl
  | some u =>
    by_cases z : q = p
    · subst z; rw [hp] at h; cases h
    · rw [k q u e z] at h; cases h
theorem TupS.refl (H : Hp) : TupS H H := fun _ _ h => h
theorem TupS.trans {H H1 H2 : Hp} (a : TupS H H1) (b : TupS H1 H2) : TupS H H2 := fun c o e => b c o (a c o e)
theorem Same.ts {H H' : Hp} (s : Same H H') : TupS H H' := fun b xs e => s _ _ e
theorem Keep.ts {H H' : Hp} {p : Addr} {ys : List V} (k : Keep p H H') (h : H p = some (.lst ys)) : TupS H H' := fun b xs e => k _ _ e (ne_of e h (by intro z; cases z))
theorem line_big {n : Nat} (h : n ≤ 1000000) : n < sizeLine := Nat.lt_of_le_of_lt h (by decide)
def tTupG (t : TA) : TE := fun σ H Q => t σ H fun xs H1 => xs.length ≤ 1000000 ∧ ∀ p H2, H1 p = none → Same H1 H2 → H2 p = some (.tup xs) → Q (.ref p) H2
def tLstG (t : TA) : TE := fun σ H Q => t σ H fun xs H1 => xs.length ≤ 1000000 ∧ ∀ p H2, H1 p = none → Same H1 H2 → H2 p = some (.lst xs) → Q (.ref p) H2
section
variable {X : Cx} {es : List Expr} {t : TA} {pos : Pos}
theorem pe_tupG {x1} (h : PA X es t) : PE X (.Tuple es x1 pos) (tTupG t) := by
  intro pins s σ H Q I hq
  refine wpAny_Tuple_spliced (thn (h pos pins s σ H _ I hq) fun us s1 ⟨xs, H1, I1, r, z, q⟩ => ⟨by rw [← r.length]; exact Nat.le_of_lt (line_big z), ?_⟩)
  have hf : H1 s1.heap.objs.size = none := I1.hok.fresh (Nat.le_refl _)
  refine ⟨.ref s1.heap.objs.size, upd H1 s1.heap.objs.size (.tup xs), I1.laid (t' := s1.toks) (fun b u e => Heap.get?_push_of_some _ e) (Nat.le_refl _) ?_, rfl, q _ _ hf (Same.upd hf) upd_same⟩
  exact ⟨Nat.le_of_lt (line_big z), us, r, ⟨_, Heap.get?_push_size _ rfl, rfl, _, rfl⟩⟩
theorem pe_lstG (h : PA X es t) : PE X (.List es pos) (tLstG t) := by
  intro pins s σ H Q I hq
  refine wpAny_List_spliced (thn (h pos pins s σ H _ I hq) fun us s1 ⟨xs, H1, I1, r, z, q⟩ => ⟨by rw [← r.length]; exact Nat.le_of_lt (line_big z), ?_⟩)
  have hf : H1 s1.heap.objs.size = none := I1.hok.fresh (Nat.le_refl _)
  refine ⟨.ref s1.heap.objs.size, upd H1 s1.heap.objs.size (.lst xs), I1.laid (t' := s1.toks) (fun b u e => Heap.get?_push_of_some _ e) (Nat.le_refl _) ?_, rfl, q _ _ hf (Same.upd hf) upd_same⟩
  exact ⟨Nat.le_of_lt (line_big z), us, 0, r, Heap.get?_push_size _ rfl⟩
theorem OpR.imp {f : Value → Value → Sem Value} {r r' : R2} (h : OpR X f r) (i : ∀ x y H Q, r' x y H Q → r x y H Q) : OpR X f r' := fun pins s σ H x y v u Q I rx ry q => h pins s σ H x y v u Q I rx ry (i _ _ _ _ q)
def rCatG : R2 := fun x y H Q => ∃ l b xs zs, x = .ref l ∧ y = .ref b ∧ H l = some (.lst xs) ∧ H b = some (.lst zs) ∧ xs.length + zs.length ≤ 1000000 ∧ ∀ p H2, H p = none → Same H H2 → H2 p = some (.lst (xs ++ zs)) → Q (.ref p) H2
theorem op_catG : OpR X (binaryOp .Add) rCatG := op_cat.imp fun x y H Q ⟨l, b, xs, zs, e1, e2, h1, h2, hl, q⟩ => ⟨l, b, xs, zs, e1, e2, h1, h2, Nat.le_of_lt (line_big hl), fun p hp => q p _ hp (Same.upd hp) upd_same⟩
def rSlG (K : PySem.W.Frag) : V → Option Int → Option Int → Hp → VK → Prop := fun x lo hi H Q => ∃ a xs, x = .ref a ∧ SqL K H a xs ∧ ∀ p H2, H p = none → Same H H2 → H2 p = some (.lst (cutV xs lo hi)) → Q (.ref p) H2
theorem sl_listG : SlR X (rSlG X.K) := fun pins s σ H x v vl vu lo hi sl Q I rx hs pl pu ⟨a, xs, e, h, q⟩ => sl_list pins s σ H x v vl vu lo hi sl Q I rx hs pl pu ⟨a, xs, e, h, fun p hp => q p _ hp (Same.upd hp) upd_same⟩
def rAppendG : V → List V → Hp → VK → Prop := fun x vs H Q => ∃ l xs y, x = .ref l ∧ vs = [y] ∧ H l = some (.lst xs) ∧ xs.length ≤ 1000000 ∧ ∀ H3, At1 l H H3 → H3 l = some (.lst (xs ++ [y])) → Q .non H3
theorem mt_appendG : MtM X "list.append" rAppendG := fun pins s σ H x xs v us Q I rx r ⟨l, ys, y, e1, e2, h, hz, q⟩ => mt_append pins s σ H x xs v us Q I rx r ⟨l, ys, y, e1, e2, h, line_big hz, q _ At1.upd upd_same⟩
def rDictG : List V → Hp → VK → Prop := fun xs H Q => ∃ a kvs, xs = [V.ref a] ∧ H a = some (.dK kvs) ∧ ∀ p H2, H p = none → Same H H2 → H2 p = some (.dK kvs) → Q (.ref p) H2
end
section
variable {σ : St} {H H4 : Hp} {v x y : V} {ta tb tc to : TE} {t tr : TA} {Q : VK} {vs xs ys : List V} {nx bk ct : St → Hp → Prop} {rt : VK} {K : PySem.W.Frag} {a l p : Addr} {i j : Nat} {k n : Int} {tb' : TS} {r : R2} {b : Bool}
theorem divl {i j : Int} (h : 0 < j) (h2 : j ≤ 2 ^ 62) : CDivL i j := ⟨h, by
  have h0 : j.natAbs ≠ 0 := by omega
  have h3 : j.natAbs < 2 ^ 63 := by omega
  have := (Nat.log2_lt h0).mpr h3
  omega⟩
theorem pick {xs : List V} {r : Int} (h0 : 0 ≤ r) (h1 : r < xs.length) : ∃ v, atI xs r = some v ∧ v ∈ xs := by
  obtain ⟨n, rfl⟩ := Int.eq_ofNat_of_zero_le h0
  have hn : n < xs.length := by omega
  exact ⟨xs[n], atI_nat (List.getElem?_eq_getElem hn), List.getElem_mem hn⟩
end
end L2
end
section
namespace L2
open PySem PySem.Spec PyProof.Rows
def plainE : Expr → Bool
  | .Starred _ _ => false
  | _ => true
theorem starEach_plain {e : Expr} {es : List Expr} {env : Env} (h : plainE e = true) : starEach (e :: es) env = (false, eval e env) :: starEach es env := by
  cases e <;> first | rfl | (cases h)
theorem stars_any {pos : Pos} {env : Env} : ∀ {es : List Expr}, es.all plainE = true → (backTo pos (starEach es env)).any (·.1) = false
  | [], _ => rfl
  | e :: es, h => by
    rw [List.all_cons, Bool.and_eq_true] at h
    rw [starEach_plain h.1]
    have q := stars_any (pos := pos) (env := env) h.2
    simp only [backTo, List.map_cons, List.any_cons] at q ⊢
    rw [q]
    rfl
theorem stars_all {pos : Pos} {env : Env} : ∀ {es : List Expr}, es.all plainE = true → (backTo pos (starEach es env)).all (fun x => !x.1) = true
  | [], _ => rfl
  | e :: es, h => by
    rw [List.all_cons, Bool.and_eq_true] at h
    rw [starEach_plain h.1]
    have q := stars_all (pos := pos) (env := env) h.2
    simp only [backTo, List.map_cons, List.all_cons] at q ⊢
    rw [q]
    rfl
theorem Loc.vis {sc : Scope} {x : Str} (h : Loc sc x) : Vis sc x := h.elim Or.inl fun z => Or.inr (Or.inl z)
section
variable {X : Cx} {k : Nat} {sp : Sp} {x : Str} {p pos apos cpos : Pos} {e o i : Expr} {es : List Expr} {t : TA} {td ty te to : TE} {T id : String} {name : Str}
theorem pa1 (ha : PE X e te) (hr : PA X es t) (h : plainE e = true := by rfl) : PA X (e :: es) (tCons te t) := pa_cons ha hr (starEach_plain h)
theorem own1 (O : Own X.prog X.w X.K X.mg X.base x k sp) (hr : Room k X.A) (ha : PA X (e :: es) t) (hg : Gl X x := by rfl) (hdb : (x == ("__debug__" : Str)) = false := by decide)
    (h1 : plainE e = true := by rfl) (h2 : es.all plainE = true := by rfl) : PE X (.Call (.Name x p) (e :: es) [] pos) (tCall sp [] E0 t) := pe_own O hr ha hg hdb (starEach_plain h1) (stars_any h2)
theorem ownL1 {n : Nat} (ha : PA X (e :: es) t) (hN : X.N[n]? = some x := by rfl) (hv : Vis X.env.scope x := by first | exact Or.inl rfl | exact Or.inr (Or.inl rfl) | exact Or.inr (Or.inr rfl)) (hdb : (x == ("__debug__" : Str)) = false := by decide) (hcd : (x == ("__classdict__" : Str)) = false := by decide)
    (h1 : plainE e = true := by rfl) (h2 : es.all plainE = true := by rfl) : PE X (.Call (.Name x p) (e :: es) [] pos) (tCallL X n t) := pe_ownL ha hN hv hdb hcd (starEach_plain h1) (stars_any h2)
theorem bm1 {r : V → List V → Hp → VK → Prop} (pa : PlainAttrs T) (slot : Slot T name id) (hty : typeOf (.builtin id) = pure (.type "method_descriptor")) (hm : MtR X id r) (ho : PE X o to) (ha : PA X (e :: es) t)
    (hbase : attributeBase o name X.env (eval o X.env) = eval o X.env := by rfl) (hlen : (e :: es).length < 30 := by simp) (hline : (apos.endLine == cpos.line) = true := by rfl) (h1 : plainE e = true := by rfl) (h2 : es.all plainE = true := by rfl) :
    PE X (.Call (.Attribute o name apos) (e :: es) [] cpos) (tBM X.K T r to t) := by
  have h3 : (e :: es).all plainE = true := by rw [List.all_cons, h1, h2]; rfl
  refine pe_bm pa slot hty hm ho ha hbase ?_ hline (starEach_plain h1) (stars_any h2)
  rw [stars_all h3]
  show (true && true && decide ((e :: es).length + 0 + 0 < 30)) = true
  rw [decide_eq_true (by simpa using hlen)]
  rfl
theorem callTy1 {r : List V → Hp → VK → Prop} (hc : CallR X (.type T) r) (hg : Gl X x) (hm : X.mg x = none) (hv : bootBuiltins x = some (.type T)) (ha : PA X (e :: es) t) (hn : x ≠ "__name__" := by decide) (hdb : (x == ("__debug__" : Str)) = false := by decide)
    (h1 : plainE e = true := by rfl) (h2 : es.all plainE = true := by rfl) : PE X (.Call (.Name x p) (e :: es) [] pos) (tCB r t) := pe_callTy hc hg hm hv ha hn hdb (starEach_plain h1) (stars_any h2)
theorem callB1 {r : List V → Hp → VK → Prop} (hc : CallR X (.builtin id) r) (hg : Gl X x) (hm : X.mg x = none) (hv : bootBuiltins x = some (.builtin id)) (ha : PA X (e :: es) t) (hn : x ≠ "__name__" := by decide) (hdb : (x == ("__debug__" : Str)) = false := by decide)
    (h1 : plainE e = true := by rfl) (h2 : es.all plainE = true := by rfl) : PE X (.Call (.Name x p) (e :: es) [] pos) (tCB r t) := pe_callB hc hg hm hv ha hn hdb (starEach_plain h1) (stars_any h2)
end
end L2
end
section
namespace L2
open PySem PySem.Spec PyProof.Rows
structure QE (X : Cx) (e : Expr) (t : TE) : Prop where
  h : PE X e t
structure QT (X : Cx) (e : Expr) (t : TT) : Prop where
  h : PT X e t
structure QW (X : Cx) (e : Expr) (t : TT) : Prop where
  h : PW X e t
structure QA (X : Cx) (es : List Expr) (t : TA) : Prop where
  h : PA X es t
structure QC (X : Cx) (op : CmpOp) (a b : Expr) (t : TE) : Prop where
  h : PC X op a b t
structure QG (X : Cx) (e : Expr) (t : TG) : Prop where
  h : PG X e t
structure QGs (X : Cx) (es : List Expr) (t : TGs) : Prop where
  h : PGs X es t
structure QI (X : Cx) (tg e : Expr) (t : TI) : Prop where
  h : PI X tg e t
structure QO (X : Cx) (e : Option Expr) (t : TO) : Prop where
  h : PO X e t
structure QP (X : Cx) (pos : Pos) (ks : List (Option Expr)) (vs : List Expr) (t : List (TE × TE)) : Prop where
  h : PPs X pos ks vs t
structure QS (X : Cx) (s : Stmt) (t : TS) : Prop where
  h : PS X s t
structure QSs (X : Cx) (s : List Stmt) (t : TS) : Prop where
  h : PSs X s t
section
variable {X : Cx} {a b c e o i v l : Expr} {es : List Expr} {ta tb tc te to ti tv td ty tx tl' : TE} {t u : TA} {tt tt' : TT} {g : TG} {gs : TGs} {s : Stmt} {ss sa sb : List Stmt} {w w' : TS} {pos pos' p p2 apos cpos : Pos} {x name : Str} {r r' : R2} {n k : Nat} {sp : Sp} {T id : String}
end
end L2
end
section
namespace L2
open PySem PySem.Spec PyProof.Rows
def clOf (env : Env) : List (Str × NameKind) → List (Str × Addr) → List (Str × Addr)
  | [], cs => cs
  | (n, k) :: r, cs => clOf env r (if (k == .free) = true then (n, (env.cells.lookup n).getD 0) :: cs else cs)
theorem clOf_loop {env : Env} : ∀ (names : List (Str × NameKind)) (cs : List (Str × Addr)), (∀ x ∈ names, x.2 = .free → ∃ c, env.cells.lookup x.1 = some c) →
    (forIn names cs fun (x : Str × NameKind) (r : List (Str × Addr)) => if (x.2 == .free) = true then (cellOf env x.1 >>= fun a => pure (ForInStep.yield ((x.1, a) :: r))) else pure (ForInStep.yield r) : Sem (List (Str × Addr))) = pure (clOf env names cs)
  | [], cs, _ => rfl
  | (n, k) :: r, cs, h => by
    have ih := fun cs => clOf_loop (env := env) r cs fun x hx => h x (List.mem_cons_of_mem _ hx)
    rw [List.forIn_cons]
    unfold clOf
    by_cases hk : (k == NameKind.free) = true
    · rw [if_pos hk, if_pos hk]
      obtain ⟨c, e⟩ := h (n, k) List.mem_cons_self (by simpa using hk)
      have e1 : cellOf env n = pure c := by unfold cellOf; rw [e]
      show ((cellOf env n >>= fun a => pure (ForInStep.yield ((n, a) :: cs))) >>= _) = _
      rw [e1, e]
      exact ih ((n, c) :: cs)
    · rw [if_neg hk, if_neg hk]
      exact ih cs
theorem closureFor_cl {sc : Scope} {env : Env} (h : ∀ x ∈ sc.names, x.2 = .free → ∃ c, env.cells.lookup x.1 = some c) : closureFor sc env = pure (clOf env sc.names []) := by
  unfold closureFor
  show (forIn sc.names [] _ >>= pure) = _
  have q := clOf_loop (env := env) sc.names [] h
  have e : (forIn sc.names ([] : List (Str × Addr)) fun (x : Str × NameKind) (r : List (Str × Addr)) => if (x.2 == .free) = true then (cellOf env x.1 >>= fun a => pure (ForInStep.yield ((x.1, a) :: r))) else pure (ForInStep.yield r) : Sem (List (Str × Addr))) >>= pure = pure (clOf env sc.names []) := by rw [q]; rfl
  exact e
theorem cl_sub {env : Env} : ∀ (names : List (Str × NameKind)) (cs : List (Str × Addr)), (∀ x ∈ names, x.2 = .free → ∃ c, env.cells.lookup x.1 = some c) → (∀ n c, cs.lookup n = some c → env.cells.lookup n = some c) →
    ∀ n c, (clOf env names cs).lookup n = some c → env.cells.lookup n = some c
  | [], cs, _, h => h
  | (m, k) :: r, cs, hf, h => by
    unfold clOf
    refine cl_sub r _ (fun x hx => hf x (List.mem_cons_of_mem _ hx)) fun n c e => ?_
    by_cases hk : (k == NameKind.free) = true
    · rw [if_pos hk] at e
      obtain ⟨c', e'⟩ := hf (m, k) List.mem_cons_self (by simpa using hk)
      rw [e'] at e
      rw [List.lookup_cons] at e
      cases hx : n == m with
      | true =>
        rw [hx] at e
        cases e
        rw [show n = m by simpa using hx]; exact e'
      | false => rw [hx] at e; exact h n c e
    · rw [if_neg hk] at e; exact h n c e
theorem cl_has {env : Env} : ∀ (names : List (Str × NameKind)) (cs : List (Str × Addr)) (n : Str), ((n, NameKind.free) ∈ names ∨ ∃ c, cs.lookup n = some c) → ∃ c, (clOf env names cs).lookup n = some c
  | [], cs, n, h => h.elim (fun z => nomatch z) id
  | (m, k) :: r, cs, n, h => by
    unfold clOf
    refine cl_has r _ n ?_
    rcases h with h | ⟨c, e⟩
    · rcases List.mem_cons.mp h with e | h
      · cases e
        right
        rw [if_pos (by rfl), List.lookup_cons]
        simp
      · exact .inl h
    · right
      by_cases hk : (k == NameKind.free) = true
      · rw [if_pos hk, List.lookup_cons]
        cases hx : n == m with
        | true => exact ⟨_, rfl⟩
        | false => exact ⟨c, e⟩
      · rw [if_neg hk]; exact ⟨c, e⟩
theorem lookup_relabel {env : Env} : ∀ (names : List (Str × NameKind)) (x : Str), (names.map fun (n, k) => if (k == NameKind.free && env.scope.kind == .function && env.kindOf n == some .cell) then (n, NameKind.cell) else (n, k)).lookup x =
    (names.lookup x).map fun k => if (k == NameKind.free && env.scope.kind == .function && env.kindOf x == some .cell) then NameKind.cell else k
  | [], _ => rfl
  | (n, k) :: r, x => by
    have ih := lookup_relabel (env := env) r x
    rw [List.map_cons]
    have e : (match (n, k) with | (n, k) => if (k == NameKind.free && env.scope.kind == .function && env.kindOf n == some .cell) = true then (n, NameKind.cell) else (n, k)) = (n, if (k == NameKind.free && env.scope.kind == .function && env.kindOf n == some .cell) = true then NameKind.cell else k) := by
      show (if _ then _ else _) = _
      split <;> rfl
    rw [e, List.lookup_cons, List.lookup_cons]
    cases hx : x == n with
    | true =>
      have : x = n := by simpa using hx
      subst this
      rfl
    | false => exact ih
theorem mem_of_lookup' {names : List (Str × NameKind)} {x : Str} {k : NameKind} (h : names.lookup x = some k) : (x, k) ∈ names := PySem.mem_of_lookup h
structure CSc (X : Cx) (sc : Scope) (ks N2 : List Str) : Prop where
  kind : sc.kind = .function
  nocell : ∀ y ∈ sc.names, y.2 ≠ .cell
  names : ∀ y ∈ sc.names, y.2 = .local → sc.names.lookup y.1 = some .local
  free : ∀ y ∈ sc.names, y.2 = .free → X.env.kindOf y.1 = some .cell ∨ X.env.kindOf y.1 = some .free
  len : N2.length = X.N.length
  nd : (ks ++ N2).Nodup
  at_ : ∀ (j : Nat) x, N2[j]? = some x → sc.names.lookup x = none ∨ (sc.names.lookup x = some .free ∧ X.N[j]? = some x)
abbrev blk (X : Cx) (sc : Scope) (N : List Str) (C : Addr) (s : Shared) (H : Hp) (fp : List Addr) (pins : List (Addr × Obj)) : Cx :=
  { X with N := N, s₀ := s, H₀ := H, env := compEnvC sc (clOf X.env sc.names []) C X.env, outer := X.stack, stack := X.stack, ex := fp, fn := fun _ => false, pn := X.pn ++ pins, xe := fun _ _ => False }
section
variable {X : Cx} {pins : List (Addr × Obj)} {σ : St} {H : Hp} {s : Shared} {sc : Scope} {ks N2 : List Str} {fp : List Addr}
theorem CSc.cells (S : CSc X sc ks N2) (ok : X.Ok) : ∀ x ∈ sc.names, x.2 = .free → ∃ c, X.env.cells.lookup x.1 = some c := fun x hx e => ok.has x.1 (S.free x hx e)
theorem CSc.sub (S : CSc X sc ks N2) (ok : X.Ok) : ∀ n c, (clOf X.env sc.names []).lookup n = some c → X.env.cells.lookup n = some c :=
  cl_sub sc.names [] (S.cells ok) fun n c e => by cases e
theorem Inv.block (I : Inv X pins σ H s) (S : CSc X sc ks N2) (hf : ∀ b ∈ fp, FpOk X pins H b) (ho : ∀ b ∈ fp, ∃ o, s.heap.get? b = some o) {h' : Heap} {m0 : Str → Option Value} {t' : Nat} (hn : h'.Ns s.heap.objs.size m0) (k : ∀ b o, s.heap.get? b = some o → h'.get? b = some o) :
    Inv (blk X sc (ks ++ N2) s.heap.objs.size s H fp pins) [] (List.replicate ks.length none ++ σ) H { s with heap := h', toks := t' } := by
  have sub := S.sub I.ok
  have neC : ∀ b o, s.heap.get? b = some o → b ≠ s.heap.objs.size := fun b o e => Nat.ne_of_lt (Heap.lt_size e)
  have rl : ∀ x, (relabel sc X.env).names.lookup x = (sc.names.lookup x).map fun k => if (k == NameKind.free && X.env.scope.kind == .function && X.env.kindOf x == some .cell) then NameKind.cell else k := fun x => lookup_relabel (env := X.env) sc.names x
  have ok : (blk X sc (ks ++ N2) s.heap.objs.size s H fp pins).Ok := by
    refine ⟨I.ok.mod, S.kind, I.ok.glob, I.ok.blt, Nat.le_refl _, fun x y c h1 h2 => I.ok.inj x y c (sub x c h1) (sub y c h2), fun x hx => ?_, fun x c h => (by cases h), I.ok.hd, I.ok.frames, .inl rfl, fun b hb => ⟨?_, fun x c e => (hf b hb).2.2.2.2.1 x c (sub x c e)⟩, I.bs, Nat.le_trans I.ok.bsz I.sz, fun b o e hb => ?_, fun b hb hb2 => ?_, I.stack, I.stkFree⟩
    · have hx : (relabel sc X.env).names.lookup x = some .cell ∨ (relabel sc X.env).names.lookup x = some .free := hx
      rw [rl] at hx
      cases q : sc.names.lookup x with
      | none => rw [q] at hx; rcases hx with z | z <;> cases z
      | some k =>
        have hm := mem_of_lookup' q
        have nc := S.nocell _ hm
        refine cl_has sc.names [] x (.inl ?_)
        cases k with
        | free => exact hm
        | cell => exact absurd rfl nc
        | _ => rw [q] at hx; rcases hx with z | z <;> cases z
    · obtain ⟨o, e⟩ := ho b hb
      exact neC b o e
    · obtain ⟨f0, f1, f2, f3, f4, f5⟩ := hf b hb
      rcases f3 with z | z
      · exact I.ok.noex b o e z
      · exact absurd (Nat.lt_of_lt_of_le (Heap.lt_size e) (Nat.le_trans I.ok.bsz z)) (Nat.lt_irrefl _)
    · obtain ⟨f0, f1, f2, f3, f4, f5⟩ := hf b hb
      rcases List.mem_cons.mp (I.stkSub b hb2) with z | z
      · exact f1 z
      · exact f2 z
  obtain ⟨m, hm, hl⟩ := id I.loc
  refine ⟨ok, rfl, I.bare, Un.kept k, ⟨m0, hn, fun i x v h1 h2 h3 => ?_⟩, fun x c e => ?_, I.hok.fresh (Nat.le_refl _), fun x c e => I.freeC x c (sub x c e), fun p hp => ?_, I.hok.kept k, ?_⟩
  · have h1 : (ks ++ N2)[i]? = some x := h1
    have hi : ks.length ≤ i := by
      refine Nat.le_of_not_lt fun hi => ?_
      rw [List.getElem?_append_left (by simpa using hi), List.getElem?_replicate] at h2
      split at h2 <;> cases h2
    rw [List.getElem?_append_right hi] at h1
    rw [List.getElem?_append_right (by simpa using hi), List.length_replicate] at h2
    rcases S.at_ _ x h1 with z | ⟨z, hN⟩
    · have h3 : (relabel sc X.env).names.lookup x = some .local ∨ (relabel sc X.env).names.lookup x = some .cell ∨ (relabel sc X.env).names.lookup x = some .free := h3
      rw [rl, z] at h3
      rcases h3 with h3 | h3 | h3 <;> cases h3
    · have hk := S.free _ (mem_of_lookup' z) rfl
      have hv : Vis X.env.scope x := hk.elim (fun e => .inr (.inl e)) fun e => .inr (.inr e)
      obtain ⟨u, r, l⟩ := hl _ x v hN h2 hv
      refine ⟨u, r, ?_⟩
      rcases l with ⟨l, _⟩ | ⟨_, c, e, hc⟩
      · rcases hk with hk | hk <;> (have l : X.env.kindOf x = some .local := l; rw [hk] at l; cases l)
      · right
        refine ⟨?_, ?_⟩
        · show (relabel sc X.env).names.lookup x = some .cell ∨ (relabel sc X.env).names.lookup x = some .free
          rw [rl, z]
          by_cases q : (NameKind.free == NameKind.free && X.env.scope.kind == .function && X.env.kindOf x == some .cell) = true
          · left; show some (if _ then _ else _) = _; rw [if_pos q]
          · right; show some (if _ then _ else _) = _; rw [if_neg q]
        · obtain ⟨c', e'⟩ := cl_has (env := X.env) sc.names [] x (.inl (mem_of_lookup' z))
          have e2 := sub x c' e'
          rw [e] at e2; cases e2
          obtain ⟨o, ho, hd⟩ := hc
          exact ⟨c, e', o, k _ _ ho, hd⟩
  · obtain ⟨v, o, ho, hd⟩ := I.cell x c (sub x c e)
    exact ⟨v, o, k _ _ ho, hd⟩
  · have hp : p ∈ X.pn ++ pins := by simpa using hp
    obtain ⟨e, n, ne, nf, d⟩ := I.pin p hp
    refine ⟨k _ _ e, n, neC _ _ e, fun hb => ?_, d⟩
    rcases List.mem_cons.mp (I.stkSub _ hb) with z | z
    · exact ne z
    · exact nf z
  · show _ = (ks ++ N2).length
    rw [List.length_append, List.length_append, List.length_replicate, S.len, I.len]
theorem Inv.unblock {N : List Str} {τ : St} {H0 : Hp} {s0 : Shared} {C : Addr} {o : Obj} (I0 : Inv X pins σ H0 s0) (hC : C = s0.heap.objs.size) (hf : ∀ b ∈ fp, FpOk X pins H0 b) (I : Inv (blk X sc N C s0 H0 fp pins) [] τ H s) (ho : s.heap.get? C = some o) (hd : ∀ v, o.data ≠ .cell v) : Inv X (pins ++ [(C, o)]) σ H s := by
  have J : Inv X pins σ H s := I0.call' (ch := fp) I.os I.base I.hok I.bare fun b hb => by
    obtain ⟨f0, f1, f2, f3, f4, f5⟩ := hf b hb
    exact ⟨f3, f1, f4, f5⟩
  refine J.pins_of fun p hp => (List.mem_append.mp hp).elim (fun z => J.pin p (List.mem_append_right _ z)) fun z => ?_
  have z : p = (C, o) := by simpa using z
  subst z
  refine ⟨ho, I.free, ?_, I0.nofs (by rw [hC]; exact Nat.le_refl _), hd⟩
  rw [hC]
  exact Nat.ne_of_gt I0.lt
theorem Inv.loose {C : Addr} {o : Obj} {h' : Heap} (I : Inv X (pins ++ [(C, o)]) σ H s) (hnew : X.s₀.heap.objs.size ≤ C) (hp : ∀ p ∈ X.pn ++ pins, p.1 ≠ C) (hs : Heap.SameBut C s.heap h') : Inv X pins σ H { s with heap := h' } := by
  obtain ⟨e, n, ne, nf, d⟩ := I.pin (C, o) (by simp)
  refine (I.unpinned).turned (t' := s.toks) (fun b ob hb q => (hs.2 b hb).trans q) n ne (.inr hnew) (fun x c hc z => ?_) hp
  obtain ⟨v, ob, hob, hdc⟩ := I.cell x c hc
  rw [z] at hob
  have e : s.heap.get? C = some o := e
  rw [e] at hob
  cases hob
  exact d v hdc
end
end L2
end
section
namespace L2
open PySem PySem.Spec PyProof.Rows
def turnOf (g : Comprehension) (inner : Sem Unit) (e : Expr) (d : Nat) (it acc : Value) (env : Env) : Sem Fin := do
  standAt g.iter.pos
  match ← pyNext it with
  | none => pure (.done .next)
  | some v =>
    letOwnedTupleGo g.target it v
    assign g.target env v
    let mut ok := true
    for c in g.ifs do
      if ok then ok ← isTrue c env (eval c env)
    if ok then inner
    again (.compLoop e d it acc env)
abbrev TL := (St → Hp → Prop) → St → Hp → Prop
def PN (X : Cx) (inner : Sem Unit) (t : TL) : Prop := ∀ (pins : List (Addr × Obj)) (s : Shared) (τ : St) (H : Hp) (k : St → Hp → Prop), Inv X pins τ H s → t k τ H →
  wpAny (model X.prog X.w) X.A inner (fun _ s' => ∃ τ' H', Inv X pins τ' H' s' ∧ k τ' H') X.xe s
def PTs (X : Cx) (ifs : List Expr) (t : TT) : Prop := ∀ (pins : List (Addr × Obj)) (s : Shared) (σ : St) (H : Hp) (Q : Bool → Hp → Prop), Inv X pins σ H s → t σ H Q →
  wpAny (model X.prog X.w) X.A (forIn ifs true fun c r => if r = true then do let ok ← isTrue c X.env (eval c X.env); pure (ForInStep.yield ok) else pure (ForInStep.yield r)) (TP X pins σ Q) X.xe s
def tYes : TT := fun _ H Q => Q true H
theorem pts_nil {X : Cx} : PTs X [] tYes := fun pins s σ H Q I h => wpAny_tests_nil ⟨H, I, h⟩
theorem pts_one {X : Cx} {c : Expr} {t : TT} (h : PT X c t) : PTs X [c] t := fun pins s σ H Q I q => wpAny_tests_one (h pins s σ H Q I q)
def loopC (J : It) (g : TG) (tt : TT) (tl : TL) : TL := fun k τ H => ∃ W : Nat → Nat → St → Hp → Prop, (∃ m, W 0 m τ H) ∧ ∀ i m τ H, W i m τ H →
  (J.stop i H ∧ k τ H) ∨ (J.go i H ∧ ∃ N : St → Hp → Prop, (∀ τ' H', N τ' H' → ∃ m', m' < m ∧ W (i + 1) m' τ' H') ∧ ∀ x H', J.yld i H x H' → g x τ H' fun τ2 H2 => tt τ2 H2 fun b H3 => if b = true then tl N τ2 H3 else N τ2 H3)
structure CompE (e : Expr) : Prop where
  u1 : ∀ (A : Around) (d : Nat) (it acc : Value) (env : Env), A.under (.compLoop e d it acc env) = A
  d1 : ∀ (P : Program) (w : World) (d : Nat) (it acc : Value) (env : Env), (model P w).den (.compLoop e d it acc env) = (compTurn e d it acc env).onRaise (fun x => do noteFrame x env; theTreesLotGoes x)
  u2 : ∀ (A : Around) (d : Nat) (it acc : Value) (env : Env), A.under (.compStart e d it acc env) = A
  d2 : ∀ (P : Program) (w : World) (d : Nat) (it acc : Value) (env : Env), (model P w).den (.compStart e d it acc env) = (compStart e d it acc env).onRaise (fun x => do noteFrame x env; standAt theWindowsPlace)
  q : ∀ (d : Nat) (it acc : Value) (env : Env), (Code.compLoop e d it acc env).quiet = true
theorem compE_list {elt : Expr} {gens : List Comprehension} {sc : Scope} {pos : Pos} : CompE (.ListComp elt gens sc pos) := ⟨fun _ _ _ _ _ => rfl, fun _ _ _ _ _ _ => rfl, fun _ _ _ _ _ => rfl, fun _ _ _ _ _ _ => rfl, fun _ _ _ _ => rfl⟩
section
variable {X : Cx}
theorem comp_loop {e : Expr} {d : Nat} {g : Comprehension} {inner : Sem Unit} {it : Addr} {acc : Value} {fp : List Addr} {tn : Nat → Heap → Prop} {J : It} {tg : TG} {tt : TT} {tl : TL}
    (ce : CompE e) (hturn : compTurn e d (.ref it) acc X.env = turnOf g inner e d (.ref it) acc X.env) (T : Turn X.prog X.w X.K g.target J fp it tn) (hg : PG X g.target tg) (ht : PTs X g.ifs tt) (hin : PN X inner tl) (hc : X.calm = true) (hxe : X.xe = fun _ _ => False)
    {pins : List (Addr × Obj)} {s : Shared} {τ : St} {H : Hp} {k : St → Hp → Prop} (I : Inv X pins τ H s) (tn0 : tn 0 s.heap) (f0 : ∀ b ∈ fp, FpOk X pins H b) (h : loopC J tg tt tl k τ H) {R : Result → Shared → Prop}
    (hR : ∀ τ' H' s', Inv X pins τ' H' s' → k τ' H' → R (.ok .next) s') : codeAny (model X.prog X.w) X.A (.compLoop e d (.ref it) acc X.env) R s := by
  obtain ⟨W, ⟨m0, w0⟩, turn⟩ := h
  have nox : ∀ {α : Type} {t : Sem α} {Q : α → Shared → Prop} {E : Value → Shared → Prop} {s : Shared}, wpAny (model X.prog X.w) X.A t Q X.xe s → wpAny (model X.prog X.w) X.A t Q E s := fun h => wpAny_mono h (fun _ _ q => q) fun _ _ q => by rw [hxe] at q; exact q.elim
  have stat : ∀ {H' : Hp}, (∀ b ∈ fp, H' b = none) → ∀ b ∈ fp, FpOk X pins H' b := fun hn b hb => ⟨hn b hb, (f0 b hb).2⟩
  refine codeAny_loop (ce.q _ _ _ _) (fun n s' => ∃ i σ' H', Inv X pins σ' H' s' ∧ tn i s'.heap ∧ (∀ b ∈ fp, H' b = none) ∧ W i n σ' H') (fun n s3 hI => ?_) m0 ⟨0, τ, H, I, tn0, fun b hb => (f0 b hb).1, w0⟩
  obtain ⟨i, σ3, H3, I3, st3, fr3, w3⟩ := hI
  rw [ce.u1, ce.d1]
  refine wpAny_noted ?_
  rw [hturn]
  unfold turnOf
  refine wpAny_bind (wpAny_standAt (wpAny_bind ?_))
  rcases turn i n σ3 H3 w3 with ⟨stop, qn⟩ | ⟨go, N, hN, step⟩
  · refine nox (thn (T.done X rfl rfl rfl hc i pins s3 σ3 H3 X.xe I3 (stat fr3) st3 stop) fun r s4 ⟨hr, I4⟩ => ?_)
    subst hr
    exact wpAny_pure (hR σ3 H3 s4 I4 qn)
  · refine nox (thn (T.item X rfl rfl rfl hc i pins s3 σ3 H3 X.xe I3 (stat fr3) st3 go) fun r s4 ⟨u, hr, h4⟩ => ?_)
    subst hr
    refine wpAny_bind (nox (thn h4 fun _ s5 ⟨x, H5, I5, r5, y5, st5, fr5⟩ => ?_))
    have I5' := I5.pinned (stat fr5) (T.obj _ _ st5)
    refine wpAny_bind (nox (thn (hg _ s5 σ3 H5 x u _ I5' r5 (step x H5 y5)) fun _ s6 ⟨σ6, H6, I6, q6⟩ => ?_))
    have again : ∀ {σ7 : St} {H7 : Hp} {s7 : Shared}, Inv X (pins ++ pinsAt fp s5.heap) σ7 H7 s7 → N σ7 H7 → ∃ m, m < n ∧ ∃ i σ' H', Inv X pins σ' H' s7 ∧ tn i s7.heap ∧ (∀ b ∈ fp, H' b = none) ∧ W i m σ' H' := fun {σ7 H7 s7} I7 n7 => by
      obtain ⟨m', hm, w7⟩ := hN σ7 H7 n7
      refine ⟨m', hm, i + 1, σ7, H7, I7.unpinned, T.keep _ _ _ st5 fun b hb o e => (I7.pin (b, o) (List.mem_append_right _ (List.mem_append_right _ (mem_pinsAt hb e)))).1, fun b hb => ?_, w7⟩
      obtain ⟨o, e, d⟩ := T.obj _ _ st5 b hb
      exact (I7.pin (b, o) (List.mem_append_right _ (List.mem_append_right _ (mem_pinsAt hb e)))).2.1
    refine wpAny_bind (nox (thn (ht _ s6 σ6 H6 _ I6 q6) fun ok s7 ⟨H7, I7, q7⟩ => ?_))
    cases ok with
    | false => exact wpAny_pure ⟨rfl, again I7 q7⟩
    | true =>
      refine wpAny_bind (nox (thn (hin _ s7 σ6 H7 _ I7 q7) fun _ s8 ⟨σ8, H8, I8, q8⟩ => ?_))
      exact wpAny_pure ⟨rfl, again I8 q8⟩
theorem comp_start {prog : Program} {w : World} {A : Around} {R : Result → Shared → Prop} {s : Shared} {e : Expr} {d : Nat} {g : Comprehension} {it acc : Value} {env : Env} (ce : CompE e) (hcl : (clausesOf e)[d]? = some g) (ha : g.is_async = 0)
    (h0 : codeAny (model prog w) A (.compLoop e d it acc env) R s)
    (h : wpAny (model prog w) A (pyIter it) (fun it' s' => codeAny (model prog w) A (.compLoop e d it' acc env) R s') (notedBy (model prog w) A env fun x s' => R (.error x) s') s) :
    codeAny (model prog w) A (.compStart e d it acc env) R s := by
  refine codeAny_of_tree ?_
  rw [ce.u2, ce.d2]
  refine wpAny_notedAt ?_
  unfold compStart
  have e1 : ((clausesOf e)[d]?).elim false (fun x => x.is_async != 0) = false := by rw [hcl]; show (g.is_async != 0) = false; rw [ha]; rfl
  rw [e1, hcl]
  show wpAny _ _ (ask >>= _) _ _ s
  refine wpAny_bind (wpAny_askSetting (wpAny_ite ?_))
  split
  · first
      | exact wpAny_bind (wpAny_pure (wpAny_pure (And.intro (ce.q _ _ _ _) h0)))
      | exact wpAny_pure (And.intro (ce.q _ _ _ _) h0)
  · first
      | exact wpAny_bind (wpAny_rule (wpAny_bind (wpAny_standAt (wpAny_bind (wpAny_mono h (fun it' s' h' => wpAny_pure (And.intro (ce.q _ _ _ _) h')) fun _ _ x => x)))))
      | (refine wpAny_bind (wpAny_rule ?_); show wpAny _ _ (standAt g.iter.pos >>= _) _ _ s; exact wpAny_bind (wpAny_standAt (wpAny_bind (wpAny_mono h (fun it' s' h' => wpAny_pure (And.intro (ce.q _ _ _ _) h')) fun _ _ x => x))))
def tEmit (te : TE) (p : Addr) : TL := fun k τ H => te τ H fun y H4 => ∃ acc, H4 p = some (.lst acc) ∧ acc.length ≤ 1000000 ∧ ∀ H5, At1 p H4 H5 → H5 p = some (.lst (acc ++ [y])) → k τ H5
theorem pn_emit {elt : Expr} {te : TE} {D : Addr} (h : PE X elt te) : PN X (do let _ ← call (.builtin "list.append") [.ref D, ← eval elt X.env]) (tEmit te D) := by
  intro pins s τ H k I q
  refine wpAny_bind (thn (h pins s τ H _ I q) fun y s4 ⟨v, H4, I4, r, acc, ha, hz, q4⟩ => ?_)
  refine wpAny_bind (thn (mt_appendG pins s4 τ H4 (.ref D) [v] (.ref D) [y] (fun _ H5 => k τ H5) I4 rfl (.cons r .nil) ⟨D, acc, v, rfl, rfl, ha, hz, q4⟩) fun _ s5 ⟨_, H5, I5, _, q5⟩ => ?_)
  exact wpAny_pure ⟨τ, H5, I5, q5⟩
def tClause (wi : TI) (g : TG) (tt : TT) (tl : TL) : TL := fun k τ H => wi τ H fun J H1 => loopC J g tt tl k τ H1
end
end L2
end
section
namespace L2
open PySem PySem.Spec PyProof.Rows
section
variable {X : Cx}
theorem comp_run {e : Expr} {g : Comprehension} {inner : Env → Sem Unit} {it : Addr} {acc : Value} {fp : List Addr} {tn : Nat → Heap → Prop} {J : It} {tg : TG} {tt : TT} {tl : TL} {sc : Scope} {ks N2 : List Str} (ce : CompE e) (hcl : (clausesOf e)[0]? = some g) (ha : g.is_async = 0) (S : CSc X sc ks N2) (hc : X.calm = true)
    (hturn : ∀ it env, compTurn e 0 (.ref it) acc env = turnOf g (inner env) e 0 (.ref it) acc env) {pins : List (Addr × Obj)} {s : Shared} {σ : St} {H : Hp} {k : St → Hp → Prop} (hb : PG (blk X sc (ks ++ N2) s.heap.objs.size s H fp pins) g.target tg ∧ PTs (blk X sc (ks ++ N2) s.heap.objs.size s H fp pins) g.ifs tt ∧ PN (blk X sc (ks ++ N2) s.heap.objs.size s H fp pins) (inner (blk X sc (ks ++ N2) s.heap.objs.size s H fp pins).env) tl) (I : Inv X pins σ H s) (T : Turn X.prog X.w X.K g.target J fp it tn) (st : tn 0 s.heap) (f : ∀ b ∈ fp, FpOk X pins H b)
    (h : loopC J tg tt tl k (List.replicate ks.length none ++ σ) H) {E : Value → Shared → Prop} {RR : Addr → Result → Shared → Prop}
    (hRR : ∀ C o m τ' H' s', Inv X (pins ++ [(C, o)]) σ H' s' → s'.heap.Ns C m → X.s₀.heap.objs.size ≤ C → (∀ p ∈ X.pn ++ pins, p.1 ≠ C) → k τ' H' → RR C (.ok .next) s') :
    wpAny (model X.prog X.w) X.A (newFunctionEnv sc X.env.globals (clOf X.env sc.names []) [] X.env.qual none .none (some X.env)) (fun cenv s4 => codeAny (model X.prog X.w) X.A (.compStart e 0 (.ref it) acc { cenv with scope := relabel sc X.env }) (RR cenv.locals) s4) E s := by
  refine wpAny_newFunctionEnv S.nocell (fun x hx => absurd hx (by simp)) (fun h1 hns hsb => ?_) S.kind
  have keep : ∀ b o, s.heap.get? b = some o → h1.get? b = some o := fun b o e => (hsb.2 b (Nat.ne_of_lt (Heap.lt_size e))).trans (Heap.get?_push_of_some _ e)
  have ho : ∀ b ∈ fp, ∃ o, s.heap.get? b = some o := fun b hb => let ⟨o, e, _⟩ := T.obj 0 _ st b hb; ⟨o, e⟩
  have I4 := I.block (t' := s.toks + ([] : List (Str × Value)).length) S f ho hns keep
  have st4 : tn 0 h1 := T.keep _ _ _ st fun b _ o e => keep b o e
  obtain ⟨hg, ht, hin⟩ := hb
  have f4 : ∀ b ∈ fp, FpOk (blk X sc (ks ++ N2) s.heap.objs.size s H fp pins) [] H b := fun b hb => by
    obtain ⟨f0, f1, f2, f3, f4, f5⟩ := f b hb
    refine ⟨f0, ?_, fun z => ?_, .inl hb, fun x c e => f4 x c (S.sub I.ok x c e), fun p hp => f5 p (by simpa using hp)⟩
    · obtain ⟨o, e⟩ := ho b hb
      exact Nat.ne_of_lt (Heap.lt_size e)
    · rcases List.mem_cons.mp (I.stkSub b z) with z | z
      · exact f1 z
      · exact f2 z
  have loop : codeAny (model X.prog X.w) X.A (.compLoop e 0 (.ref it) acc (compEnvC sc (clOf X.env sc.names []) s.heap.objs.size X.env)) (RR s.heap.objs.size) { s with heap := h1, toks := s.toks + ([] : List (Str × Value)).length } := by
    refine comp_loop (X := blk X sc (ks ++ N2) s.heap.objs.size s H fp pins) ce (hturn it _) T hg ht hin hc rfl I4 st4 f4 h fun τ' H' s' I' q' => ?_
    obtain ⟨m, ⟨o, es, ep, ho', hd', r⟩, _⟩ := id I'.loc
    refine hRR s.heap.objs.size o m τ' H' s' (Inv.unblock I rfl f I' ho' fun v z => ?_) ⟨o, es, ep, ho', hd', r⟩ I.sz (fun p hp => ?_) q'
    · rw [hd'] at z; cases z
    · exact Nat.ne_of_lt (Heap.lt_size (I.pin p hp).1)
  exact comp_start ce hcl ha loop (T.self _ 0 _ _ _ st4 loop)
def tCompF (X : Cx) (sc : Scope) (N : List Str) (tg : Expr) (ifs : List Expr) (inner : Value → Env → Sem Unit) (u0 : HO) (n : Nat) (wi : TI) : TE := fun σ H Q => wi σ H fun J H1 => ∀ p H2, H1 p = none → Same H1 H2 → H2 p = some u0 → (∀ b, b ≠ p → H2 b = H1 b) →
  ∀ C s H0 fp pins, ∃ g tt tl, PG (blk X sc N C s H0 fp pins) tg g ∧ PTs (blk X sc N C s H0 fp pins) ifs tt ∧ PN (blk X sc N C s H0 fp pins) (inner (.ref p) (blk X sc N C s H0 fp pins).env) tl ∧ loopC J g tt tl (fun _ H' => Q (.ref p) H') (List.replicate n none ++ σ) H2
theorem It_ok {fp : List Addr} {pins : List (Addr × Obj)} {H H' : Hp} (f : ∀ b ∈ fp, FpOk X pins H b) (hn : ∀ b ∈ fp, H' b = none) : ∀ b ∈ fp, FpOk X pins H' b := fun b hb => ⟨hn b hb, (f b hb).2⟩
theorem pe_comp {elt iter tg : Expr} {ifs : List Expr} {rest : List Comprehension} {sc : Scope} {pos : Pos} {ks N2 : List Str} {inner : Value → Env → Sem Unit} {wi : TI} (S : CSc X sc ks N2) (hc : X.calm = true) (hi : PI X tg iter wi)
    (hturn : ∀ D it env, compTurn (.ListComp elt (⟨tg, iter, ifs, 0⟩ :: rest) sc pos) 0 (.ref it) (.ref D) env = turnOf ⟨tg, iter, ifs, 0⟩ (inner (.ref D) env) (.ListComp elt (⟨tg, iter, ifs, 0⟩ :: rest) sc pos) 0 (.ref it) (.ref D) env)
    (hs : ∀ x, foldedSetIterable iter X.env x = pure x := by intro _; rfl) : PE X (.ListComp elt (⟨tg, iter, ifs, 0⟩ :: rest) sc pos) (tCompF X sc (ks ++ N2) tg ifs inner (.lst []) ks.length wi) := by
  intro pins s σ H Q I h
  rw [eval_ListComp]
  refine wpAny_comprehension_free (use := none) rfl hs (closureFor_cl (S.cells I.ok)) S.kind S.names (thn (hi pins s σ H _ I h) fun v s1 h1 => thn h1 fun itv s2 h2 => ?_)
  obtain ⟨it, fp, tn, J, H2, e2, I2, T, st2, f2, q2⟩ := h2
  subst e2
  refine wpAny_newObj_type ?_
  have I3 := I2.lnew (ys := []) (its := []) (t' := s2.toks) .nil (Nat.zero_le _)
  have hn : H2 s2.heap.objs.size = none := I2.hok.fresh (Nat.le_refl _)
  have st3 : tn 0 (s2.heap.push { cls := .type "list", data := .seq ([] : List Value).toArray }) := T.keep _ _ _ st2 fun b _ o e => Heap.get?_push_of_some _ e
  have f3 := It_ok (H' := upd H2 s2.heap.objs.size (.lst [])) f2 fun b hb => by
    obtain ⟨o, e, _⟩ := T.obj 0 _ st2 b hb
    rw [upd_ne (Nat.ne_of_lt (Heap.lt_size e))]
    exact (f2 b hb).1
  obtain ⟨g, tt, tl, hg, ht, hin, loop⟩ := q2 _ _ hn (Same.upd hn) upd_same (fun b hb => upd_ne hb) _ _ _ fp pins
  refine comp_run (inner := inner (.ref s2.heap.objs.size)) (RR := compPost (model X.prog X.w) X.A X.xe none (EP X pins σ Q) (.ref s2.heap.objs.size)) compE_list rfl rfl S hc (hturn _) ⟨hg, ht, hin⟩ I3 T st3 f3 loop fun C o m τ' H' s' I' hm hz hp q' => ?_
  exact ⟨m, hm, fun h' hs' => ⟨.ref s2.heap.objs.size, H', I'.loose hz hp hs', rfl, q'⟩⟩
def tEmitD (tk tv : TE) (p : Addr) : TL := fun k τ H => tk τ H fun y H1 => tv τ H1 fun z H2 => ∃ H3, DPut H2 p y z H3 ∧ k τ H3
def d0 : Bool → HO
  | false => .dK []
  | true => .dT []
end
end L2
end
section
namespace VS
open PySem L2
inductive DK where
  | s (k : Key) | t (ks : List Key)
  deriving DecidableEq
inductive D where
  | non | bl (b : Bool) | int (i : Int) | str (x : Str) | fn (a : Addr)
  | tup (ds : List D) | lst (o : Bool) (ds : List D) | dic (o t : Bool) (ks : List DK) (ds : List D)
abbrev Set := Addr → Prop
def E0s : Set := fun _ => False
def DictAt : Bool → HO → List DK → List V → Prop
  | false, ho, ks, vs => ∃ kl : List Key, ks = kl.map .s ∧ kl.length = vs.length ∧ kl.Nodup ∧ ho = .dK (kl.zip vs)
  | true, ho, ks, vs => ∃ kl : List (List Key), ks = kl.map .t ∧ kl.length = vs.length ∧ kl.Nodup ∧ ho = .dT (kl.zip vs)
mutual
def Own (Z : Set) (H : Hp) : D → V → Set → Prop
  | .non, v, _ => v = .non
  | .bl b, v, _ => v = .bl b
  | .int i, v, _ => v = .int i
  | .str x, v, _ => v = .str x
  | .fn a, v, _ => v = .ref a
  | .tup ds, v, F => ∃ a vs, v = .ref a ∧ H a = some (.tup vs) ∧ OwnL Z H ds vs F
  | .lst true ds, v, F => ∃ a vs, v = .ref a ∧ H a = some (.lst vs) ∧ F a ∧ OwnL Z H ds vs (fun b => F b ∧ b ≠ a)
  | .lst false ds, v, _ => ∃ a vs, v = .ref a ∧ Rd H a (.lst vs) ∧ Z a ∧ OwnL Z H ds vs E0s
  | .dic true t ks ds, v, F => ∃ a vs u, v = .ref a ∧ H a = some u ∧ DictAt t u ks vs ∧ F a ∧ OwnL Z H ds vs (fun b => F b ∧ b ≠ a)
  | .dic false t ks ds, v, _ => ∃ a vs u, v = .ref a ∧ Rd H a u ∧ DictAt t u ks vs ∧ Z a ∧ OwnL Z H ds vs E0s
def OwnL (Z : Set) (H : Hp) : List D → List V → Set → Prop
  | [], vs, _ => vs = []
  | d :: ds, vs, F => ∃ v r F1 F2, vs = v :: r ∧ Own Z H d v F1 ∧ OwnL Z H ds r F2 ∧ (∀ b, F1 b → F b) ∧ (∀ b, F2 b → F b) ∧ (∀ b, F1 b → ¬ F2 b)
end
mutual
def bare : D → Bool
  | .tup ds => bareL ds
  | .lst o ds => !o && bareL ds
  | .dic o _ _ ds => !o && bareL ds
  | _ => true
def bareL : List D → Bool
  | [] => true
  | d :: r => bare d && bareL r
end
mutual
def noF : D → Bool
  | .tup ds => noFL ds
  | .lst o ds => o && noFL ds
  | .dic o _ _ ds => o && noFL ds
  | _ => true
def noFL : List D → Bool
  | [] => true
  | d :: r => noF d && noFL r
end
mutual
def frz : D → D
  | .tup ds => .tup (frzL ds)
  | .lst _ ds => .lst false (frzL ds)
  | .dic _ t ks ds => .dic false t ks (frzL ds)
  | .non => .non | .bl b => .bl b | .int i => .int i | .str x => .str x | .fn a => .fn a
def frzL : List D → List D
  | [] => []
  | d :: r => frz d :: frzL r
end
section
variable {Z Z' : Set} {H H' : Hp} {F F' : Set}
theorem Rd.up {a : Addr} {u : HO} (k : ∀ o, H a = some o → H' a = some o) (h : Rd H a u) : Rd H' a u := h.elim (fun e => .inl (k _ e)) fun ⟨o, e⟩ => .inr ⟨o, k _ e⟩
mutual
theorem Own.step (W : Set) (hZ : ∀ a, Z a → Z' a) (k : ∀ a o, H a = some o → ¬ W a → H' a = some o) (wz : ∀ a, W a → ¬ Z a) (wt : ∀ a vs, W a → ¬ H a = some (.tup vs)) : ∀ (d : D) {v : V} {F F' : Set}, (∀ a, F a → F' a) → (∀ a, W a → ¬ F a) → Own Z H d v F → Own Z' H' d v F'
  | .non, v, F, F', _, _, h => by simpa only [Own] using h
  | .bl b, v, F, F', _, _, h => by simpa only [Own] using h
  | .int i, v, F, F', _, _, h => by simpa only [Own] using h
  | .str x, v, F, F', _, _, h => by simpa only [Own] using h
  | .fn a, v, F, F', _, _, h => by simpa only [Own] using h
  | .tup ds, v, F, F', hF, hW, h => by
    simp only [Own] at h ⊢
    obtain ⟨a, vs, e, hr, hl⟩ := h
    exact ⟨a, vs, e, k a _ hr fun z => wt a vs z hr, OwnL.step W hZ k wz wt ds hF hW hl⟩
  | .lst true ds, v, F, F', hF, hW, h => by
    simp only [Own] at h ⊢
    obtain ⟨a, vs, e, hr, ha, hl⟩ := h
    exact ⟨a, vs, e, k a _ hr fun z => hW a z ha, hF a ha, OwnL.step W hZ k wz wt ds (fun b hb => ⟨hF b hb.1, hb.2⟩) (fun b hb z => hW b hb z.1) hl⟩
  | .lst false ds, v, F, F', hF, hW, h => by
    simp only [Own] at h ⊢
    obtain ⟨a, vs, e, hr, ha, hl⟩ := h
    exact ⟨a, vs, e, Rd.up (fun o q => k a o q fun z => wz a z ha) hr, hZ a ha, OwnL.step W hZ k wz wt ds (fun _ z => z) (fun _ _ z => z) hl⟩
  | .dic true t ks ds, v, F, F', hF, hW, h => by
    simp only [Own] at h ⊢
    obtain ⟨a, vs, u, e, hr, hd, ha, hl⟩ := h
    exact ⟨a, vs, u, e, k a _ hr fun z => hW a z ha, hd, hF a ha, OwnL.step W hZ k wz wt ds (fun b hb => ⟨hF b hb.1, hb.2⟩) (fun b hb z => hW b hb z.1) hl⟩
  | .dic false t ks ds, v, F, F', hF, hW, h => by
    simp only [Own] at h ⊢
    obtain ⟨a, vs, u, e, hr, hd, ha, hl⟩ := h
    exact ⟨a, vs, u, e, Rd.up (fun o q => k a o q fun z => wz a z ha) hr, hd, hZ a ha, OwnL.step W hZ k wz wt ds (fun _ z => z) (fun _ _ z => z) hl⟩
theorem OwnL.step (W : Set) (hZ : ∀ a, Z a → Z' a) (k : ∀ a o, H a = some o → ¬ W a → H' a = some o) (wz : ∀ a, W a → ¬ Z a) (wt : ∀ a vs, W a → ¬ H a = some (.tup vs)) : ∀ (ds : List D) {vs : List V} {F F' : Set}, (∀ a, F a → F' a) → (∀ a, W a → ¬ F a) → OwnL Z H ds vs F → OwnL Z' H' ds vs F'
  | [], vs, F, F', _, _, h => by simpa only [OwnL] using h
  | d :: ds, vs, F, F', hF, hW, h => by
    simp only [OwnL] at h ⊢
    obtain ⟨v, r, F1, F2, e, h1, h2, s1, s2, dj⟩ := h
    exact ⟨v, r, F1, F2, e, Own.step W hZ k wz wt d (fun _ z => z) (fun b hb z => hW b hb (s1 b z)) h1, OwnL.step W hZ k wz wt ds (fun _ z => z) (fun b hb z => hW b hb (s2 b z)) h2, fun b z => hF b (s1 b z), fun b z => hF b (s2 b z), dj⟩
end
theorem Own.mono {d : D} {v : V} (hF : ∀ a, F a → F' a) (h : Own Z H d v F) : Own Z H d v F' := Own.step (fun _ => False) (fun _ z => z) (fun _ _ e _ => e) (fun _ z => z.elim) (fun _ _ z => z.elim) d hF (fun _ z => z.elim) h
theorem OwnL.mono {ds : List D} {vs : List V} (hF : ∀ a, F a → F' a) (h : OwnL Z H ds vs F) : OwnL Z H ds vs F' := OwnL.step (fun _ => False) (fun _ z => z) (fun _ _ e _ => e) (fun _ z => z.elim) (fun _ _ z => z.elim) ds hF (fun _ z => z.elim) h
theorem Own.grow {d : D} {v : V} (hs : Same H H') (h : Own Z H d v F) : Own Z H' d v F := Own.step (fun _ => False) (fun _ z => z) (fun a o e _ => hs a o e) (fun _ z => z.elim) (fun _ _ z => z.elim) d (fun _ z => z) (fun _ z => z.elim) h
theorem OwnL.grow {ds : List D} {vs : List V} (hs : Same H H') (h : OwnL Z H ds vs F) : OwnL Z H' ds vs F := OwnL.step (fun _ => False) (fun _ z => z) (fun a o e _ => hs a o e) (fun _ z => z.elim) (fun _ _ z => z.elim) ds (fun _ z => z) (fun _ z => z.elim) h
end
theorem Own.zmono {Z Z' : Set} {H : Hp} {d : D} {v : V} {F : Set} (h : Own Z H d v F) (hZ : ∀ a, Z a → Z' a) : Own Z' H d v F := Own.step (fun _ => False) hZ (fun _ _ e _ => e) (fun _ z => z.elim) (fun _ _ z => z.elim) d (fun _ z => z) (fun _ z => z.elim) h
theorem OwnL.zmono {Z Z' : Set} {H : Hp} {ds : List D} {vs : List V} {F : Set} (h : OwnL Z H ds vs F) (hZ : ∀ a, Z a → Z' a) : OwnL Z' H ds vs F := OwnL.step (fun _ => False) hZ (fun _ _ e _ => e) (fun _ z => z.elim) (fun _ _ z => z.elim) ds (fun _ z => z) (fun _ z => z.elim) h
section
variable {Z Z' : Set} {H H' : Hp} {F F' : Set}
mutual
theorem Own.frz : ∀ (d : D) {v : V} {F : Set}, Own Z H d v F → Own (fun a => Z a ∨ F a) H (frz d) v E0s
  | .non, v, F, h => by simpa only [Own, VS.frz] using h
  | .bl b, v, F, h => by simpa only [Own, VS.frz] using h
  | .int i, v, F, h => by simpa only [Own, VS.frz] using h
  | .str x, v, F, h => by simpa only [Own, VS.frz] using h
  | .fn a, v, F, h => by simpa only [Own, VS.frz] using h
  | .tup ds, v, F, h => by
    simp only [Own, VS.frz] at h ⊢
    obtain ⟨a, vs, e, hr, hl⟩ := h
    exact ⟨a, vs, e, hr, OwnL.frz ds hl⟩
  | .lst true ds, v, F, h => by
    simp only [Own, VS.frz] at h ⊢
    obtain ⟨a, vs, e, hr, ha, hl⟩ := h
    exact ⟨a, vs, e, .inl hr, .inr ha, OwnL.zmono (OwnL.frz ds hl) fun b z => z.elim .inl fun z => .inr z.1⟩
  | .lst false ds, v, F, h => by
    simp only [Own, VS.frz] at h ⊢
    obtain ⟨a, vs, e, hr, ha, hl⟩ := h
    exact ⟨a, vs, e, hr, .inl ha, OwnL.zmono (OwnL.frz ds hl) fun b z => z.elim .inl fun z => z.elim⟩
  | .dic true t ks ds, v, F, h => by
    simp only [Own, VS.frz] at h ⊢
    obtain ⟨a, vs, u, e, hr, hd, ha, hl⟩ := h
    exact ⟨a, vs, u, e, .inl hr, hd, .inr ha, OwnL.zmono (OwnL.frz ds hl) fun b z => z.elim .inl fun z => .inr z.1⟩
  | .dic false t ks ds, v, F, h => by
    simp only [Own, VS.frz] at h ⊢
    obtain ⟨a, vs, u, e, hr, hd, ha, hl⟩ := h
    exact ⟨a, vs, u, e, hr, hd, .inl ha, OwnL.zmono (OwnL.frz ds hl) fun b z => z.elim .inl fun z => z.elim⟩
theorem OwnL.frz : ∀ (ds : List D) {vs : List V} {F : Set}, OwnL Z H ds vs F → OwnL (fun a => Z a ∨ F a) H (frzL ds) vs E0s
  | [], vs, F, h => by simpa only [OwnL, VS.frzL] using h
  | d :: ds, vs, F, h => by
    simp only [OwnL, VS.frzL] at h ⊢
    obtain ⟨v, r, F1, F2, e, h1, h2, s1, s2, dj⟩ := h
    refine ⟨v, r, E0s, E0s, e, Own.zmono (Own.frz d h1) fun b z => z.imp id (s1 b), OwnL.zmono (OwnL.frz ds h2) fun b z => z.imp id (s2 b), fun _ z => z, fun _ z => z, fun _ z _ => z⟩
end
end
end VS
end
section
namespace VS
open PySem L2
section
variable {Z Z' : Set} {H H' : Hp} {F F' : Set}
mutual
theorem Own.bare : ∀ (d : D) {v : V} {F : Set}, bare d = true → Own Z H d v F → Own Z H d v E0s
  | .non, v, F, _, h => by simpa only [Own] using h
  | .bl b, v, F, _, h => by simpa only [Own] using h
  | .int i, v, F, _, h => by simpa only [Own] using h
  | .str x, v, F, _, h => by simpa only [Own] using h
  | .fn a, v, F, _, h => by simpa only [Own] using h
  | .tup ds, v, F, hb, h => by
    simp only [Own, VS.bare] at h hb ⊢
    obtain ⟨a, vs, e, hr, hl⟩ := h
    exact ⟨a, vs, e, hr, OwnL.bare ds hb hl⟩
  | .lst true ds, v, F, hb, h => by simp [VS.bare] at hb
  | .lst false ds, v, F, _, h => by simpa only [Own] using h
  | .dic true t ks ds, v, F, hb, h => by simp [VS.bare] at hb
  | .dic false t ks ds, v, F, _, h => by simpa only [Own] using h
theorem OwnL.bare : ∀ (ds : List D) {vs : List V} {F : Set}, bareL ds = true → OwnL Z H ds vs F → OwnL Z H ds vs E0s
  | [], vs, F, _, h => by simpa only [OwnL] using h
  | d :: ds, vs, F, hb, h => by
    simp only [OwnL, VS.bareL, Bool.and_eq_true] at h hb ⊢
    obtain ⟨v, r, F1, F2, e, h1, h2, s1, s2, dj⟩ := h
    exact ⟨v, r, E0s, E0s, e, Own.bare d hb.1 h1, OwnL.bare ds hb.2 h2, fun _ z => z, fun _ z => z, fun _ z _ => z⟩
end
mutual
theorem Own.noF : ∀ (d : D) {v : V} {F : Set}, noF d = true → Own Z H d v F → Own Z' H d v F
  | .non, v, F, _, h => by simpa only [Own] using h
  | .bl b, v, F, _, h => by simpa only [Own] using h
  | .int i, v, F, _, h => by simpa only [Own] using h
  | .str x, v, F, _, h => by simpa only [Own] using h
  | .fn a, v, F, _, h => by simpa only [Own] using h
  | .tup ds, v, F, hb, h => by
    simp only [Own, VS.noF] at h hb ⊢
    obtain ⟨a, vs, e, hr, hl⟩ := h
    exact ⟨a, vs, e, hr, OwnL.noF ds hb hl⟩
  | .lst false ds, v, F, hb, h => by simp [VS.noF] at hb
  | .lst true ds, v, F, hb, h => by
    simp only [Own, VS.noF, Bool.true_and] at h hb ⊢
    obtain ⟨a, vs, e, hr, ha, hl⟩ := h
    exact ⟨a, vs, e, hr, ha, OwnL.noF ds hb hl⟩
  | .dic false t ks ds, v, F, hb, h => by simp [VS.noF] at hb
  | .dic true t ks ds, v, F, hb, h => by
    simp only [Own, VS.noF, Bool.true_and] at h hb ⊢
    obtain ⟨a, vs, u, e, hr, hd, ha, hl⟩ := h
    exact ⟨a, vs, u, e, hr, hd, ha, OwnL.noF ds hb hl⟩
theorem OwnL.noF : ∀ (ds : List D) {vs : List V} {F : Set}, noFL ds = true → OwnL Z H ds vs F → OwnL Z' H ds vs F
  | [], vs, F, _, h => by simpa only [OwnL] using h
  | d :: ds, vs, F, hb, h => by
    simp only [OwnL, VS.noFL, Bool.and_eq_true] at h hb ⊢
    obtain ⟨v, r, F1, F2, e, h1, h2, s1, s2, dj⟩ := h
    exact ⟨v, r, F1, F2, e, Own.noF d hb.1 h1, OwnL.noF ds hb.2 h2, s1, s2, dj⟩
end
mutual
theorem bare_frz : ∀ d : D, bare (frz d) = true
  | .tup ds => by simp only [frz, bare]; exact bareL_frz ds
  | .lst _ ds => by simp only [frz, bare]; simpa using bareL_frz ds
  | .dic _ _ _ ds => by simp only [frz, bare]; simpa using bareL_frz ds
  | .non => rfl | .bl _ => rfl | .int _ => rfl | .str _ => rfl | .fn _ => rfl
theorem bareL_frz : ∀ ds : List D, bareL (frzL ds) = true
  | [] => rfl
  | d :: r => by simp only [frzL, bareL, bare_frz d, bareL_frz r, Bool.and_self]
end
mutual
theorem frz_bare : ∀ d : D, bare d = true → frz d = d
  | .tup ds, h => by simp only [bare] at h; simp only [frz, frzL_bare ds h]
  | .lst o ds, h => by
    simp only [bare, Bool.and_eq_true, Bool.not_eq_true'] at h
    simp only [frz, frzL_bare ds h.2, h.1]
  | .dic o _ _ ds, h => by
    simp only [bare, Bool.and_eq_true, Bool.not_eq_true'] at h
    simp only [frz, frzL_bare ds h.2, h.1]
  | .non, _ => rfl | .bl _, _ => rfl | .int _, _ => rfl | .str _, _ => rfl | .fn _, _ => rfl
theorem frzL_bare : ∀ ds : List D, bareL ds = true → frzL ds = ds
  | [], _ => rfl
  | d :: r, h => by
    simp only [bareL, Bool.and_eq_true] at h
    simp only [frzL, frz_bare d h.1, frzL_bare r h.2]
end
end
abbrev VEnv := List (Option D)
def IsM : Option HO → Prop
  | some (.lst _) => True
  | some (.dK _) => True
  | some (.dT _) => True
  | _ => False
theorem IsM.ne {o : Option HO} (h : IsM o) : o ≠ none := fun z => by rw [z] at h; exact h
theorem IsM.notup {H : Hp} {a : Addr} {vs : List V} (h : IsM (H a)) : ¬ H a = some (.tup vs) := fun z => by rw [z] at h; exact h
theorem IsM.up {H H' : Hp} {a : Addr} (h : IsM (H a)) (k : ∀ o, H a = some o → H' a = some o) : IsM (H' a) := by
  cases e : H a with
  | none => rw [e] at h; exact h.elim
  | some o => rw [k o e, ← e]; exact h
def Uφ (φ : Nat → Set) : Set := fun a => ∃ i, φ i a
structure Ok (Z : Set) (H : Hp) (env : VEnv) (σ : St) (φ : Nat → Set) : Prop where
  own : ∀ i d, env[i]? = some (some d) → ∃ v, σ[i]? = some (some v) ∧ Own Z H d v (φ i)
  dj : ∀ i j a, φ i a → φ j a → i = j
  fz : ∀ i a, φ i a → ¬ Z a
  fm : ∀ i a, φ i a → IsM (H a)
  zh : ∀ a, Z a → H a ≠ none
  len : env.length = σ.length
structure Res (Z : Set) (H : Hp) (F : Set) (Z' : Set) (H' : Hp) (F' G : Set) : Prop where
  z : ∀ a, Z a → Z' a
  zn : ∀ a, Z' a → Z a ∨ F a ∨ H a = none
  k : ∀ a o, H a = some o → ¬ F a → H' a = some o
  f : ∀ a, F' a → F a ∨ H a = none
  g : ∀ a, G a → F a ∨ H a = none
  d : ∀ a, F' a → ¬ G a
  gz : ∀ a, G a → ¬ Z' a
  gm : ∀ a, G a → IsM (H' a)
section
variable {Z Z1 Z2 : Set} {H H1 H2 : Hp} {F F1 F2 G G1 G2 : Set} {env env1 : VEnv} {σ : St} {φ φ1 : Nat → Set}
theorem Res.refl : Res Z H F Z H F E0s := ⟨fun _ z => z, fun _ z => .inl z, fun _ _ e _ => e, fun _ z => .inl z, fun _ z => z.elim, fun _ _ z => z, fun _ z => z.elim, fun _ z => z.elim⟩
theorem Res.kn (r : Res Z H F Z1 H1 F1 G1) {a : Addr} (h : F1 a ∨ H1 a = none) : F a ∨ H a = none := by
  rcases h with h | h
  · exact r.f a h
  · cases e : H a with
    | none => exact .inr rfl
    | some o =>
      refine .inl (Classical.byContradiction fun n => ?_)
      rw [r.k a o e n] at h; cases h
theorem Res.seq (r1 : Res Z H F Z1 H1 F1 G1) (r2 : Res Z1 H1 F1 Z2 H2 F2 G2) : Res Z H F Z2 H2 F2 (fun a => G1 a ∨ G2 a) ∧ ∀ a, G1 a → ¬ G2 a := by
  have g1 : ∀ a, G1 a → ¬ (F1 a ∨ H1 a = none) := fun a h z => z.elim (fun z => r1.d a z h) fun z => (r1.gm a h).ne z
  have n1 : ∀ a o, H1 a = some o → ¬ F1 a → H2 a = some o := r2.k
  refine ⟨⟨fun a h => r2.z a (r1.z a h), fun a h => ?_, fun a o e n => ?_, fun a h => r1.kn (r2.f a h), fun a h => h.elim (r1.g a) fun h => r1.kn (r2.g a h), fun a h z => ?_, fun a h z => ?_, fun a h => ?_⟩, fun a h z => g1 a h (r2.g a z)⟩
  · rcases r2.zn a h with h | h
    · exact r1.zn a h
    · exact .inr (r1.kn h)
  · refine r2.k a o (r1.k a o e n) fun z => ?_
    rcases r1.f a z with z | z
    · exact n z
    · rw [z] at e; cases e
  · rcases z with z | z
    · exact g1 a z (r2.f a h)
    · exact r2.d a h z
  · rcases h with h | h
    · rcases r2.zn a z with z | z
      · exact r1.gz a h z
      · exact g1 a h z
    · exact r2.gz a h z
  · rcases h with h | h
    · exact (r1.gm a h).up fun o e => r2.k a o e fun z => r1.d a z h
    · exact r2.gm a h
theorem Res.trans (r1 : Res Z H F Z1 H1 F1 E0s) (r2 : Res Z1 H1 F1 Z2 H2 F2 G2) : Res Z H F Z2 H2 F2 G2 := by
  have q := (r1.seq r2).1
  have e : (fun a => E0s a ∨ G2 a) = G2 := by funext a; exact propext ⟨fun z => z.elim (fun z => z.elim) id, .inr⟩
  rw [e] at q; exact q
theorem Res.keep (O : Ok Z1 H1 env1 σ φ1) (r : Res Z1 H1 (Uφ φ1) Z2 H2 F2 G2) {d : D} {v : V} (dj : ∀ a, Uφ φ1 a → ¬ G1 a) (h : Own Z1 H1 d v G1) : Own Z2 H2 d v G1 :=
  Own.step (Uφ φ1) r.z r.k (fun a ⟨i, z⟩ => O.fz i a z) (fun a vs ⟨i, z⟩ => (O.fm i a z).notup) d (fun _ z => z) dj h
end
inductive Ref where
  | tmp (d : D) | var (i : Nat)
def Ref.at (env : VEnv) : Ref → Option D
  | .tmp d => some d
  | .var i => env[i]?.join
def RefOk (Z : Set) (H : Hp) (σ : St) : Ref → V → Set → Prop
  | .tmp d, v, G => Own Z H d v G
  | .var i, v, _ => σ[i]? = some (some v)
def RefsOk (Z : Set) (H : Hp) (σ : St) : List Ref → List V → Set → Prop
  | [], vs, _ => vs = []
  | r :: rs, vs, G => ∃ v ws G1 G2, vs = v :: ws ∧ RefOk Z H σ r v G1 ∧ RefsOk Z H σ rs ws G2 ∧ (∀ a, G1 a → G a) ∧ (∀ a, G2 a → G a) ∧ (∀ a, G1 a → ¬ G2 a)
abbrev UB := VEnv → (Ref → VEnv → Prop) → Prop
abbrev UA := VEnv → (List Ref → VEnv → Prop) → Prop
abbrev UT := VEnv → (Bool → VEnv → Prop) → Prop
def SndB (t : TE) (u : UB) : Prop := ∀ (σ : St) (env : VEnv) (Z : Set) (H : Hp) (φ : Nat → Set) (Q : Ref → VEnv → Prop) (R : VK), Ok Z H env σ φ → u env Q →
  (∀ r env' v Z' H' φ' G, Q r env' → Ok Z' H' env' σ φ' → Res Z H (Uφ φ) Z' H' (Uφ φ') G → RefOk Z' H' σ r v G → R v H') → t σ H R
def SndA (t : TA) (u : UA) : Prop := ∀ (σ : St) (env : VEnv) (Z : Set) (H : Hp) (φ : Nat → Set) (Q : List Ref → VEnv → Prop) (R : List V → Hp → Prop), Ok Z H env σ φ → u env Q →
  (∀ rs env' vs Z' H' φ' G, Q rs env' → Ok Z' H' env' σ φ' → Res Z H (Uφ φ) Z' H' (Uφ φ') G → RefsOk Z' H' σ rs vs G → R vs H') → t σ H R
def SndT (t : TT) (u : UT) : Prop := ∀ (σ : St) (env : VEnv) (Z : Set) (H : Hp) (φ : Nat → Set) (Q : Bool → VEnv → Prop) (R : Bool → Hp → Prop), Ok Z H env σ φ → u env Q →
  (∀ b env' Z' H' φ', Q b env' → Ok Z' H' env' σ φ' → Res Z H (Uφ φ) Z' H' (Uφ φ') E0s → R b H') → t σ H R
def uNil : UA := fun env Q => Q [] env
def uCons (u : UB) (w : UA) : UA := fun env Q => u env fun r e => w e fun rs e2 => Q (r :: rs) e2
section
variable {Z Z1 Z2 : Set} {H H1 H2 : Hp} {F F1 F2 G G1 G2 : Set} {env env1 : VEnv} {σ : St} {φ φ1 : Nat → Set}
theorem RefOk.keep (O : Ok Z1 H1 env1 σ φ1) (r : Res Z1 H1 (Uφ φ1) Z2 H2 F2 G2) (dj : ∀ a, Uφ φ1 a → ¬ G1 a) : ∀ {x : Ref} {v : V}, RefOk Z1 H1 σ x v G1 → RefOk Z2 H2 σ x v G1
  | .tmp d, v, h => r.keep O dj h
  | .var i, v, h => h
theorem snd_nil : SndA tNil uNil := fun σ env Z H φ Q R O u k => k [] env [] Z H φ E0s u O Res.refl rfl
theorem snd_cons {t : TE} {ts : TA} {u : UB} {us : UA} (h1 : SndB t u) (h2 : SndA ts us) : SndA (tCons t ts) (uCons u us) := by
  intro σ env Z H φ Q R O q k
  refine h1 σ env Z H φ _ _ O q fun r env1 v Z1 H1 φ1 G1 q1 O1 r1 ok1 => ?_
  refine h2 σ env1 Z1 H1 φ1 _ _ O1 q1 fun rs env2 vs Z2 H2 φ2 G2 q2 O2 r2 ok2 => ?_
  obtain ⟨r12, dj⟩ := r1.seq r2
  exact k _ _ _ _ _ _ _ q2 O2 r12 ⟨v, vs, G1, G2, rfl, ok1.keep O1 r2 r1.d, ok2, fun _ z => .inl z, fun _ z => .inr z, dj⟩
end
structure New (Z : Set) (H H' : Hp) (d : D) (v : V) (G : Set) : Prop where
  same : Same H H'
  own : Own Z H' d v G
  new : ∀ a, G a → H a = none ∧ IsM (H' a)
def ats (env : VEnv) : List Ref → Option (List D)
  | [] => some []
  | r :: rs => match r.at env, ats env rs with
    | some d, some ds => some (d :: ds)
    | _, _ => none
abbrev Seen (Z : Set) (H : Hp) : List D → List V → Prop := Paired fun d v => ∃ F, Own Z H d v F
def FnV (r : List V → Hp → VK → Prop) (f : List D → (D → Prop) → Prop) : Prop := ∀ (Z : Set) (H : Hp) (ds : List D) (vs : List V) (P : D → Prop) (R : VK), Seen Z H ds vs → f ds P → (∀ d v H' G, P d → New Z H H' d v G → R v H') → r vs H R
def uFn (f : List D → (D → Prop) → Prop) (ua : UA) : UB := fun env Q => ua env fun rs e => ∃ ds, ats e rs = some ds ∧ f ds fun d => Q (.tmp d) e
section
variable {Z Z1 Z2 : Set} {H H1 H2 H' : Hp} {F F1 F2 G G1 G2 : Set} {env env1 : VEnv} {σ : St} {φ φ1 : Nat → Set}
theorem seen_of (O : Ok Z H env σ φ) : ∀ {rs : List Ref} {vs : List V} {G : Set} {ds : List D}, RefsOk Z H σ rs vs G → ats env rs = some ds → Seen Z H ds vs
  | [], vs, G, ds, h, e => by
    cases (show vs = [] from h)
    cases (show some [] = some ds from e)
    exact .nil
  | r :: rs, vs, G, ds, h, e => by
    obtain ⟨v, ws, G1, G2, rfl, h1, h2, _⟩ := h
    unfold ats at e
    cases e1 : r.at env with
    | none => simp [e1] at e
    | some d =>
      cases e2 : ats env rs with
      | none => simp [e1, e2] at e
      | some ds' =>
        simp only [e1, e2, Option.some.injEq] at e
        subst e
        refine .cons ?_ (seen_of O h2 e2)
        cases r with
        | tmp d' => cases (show some d' = some d from e1); exact ⟨G1, h1⟩
        | var i =>
          have e1 : env[i]?.join = some d := e1
          have e3 : env[i]? = some (some d) := by
            cases q : env[i]? with
            | none => rw [q] at e1; cases e1
            | some o => rw [q] at e1; cases (show o = some d from e1); rfl
          obtain ⟨v', hv, ho⟩ := O.own i d e3
          have h1 : σ[i]? = some (some v) := h1
          rw [hv] at h1; cases h1
          exact ⟨φ i, ho⟩
theorem Ok.grow (O : Ok Z H env σ φ) (s : Same H H') : Ok Z H' env σ φ :=
  ⟨fun i d e => let ⟨v, hv, h⟩ := O.own i d e; ⟨v, hv, h.grow s⟩, O.dj, O.fz, fun i a h => (O.fm i a h).up fun o e => s a o e, fun a h z => (by
    cases e : H a with
    | none => exact O.zh a h e
    | some o => rw [s a o e] at z; cases z), O.len⟩
theorem New.res (O : Ok Z1 H1 env1 σ φ1) (r : Res Z H F Z1 H1 (Uφ φ1) G1) {d : D} {v : V} (n : New Z1 H1 H' d v G) : Res Z H F Z1 H' (Uφ φ1) G :=
  ⟨r.z, r.zn, fun a o e z => n.same a o (r.k a o e z), r.f, fun a h => r.kn (.inr (n.new a h).1), fun a ⟨i, z⟩ h => (O.fm i a z).ne (n.new a h).1, fun a h z => O.zh a z (n.new a h).1, fun a h => (n.new a h).2⟩
theorem snd_fn {t : TA} {ua : UA} {r : List V → Hp → VK → Prop} {f : List D → (D → Prop) → Prop} (ha : SndA t ua) (hf : FnV r f) : SndB (tCB r t) (uFn f ua) := by
  intro σ env Z H φ Q R O q k
  refine ha σ env Z H φ _ _ O q fun rs env1 vs Z1 H1 φ1 G1 ⟨ds, e, q1⟩ O1 r1 ok1 => ?_
  exact hf Z1 H1 ds vs _ R (seen_of O1 ok1 e) q1 fun d v H' G p n => k (.tmp d) env1 v Z1 H' φ1 G p (O1.grow n.same) (n.res O1 r1) n.own
end
end VS
end
section
namespace VS
open PySem L2
section
variable {Z : Set} {H H' : Hp} {F : Set} {v : V}
theorem own_non : Own Z H .non v F ↔ v = .non := by simp only [Own]
theorem own_bl {b} : Own Z H (.bl b) v F ↔ v = .bl b := by simp only [Own]
theorem own_int {i} : Own Z H (.int i) v F ↔ v = .int i := by simp only [Own]
theorem own_str {x} : Own Z H (.str x) v F ↔ v = .str x := by simp only [Own]
theorem own_fn {a} : Own Z H (.fn a) v F ↔ v = .ref a := by simp only [Own]
theorem own_tup {ds} : Own Z H (.tup ds) v F ↔ ∃ a vs, v = .ref a ∧ H a = some (.tup vs) ∧ OwnL Z H ds vs F := by simp only [Own]
theorem own_lstT {ds} : Own Z H (.lst true ds) v F ↔ ∃ a vs, v = .ref a ∧ H a = some (.lst vs) ∧ F a ∧ OwnL Z H ds vs (fun b => F b ∧ b ≠ a) := by simp only [Own]
theorem own_lstF {ds} : Own Z H (.lst false ds) v F ↔ ∃ a vs, v = .ref a ∧ Rd H a (.lst vs) ∧ Z a ∧ OwnL Z H ds vs E0s := by simp only [Own]
theorem own_dicT {t ks ds} : Own Z H (.dic true t ks ds) v F ↔ ∃ a vs u, v = .ref a ∧ H a = some u ∧ DictAt t u ks vs ∧ F a ∧ OwnL Z H ds vs (fun b => F b ∧ b ≠ a) := by simp only [Own]
theorem own_dicF {t ks ds} : Own Z H (.dic false t ks ds) v F ↔ ∃ a vs u, v = .ref a ∧ Rd H a u ∧ DictAt t u ks vs ∧ Z a ∧ OwnL Z H ds vs E0s := by simp only [Own]
theorem ownL_nil {vs : List V} : OwnL Z H [] vs F ↔ vs = [] := by simp only [OwnL]
theorem ownL_cons {d : D} {ds : List D} {vs : List V} : OwnL Z H (d :: ds) vs F ↔ ∃ v r F1 F2, vs = v :: r ∧ Own Z H d v F1 ∧ OwnL Z H ds r F2 ∧ (∀ b, F1 b → F b) ∧ (∀ b, F2 b → F b) ∧ (∀ b, F1 b → ¬ F2 b) := by simp only [OwnL]
theorem own_lst {o ds} (h : Own Z H (.lst o ds) v F) : ∃ a vs, v = .ref a ∧ Rd H a (.lst vs) ∧ OwnL Z H ds vs F := by
  cases o with
  | true => obtain ⟨a, vs, e, hr, _, hl⟩ := own_lstT.mp h; exact ⟨a, vs, e, .inl hr, hl.mono fun _ z => z.1⟩
  | false => obtain ⟨a, vs, e, hr, _, hl⟩ := own_lstF.mp h; exact ⟨a, vs, e, hr, hl.mono fun _ z => z.elim⟩
theorem own_dic {o t ks ds} (h : Own Z H (.dic o t ks ds) v F) : ∃ a vs u, v = .ref a ∧ Rd H a u ∧ DictAt t u ks vs ∧ OwnL Z H ds vs F := by
  cases o with
  | true => obtain ⟨a, vs, u, e, hr, hd, _, hl⟩ := own_dicT.mp h; exact ⟨a, vs, u, e, .inl hr, hd, hl.mono fun _ z => z.1⟩
  | false => obtain ⟨a, vs, u, e, hr, hd, _, hl⟩ := own_dicF.mp h; exact ⟨a, vs, u, e, hr, hd, hl.mono fun _ z => z.elim⟩
theorem OwnL.length : ∀ {ds : List D} {vs : List V} {F : Set}, OwnL Z H ds vs F → vs.length = ds.length
  | [], vs, F, h => by rw [ownL_nil.mp h]; rfl
  | d :: ds, vs, F, h => by
    obtain ⟨v, r, F1, F2, rfl, _, h2, _⟩ := ownL_cons.mp h
    simp [OwnL.length h2]
theorem OwnL.get : ∀ {ds : List D} {vs : List V} {F : Set} {i : Nat} {d : D}, OwnL Z H ds vs F → ds[i]? = some d → ∃ v, vs[i]? = some v ∧ Own Z H d v F
  | [], vs, F, i, d, h, e => by simp at e
  | d' :: ds, vs, F, 0, d, h, e => by
    obtain ⟨v, r, F1, F2, rfl, h1, h2, s1, s2, _⟩ := ownL_cons.mp h
    cases (show some d' = some d from e)
    exact ⟨v, rfl, h1.mono s1⟩
  | d' :: ds, vs, F, i + 1, d, h, e => by
    obtain ⟨v, r, F1, F2, rfl, h1, h2, s1, s2, _⟩ := ownL_cons.mp h
    obtain ⟨w, e', q⟩ := OwnL.get (i := i) h2 (by simpa using e)
    exact ⟨w, by simpa using e', q.mono s2⟩
theorem OwnL.atI {ds : List D} {vs : List V} {i : Int} {d : D} (h : OwnL Z H ds vs F) (e : atI ds i = some d) : ∃ v, L2.atI vs i = some v ∧ Own Z H d v F := by
  unfold L2.atI at e ⊢
  rw [h.length]
  cases q : ixN ds.length i with
  | none => rw [q] at e; cases e
  | some j => rw [q] at e; exact h.get e
theorem New.refl {d : D} (h : Own Z H d v E0s) : New Z H H d v E0s := ⟨fun _ _ e => e, h, fun _ z => z.elim⟩
end
def FnV2 (r : R2) (f : D → D → (D → Prop) → Prop) : Prop := ∀ (Z : Set) (H : Hp) (d1 d2 : D) (v1 v2 : V) (F1 F2 : Set) (P : D → Prop) (R : VK), Own Z H d1 v1 F1 → Own Z H d2 v2 F2 → f d1 d2 P → (∀ d v H' G, P d → New Z H H' d v G → R v H') → r v1 v2 H R
def uFn2 (f : D → D → (D → Prop) → Prop) (ua ub : UB) : UB := fun env Q => ua env fun r1 e1 => ub e1 fun r2 e2 => ∃ d1 d2, r1.at e2 = some d1 ∧ r2.at e2 = some d2 ∧ f d1 d2 fun d => Q (.tmp d) e2
theorem snd_fn2 {ta tb : TE} {ua ub : UB} {r : R2} {f : D → D → (D → Prop) → Prop} (ha : SndB ta ua) (hb : SndB tb ub) (hf : FnV2 r f) : SndB (tOp r ta tb) (uFn2 f ua ub) := by
  have q := snd_fn (r := fun vs H Q => r (vs.getD 0 .non) (vs.getD 1 .non) H Q) (f := fun ds P => ∃ d1 d2, ds = [d1, d2] ∧ f d1 d2 P) (snd_cons ha (snd_cons hb snd_nil)) (by
    rintro Z H ds vs P R s ⟨d1, d2, rfl, hf'⟩ k
    cases s with
    | cons h1 t =>
      cases t with
      | cons h2 t =>
        cases t
        obtain ⟨F1, h1⟩ := h1
        obtain ⟨F2, h2⟩ := h2
        exact hf Z H d1 d2 _ _ F1 F2 P R h1 h2 hf' k)
  intro σ env Z H φ Q R O u k
  refine q σ env Z H φ Q R O ?_ k
  show ua env fun r1 e1 => ub e1 fun r2 e2 => ∃ ds, ats e2 [r1, r2] = some ds ∧ ∃ d1 d2, ds = [d1, d2] ∧ f d1 d2 fun d => Q (.tmp d) e2
  have e : (fun r1 e1 => ub e1 fun r2 e2 => ∃ ds, ats e2 [r1, r2] = some ds ∧ ∃ d1 d2, ds = [d1, d2] ∧ f d1 d2 fun d => Q (.tmp d) e2) = (fun r1 e1 => ub e1 fun r2 e2 => ∃ d1 d2, r1.at e2 = some d1 ∧ r2.at e2 = some d2 ∧ f d1 d2 fun d => Q (.tmp d) e2) := by
    funext r1 e1
    congr 1
    funext r2 e2
    refine propext ⟨?_, ?_⟩
    · rintro ⟨ds, h, d1, d2, rfl, q⟩
      unfold ats ats ats at h
      cases e1 : r1.at e2 <;> cases e2' : r2.at e2 <;> simp [e1, e2'] at h
      obtain ⟨rfl, rfl⟩ := h
      exact ⟨_, _, rfl, rfl, q⟩
    · rintro ⟨d1, d2, h1, h2, q⟩
      exact ⟨[d1, d2], by unfold ats ats ats; simp [h1, h2], d1, d2, rfl, q⟩
  rw [e]
  exact u
def FnV1 (r : V → Hp → VK → Prop) (f : D → (D → Prop) → Prop) : Prop := ∀ (Z : Set) (H : Hp) (d1 : D) (v1 : V) (F1 : Set) (P : D → Prop) (R : VK), Own Z H d1 v1 F1 → f d1 P → (∀ d v H' G, P d → New Z H H' d v G → R v H') → r v1 H R
def uFn1 (f : D → (D → Prop) → Prop) (ua : UB) : UB := fun env Q => ua env fun r1 e1 => ∃ d1, r1.at e1 = some d1 ∧ f d1 fun d => Q (.tmp d) e1
theorem snd_fn1 {ta : TE} {ua : UB} {r : V → Hp → VK → Prop} {f : D → (D → Prop) → Prop} (ha : SndB ta ua) (hf : FnV1 r f) : SndB (tUn r ta) (uFn1 f ua) := by
  have q := snd_fn (r := fun vs H Q => r (vs.getD 0 .non) H Q) (f := fun ds P => ∃ d1, ds = [d1] ∧ f d1 P) (snd_cons ha snd_nil) (by
    rintro Z H ds vs P R s ⟨d1, rfl, hf'⟩ k
    cases s with
    | cons h1 t =>
      cases t
      obtain ⟨F1, h1⟩ := h1
      exact hf Z H d1 _ F1 P R h1 hf' k)
  intro σ env Z H φ Q R O u k
  refine q σ env Z H φ Q R O ?_ k
  show ua env fun r1 e1 => ∃ ds, ats e1 [r1] = some ds ∧ ∃ d1, ds = [d1] ∧ f d1 fun d => Q (.tmp d) e1
  have e : (fun r1 e1 => ∃ ds, ats e1 [r1] = some ds ∧ ∃ d1, ds = [d1] ∧ f d1 fun d => Q (.tmp d) e1) = (fun r1 e1 => ∃ d1, r1.at e1 = some d1 ∧ f d1 fun d => Q (.tmp d) e1) := by
    funext r1 e1
    refine propext ⟨?_, ?_⟩
    · rintro ⟨ds, h, d1, rfl, q⟩
      unfold ats ats at h
      cases e1 : r1.at e1 <;> simp [e1] at h
      subst h
      exact ⟨_, rfl, q⟩
    · rintro ⟨d1, h1, q⟩
      exact ⟨[d1], by unfold ats ats; simp [h1], d1, rfl, q⟩
  rw [e]
  exact u
def uPlace (i : Nat) : UB := fun env Q => Q (.var i) env
def uCopy (i : Nat) : UB := fun env Q => ∃ d, env[i]? = some (some d) ∧ bare d = true ∧ Q (.tmp d) env
def uMove (i : Nat) : UB := fun env Q => ∃ d, env[i]? = some (some d) ∧ Q (.tmp d) (env.set i none)
def uC (d : D) : UB := fun env Q => Q (.tmp d) env
section
variable {Z : Set} {H : Hp} {env : VEnv} {σ : St} {φ : Nat → Set}
theorem snd_copy {i : Nat} : SndB (tVar i) (uCopy i) := by
  intro σ env Z H φ Q R O ⟨d, e, hb, q⟩ k
  obtain ⟨v, hv, h⟩ := O.own i d e
  exact ⟨v, hv, k (.tmp d) env v Z H φ E0s q O Res.refl (h.bare d hb)⟩
def without (φ : Nat → Set) (i : Nat) : Nat → Set := fun j a => φ j a ∧ j ≠ i
theorem Ok.without (O : Ok Z H env σ φ) (i : Nat) : Ok Z H (env.set i none) σ (without φ i) :=
  ⟨fun j d e => by
    by_cases hj : i = j
    · subst hj
      have : i < env.length := by
        by_cases h : i < env.length
        · exact h
        · rw [List.getElem?_eq_none (by simpa using h)] at e; cases e
      rw [List.getElem?_set_self this] at e; cases e
    · rw [List.getElem?_set_ne hj] at e
      obtain ⟨v, hv, h⟩ := O.own j d e
      exact ⟨v, hv, h.mono fun a z => ⟨z, Ne.symm hj⟩⟩, fun j k a h1 h2 => O.dj j k a h1.1 h2.1, fun j a h => O.fz j a h.1, fun j a h => O.fm j a h.1, O.zh, by rw [List.length_set]; exact O.len⟩
theorem snd_move {i : Nat} : SndB (tVar i) (uMove i) := by
  intro σ env Z H φ Q R O ⟨d, e, q⟩ k
  obtain ⟨v, hv, h⟩ := O.own i d e
  refine ⟨v, hv, k (.tmp d) (env.set i none) v Z H (VS.without φ i) (φ i) q (O.without i) ⟨fun _ z => z, fun _ z => .inl z, fun _ _ e _ => e, fun a ⟨j, z⟩ => .inl ⟨j, z.1⟩, fun a z => .inl ⟨i, z⟩, fun a ⟨j, z⟩ z2 => z.2 (O.dj j i a z.1 z2), fun a z => O.fz i a z, fun a z => O.fm i a z⟩ h⟩
end
def uPlace' (i : Nat) : UB := fun env Q => ∃ d, env[i]? = some (some d) ∧ Q (.var i) env
theorem snd_place {i : Nat} : SndB (tVar i) (uPlace' i) := by
  intro σ env Z H φ Q R O ⟨d, e, q⟩ k
  obtain ⟨v, hv, h⟩ := O.own i d e
  exact ⟨v, hv, k (.var i) env v Z H φ E0s q O Res.refl hv⟩
def ofV : V → D
  | .non => .non | .bl b => .bl b | .int i => .int i | .str x => .str x | .ref a => .fn a | _ => .non
theorem own_ofV {Z : Set} {H : Hp} {v : V} (h : (match v with | .byt _ => false | .flt _ => false | .ty _ => false | _ => true) = true) : Own Z H (ofV v) v E0s := by
  cases v <;> simp [ofV, Own] at h ⊢
theorem snd_c {v : V} (h : (match v with | .byt _ => false | .flt _ => false | .ty _ => false | _ => true) = true := by rfl) : SndB (tC v) (uC (ofV v)) :=
  fun σ env Z H φ Q R O q k => k (.tmp _) env v Z H φ E0s q O Res.refl (own_ofV h)
def fI (C : Int → Int → Prop) (g : Int → Int → D) : D → D → (D → Prop) → Prop
  | .int i, .int j, P => C i j ∧ P (g i j)
  | _, _, _ => False
def fI0 (g : Int → Int → D) : D → D → (D → Prop) → Prop
  | .int i, .int j, P => P (g i j)
  | _, _, _ => False
theorem fn_I {C : Int → Int → Prop} {gv : Int → Int → V} {gd : Int → Int → D} (hg : ∀ i j (Z : Set) (H : Hp), Own Z H (gd i j) (gv i j) E0s) : FnV2 (rI C gv) (fI C gd) := by
  intro Z H d1 d2 v1 v2 F1 F2 P R h1 h2 hf k
  cases d1 <;> try exact hf.elim
  cases d2 <;> try exact hf.elim
  rw [own_int] at h1 h2
  exact ⟨_, _, h1, h2, hf.1, k _ _ _ _ hf.2 (New.refl (hg _ _ _ _))⟩
theorem fn_I0 {gv : Int → Int → V} {gd : Int → Int → D} (hg : ∀ i j (Z : Set) (H : Hp), Own Z H (gd i j) (gv i j) E0s) : FnV2 (rI0 gv) (fI0 gd) := by
  intro Z H d1 d2 v1 v2 F1 F2 P R h1 h2 hf k
  cases d1 <;> try exact hf.elim
  cases d2 <;> try exact hf.elim
  rw [own_int] at h1 h2
  exact ⟨_, _, h1, h2, k _ _ _ _ hf (New.refl (hg _ _ _ _))⟩
theorem fn_int {C : Int → Int → Prop} {g : Int → Int → Int} : FnV2 (rI C fun i j => .int (g i j)) (fI C fun i j => .int (g i j)) := fn_I fun _ _ _ _ => own_int.mpr rfl
theorem fn_int0 {g : Int → Int → Int} : FnV2 (rI0 fun i j => .int (g i j)) (fI0 fun i j => .int (g i j)) := fn_I0 fun _ _ _ _ => own_int.mpr rfl
theorem fn_bl0 {g : Int → Int → Bool} : FnV2 (rI0 fun i j => .bl (g i j)) (fI0 fun i j => .bl (g i j)) := fn_I0 fun _ _ _ _ => own_bl.mpr rfl
def fU (g : Int → D) : D → (D → Prop) → Prop
  | .int i, P => P (g i)
  | _, _ => False
theorem fn_neg : FnV1 (rU fun i => .int (-i)) (fU fun i => .int (-i)) := by
  intro Z H d1 v1 F1 P R h1 hf k
  cases d1 <;> try exact hf.elim
  rw [own_int] at h1
  exact ⟨_, h1, k _ _ _ _ hf (New.refl (own_int.mpr rfl))⟩
def eqS : D → D → Option Bool
  | .int i, .int j => some (decide (i = j))
  | .str i, .str j => some (decide (i = j))
  | .bl i, .bl j => some (decide (i = j))
  | .non, .non => some true
  | .non, .int _ => some false | .int _, .non => some false | .non, .bl _ => some false | .bl _, .non => some false | .non, .str _ => some false | .str _, .non => some false
  | .int _, .str _ => some false | .str _, .int _ => some false | .bl _, .str _ => some false | .str _, .bl _ => some false
  | _, _ => none
def fEq (neg : Bool) : D → D → (D → Prop) → Prop := fun a b P => ∃ k, eqS a b = some k ∧ P (.bl (if neg then !k else k))
theorem eqS_of {Z : Set} {H : Hp} {a b : D} {k : Bool} {v1 v2 : V} {F1 F2 : Set} (h1 : Own Z H a v1 F1) (h2 : Own Z H b v2 F2) (e : eqS a b = some k) : scal v1 v2 = true ∧ k = decide (v1 = v2) := by
  cases a <;> cases b <;> simp only [eqS, reduceCtorEq, Option.some.injEq] at e <;> simp only [Own] at h1 h2 <;> subst h1 h2 <;> subst e <;> refine ⟨rfl, ?_⟩ <;> simp
theorem fn_eq : FnV2 rEq (fEq false) := by
  rintro Z H d1 d2 v1 v2 F1 F2 P R h1 h2 ⟨k, e, hf⟩ kk
  obtain ⟨s, rfl⟩ := eqS_of h1 h2 e
  exact ⟨s, kk _ _ _ _ hf (New.refl (own_bl.mpr rfl))⟩
theorem fn_ne : FnV2 rNe (fEq true) := by
  rintro Z H d1 d2 v1 v2 F1 F2 P R h1 h2 ⟨k, e, hf⟩ kk
  obtain ⟨s, rfl⟩ := eqS_of h1 h2 e
  exact ⟨s, kk _ _ _ _ hf (New.refl (own_bl.mpr rfl))⟩
def isNon : D → Bool
  | .non => true
  | _ => false
def fIsN (neg : Bool) : D → (D → Prop) → Prop := fun a P => P (.bl (if neg then !isNon a else isNon a))
theorem isNon_of {Z : Set} {H : Hp} {a : D} {v : V} {F : Set} (h : Own Z H a v F) : decide (v = .non) = isNon a := by
  cases a with
  | non => rw [own_non.mp h]; rfl
  | bl b => rw [own_bl.mp h]; rfl
  | int i => rw [own_int.mp h]; rfl
  | str x => rw [own_str.mp h]; rfl
  | fn x => rw [own_fn.mp h]; rfl
  | tup ds => obtain ⟨_, _, rfl, _⟩ := own_tup.mp h; rfl
  | lst o ds => obtain ⟨_, _, rfl, _⟩ := own_lst h; rfl
  | dic o t ks ds => obtain ⟨_, _, _, rfl, _⟩ := own_dic h; rfl
theorem snd_isN {ta : TE} {ua : UB} (ha : SndB ta ua) : SndB (tIsN ta) (uFn1 (fIsN false) ua) := snd_fn1 (r := fun x H Q => Q (.bl (decide (x = .non))) H) ha fun Z H d1 v1 F1 P R h1 hf k => by
  show R (.bl (decide (v1 = .non))) H
  rw [isNon_of h1]; exact k _ _ _ _ hf (New.refl (own_bl.mpr rfl))
def fIxL : D → D → (D → Prop) → Prop
  | .lst _ ds, .int k, P => ∃ d, atI ds k = some d ∧ bare d = true ∧ P d
  | _, _, _ => False
def fIxT : D → D → (D → Prop) → Prop
  | .tup ds, .int k, P => ∃ d, atI ds k = some d ∧ bare d = true ∧ P d
  | _, _, _ => False
def fIxS : D → D → (D → Prop) → Prop
  | .str x, .int k, P => x.length ≤ 1000000 ∧ ∃ c, atI x.cps.toList k = some c ∧ P (.str ⟨#[c]⟩)
  | _, _, _ => False
theorem fn_ixL {K : PySem.W.Frag} : FnV2 (rIxL K) fIxL := by
  intro Z H d1 d2 v1 v2 F1 F2 P R h1 h2 hf k
  cases d1 <;> try exact hf.elim
  cases d2 <;> try exact hf.elim
  rw [own_int] at h2
  obtain ⟨d, e, hb, p⟩ := hf
  obtain ⟨a, vs, e1, hr, hl⟩ := own_lst h1
  obtain ⟨v, ev, ho⟩ := hl.atI e
  exact ⟨a, vs, _, v, e1, h2, .inl hr, ev, k _ _ _ _ p (New.refl (ho.bare d hb))⟩
theorem fn_ixT {K : PySem.W.Frag} : FnV2 (rIxT K) fIxT := by
  intro Z H d1 d2 v1 v2 F1 F2 P R h1 h2 hf k
  cases d1 <;> try exact hf.elim
  cases d2 <;> try exact hf.elim
  rw [own_int] at h2
  obtain ⟨d, e, hb, p⟩ := hf
  obtain ⟨a, vs, e1, hr, hl⟩ := own_tup.mp h1
  obtain ⟨v, ev, ho⟩ := hl.atI e
  exact ⟨a, vs, _, v, e1, h2, .inl (.inl hr), ev, k _ _ _ _ p (New.refl (ho.bare d hb))⟩
theorem fn_ixS : FnV2 rIxS fIxS := by
  intro Z H d1 d2 v1 v2 F1 F2 P R h1 h2 hf k
  cases d1 <;> try exact hf.elim
  cases d2 <;> try exact hf.elim
  rw [own_int] at h2
  rw [own_str] at h1
  obtain ⟨hz, c, e, p⟩ := hf
  exact ⟨_, _, c, h1, h2, Nat.le_of_lt (line_big hz), e, k _ _ _ _ p (New.refl (own_str.mpr rfl))⟩
end VS
end
section
namespace VS
open PySem L2
def dfind {α : Type} : List DK → List α → DK → Option α
  | k' :: ks, d :: ds, k => if k' = k then some d else dfind ks ds k
  | _, _, _ => none
def scK : D → Option Key
  | .int i => some (.inl i)
  | .str x => some (.inr x)
  | _ => none
def scKs : List D → Option (List Key)
  | [] => some []
  | d :: ds => match scK d, scKs ds with
    | some k, some r => some (k :: r)
    | _, _ => none
def keyOf : Bool → D → Option DK
  | false, d => (scK d).map .s
  | true, .tup ds => (scKs ds).map .t
  | true, _ => none
section
variable {Z : Set} {H H' : Hp} {F : Set} {v : V}
theorem own_scK {d : D} {k : Key} (e : scK d = some k) (h : Own Z H d v F) : v = kV k := by
  cases d <;> simp only [scK, reduceCtorEq, Option.some.injEq] at e <;> subst e
  · exact own_int.mp h
  · exact own_str.mp h
theorem own_scKs : ∀ {ds : List D} {ks : List Key} {vs : List V} {F : Set}, scKs ds = some ks → OwnL Z H ds vs F → vs = ks.map kV
  | [], ks, vs, F, e, h => by
    cases (show some [] = some ks from e)
    exact ownL_nil.mp h
  | d :: ds, ks, vs, F, e, h => by
    obtain ⟨v, r, F1, F2, rfl, h1, h2, _⟩ := ownL_cons.mp h
    unfold scKs at e
    cases e1 : scK d with
    | none => simp [e1] at e
    | some k =>
      cases e2 : scKs ds with
      | none => simp [e1, e2] at e
      | some ks' =>
        simp only [e1, e2, Option.some.injEq] at e
        subst e
        rw [own_scK e1 h1, own_scKs e2 h2]
        rfl
theorem valV_s (k : Key) : ∀ (kl : List Key) (vs : List V), kl.length = vs.length → valV (kl.zip vs) k = dfind (kl.map DK.s) vs (.s k)
  | [], vs, _ => by cases vs <;> rfl
  | k' :: kl, [], h => by simp at h
  | k' :: kl, v :: vs, h => by
    show valV ((k', v) :: kl.zip vs) k = if DK.s k' = DK.s k then some v else dfind (kl.map DK.s) vs (.s k)
    by_cases e : k' = k
    · rw [valV_pos e, if_pos (by rw [e])]
    · rw [valV_neg e, if_neg (fun z => e (DK.s.inj z))]
      exact valV_s k kl vs (by simpa using h)
theorem valV_t (k : List Key) : ∀ (kl : List (List Key)) (vs : List V), kl.length = vs.length → valV (kl.zip vs) k = dfind (kl.map DK.t) vs (.t k)
  | [], vs, _ => by cases vs <;> rfl
  | k' :: kl, [], h => by simp at h
  | k' :: kl, v :: vs, h => by
    show valV ((k', v) :: kl.zip vs) k = if DK.t k' = DK.t k then some v else dfind (kl.map DK.t) vs (.t k)
    by_cases e : k' = k
    · rw [valV_pos e, if_pos (by rw [e])]
    · rw [valV_neg e, if_neg (fun z => e (DK.t.inj z))]
      exact valV_t k kl vs (by simpa using h)
theorem OwnL.find : ∀ {ks : List DK} {ds : List D} {vs : List V} {F : Set} {k : DK}, OwnL Z H ds vs F → (∀ d, dfind ks ds k = some d → ∃ v, dfind ks vs k = some v ∧ Own Z H d v F) ∧ (dfind ks ds k = none → dfind ks vs k = none)
  | [], ds, vs, F, k, h => ⟨fun d e => by simp [dfind] at e, fun _ => by simp [dfind]⟩
  | k' :: ks, [], vs, F, k, h => by rw [ownL_nil.mp h]; exact ⟨fun d e => by simp [dfind] at e, fun _ => by simp [dfind]⟩
  | k' :: ks, d' :: ds, vs, F, k, h => by
    obtain ⟨v, r, F1, F2, rfl, h1, h2, s1, s2, _⟩ := ownL_cons.mp h
    have ih := OwnL.find (ks := ks) (k := k) h2
    unfold dfind
    by_cases e : k' = k
    · rw [if_pos e, if_pos e]
      exact ⟨fun d q => by cases q; exact ⟨v, rfl, h1.mono s1⟩, fun q => by cases q⟩
    · rw [if_neg e, if_neg e]
      exact ⟨fun d q => let ⟨w, q1, q2⟩ := ih.1 d q; ⟨w, q1, q2.mono s2⟩, ih.2⟩
theorem dict_get {t : Bool} {ks : List DK} {ds : List D} {a : Addr} {vs : List V} {u : HO} {kd : D} {k : DK} {y : V} {F2 : Set} (hr : Rd H a u) (hd : DictAt t u ks vs) (hl : OwnL Z H ds vs F) (hk : keyOf t kd = some k) (hy : Own Z H kd y F2) : DGet H a y (dfind ks vs k) := by
  cases t with
  | false =>
    obtain ⟨kl, rfl, hlen, hnd, rfl⟩ := hd
    cases e : scK kd with
    | none => simp [keyOf, e] at hk
    | some k' =>
      simp only [keyOf, e, Option.map_some, Option.some.injEq] at hk
      subst hk
      exact .inl ⟨_, k', hr, own_scK e hy, (valV_s k' kl vs hlen).symm⟩
  | true =>
    obtain ⟨kl, rfl, hlen, hnd, rfl⟩ := hd
    cases kd <;> simp only [keyOf, reduceCtorEq] at hk
    rename_i ds'
    cases e : scKs ds' with
    | none => simp [e] at hk
    | some k' =>
      simp only [e, Option.map_some, Option.some.injEq] at hk
      subst hk
      obtain ⟨b, ws, rfl, hb, hw⟩ := own_tup.mp hy
      rw [own_scKs e hw] at hb
      exact .inr ⟨_, k', b, hr, rfl, hb, (valV_t k' kl vs hlen).symm⟩
end
def fDGet : D → D → (D → Prop) → Prop
  | .dic _ t ks ds, kd, P => ∃ k d, keyOf t kd = some k ∧ dfind ks ds k = some d ∧ bare d = true ∧ P d
  | _, _, _ => False
def fDIn (neg : Bool) : D → D → (D → Prop) → Prop
  | kd, .dic _ t ks ds, P => ∃ k, keyOf t kd = some k ∧ P (.bl (if neg then !(dfind ks ds k).isSome else (dfind ks ds k).isSome))
  | _, _, _ => False
def fDGet2 : List D → (D → Prop) → Prop
  | [.dic _ t ks ds, kd, x], P => ∃ k, keyOf t kd = some k ∧ bare ((dfind ks ds k).getD x) = true ∧ P ((dfind ks ds k).getD x)
  | _, _ => False
theorem isD_of {Z : Set} {H : Hp} {t : Bool} {ks : List DK} {a : Addr} {vs : List V} {u : HO} (hr : Rd H a u) (hd : DictAt t u ks vs) : IsD H a := by
  cases t with
  | false => obtain ⟨kl, _, _, _, rfl⟩ := hd; exact .inl ⟨_, hr⟩
  | true => obtain ⟨kl, _, _, _, rfl⟩ := hd; exact .inr ⟨_, hr⟩
theorem tree_of {Z : Set} {H : Hp} {env : VEnv} {σ : St} {φ : Nat → Set} {r : Ref} {v : V} {G : Set} {d : D} (O : Ok Z H env σ φ) (h : RefOk Z H σ r v G) (e : r.at env = some d) : ∃ F, Own Z H d v F := by
  have q := seen_of (rs := [r]) (vs := [v]) (G := G) (ds := [d]) O ⟨v, [], G, E0s, rfl, h, rfl, fun _ z => z, fun _ z => z.elim, fun _ _ z => z⟩ (by unfold ats ats; rw [e])
  cases q with
  | cons h _ => exact h
def uGet2 (ua ub uc : UB) : UB := fun env Q => ua env fun r1 e1 => (∃ o t ks ds, r1.at e1 = some (.dic o t ks ds)) ∧ ub e1 fun r2 e2 => uc e2 fun r3 e3 => ∃ d1 d2 d3, r1.at e3 = some d1 ∧ r2.at e3 = some d2 ∧ r3.at e3 = some d3 ∧ fDGet2 [d1, d2, d3] fun d => Q (.tmp d) e3
theorem snd_get2 {ta tb tc : TE} {ua ub uc : UB} (ha : SndB ta ua) (hb : SndB tb ub) (hc : SndB tc uc) : SndB (tDGet2 ta tb tc) (uGet2 ua ub uc) := by
  intro σ env Z H φ Q R O q k
  refine ha σ env Z H φ _ _ O q fun x1 env1 v1 Z1 H1 φ1 G1 ⟨⟨o, t, ks, ds, hat⟩, q1⟩ O1 r1 ok1 => ?_
  obtain ⟨F1, h1⟩ := tree_of O1 ok1 hat
  obtain ⟨a, vs, u, rfl, hr, hd, hl⟩ := own_dic h1
  refine ⟨a, rfl, isD_of (Z := Z1) hr hd, ?_⟩
  refine hb σ env1 Z1 H1 φ1 _ _ O1 q1 fun x2 env2 v2 Z2 H2 φ2 G2 q2 O2 r2 ok2 => ?_
  refine hc σ env2 Z2 H2 φ2 _ _ O2 q2 fun x3 env3 v3 Z3 H3 φ3 G3 ⟨d1, d2, d3, e1, e2, e3, f⟩ O3 r3 ok3 => ?_
  obtain ⟨r12, dj12⟩ := r1.seq r2
  obtain ⟨r123, dj123⟩ := r12.seq r3
  have ok1' := ((ok1.keep O1 r2 r1.d).keep O2 r3 fun a z y => r12.d a z (.inl y))
  have ok2' := ok2.keep O2 r3 r2.d
  obtain ⟨F1', h1'⟩ := tree_of O3 ok1' e1
  obtain ⟨F2', h2'⟩ := tree_of O3 ok2' e2
  obtain ⟨F3', h3'⟩ := tree_of O3 ok3 e3
  cases d1 <;> try exact f.elim
  rename_i o' t' ks' ds'
  obtain ⟨kk, ek, hbr, p⟩ := f
  obtain ⟨a', vs', u', ea, hr', hd', hl'⟩ := own_dic h1'
  cases ea
  have n : ∃ d v G, New Z3 H3 H3 d v G ∧ v = (dfind ks' vs' kk).getD v3 ∧ d = (dfind ks' ds' kk).getD d3 := by
    cases e : dfind ks' ds' kk with
    | none =>
      rw [e] at hbr
      exact ⟨d3, v3, _, New.refl (h3'.bare d3 hbr), by rw [hl'.find.2 e]; rfl, rfl⟩
    | some d =>
      rw [e] at hbr
      obtain ⟨v, ev, ho⟩ := hl'.find.1 d e
      exact ⟨d, v, _, New.refl (ho.bare d hbr), by rw [ev]; rfl, rfl⟩
  obtain ⟨d, v, G, n, ev, ed⟩ := n
  subst ev ed
  exact ⟨_, dict_get hr' hd' hl' ek h2', k (.tmp _) env3 _ Z3 H3 φ3 G p (O3.grow n.same) (n.res O3 r123) n.own⟩
def fLen : List D → (D → Prop) → Prop
  | [.lst _ ds], P => P (.int ds.length)
  | [.tup ds], P => P (.int ds.length)
  | _, _ => False
theorem fn_len {K : PySem.W.Frag} : FnV (fun xs H Q => ∃ p ys, xs = [V.ref p] ∧ (SqL K H p ys ∨ SqT K H p ys) ∧ Q (.int ys.length) H) fLen := by
  intro Z H ds vs P R s f k
  cases s with
  | nil => exact f.elim
  | cons h t =>
    obtain ⟨F, h⟩ := h
    cases t with
    | cons h2 t2 => rename_i d _ _ _ _ _; cases d <;> exact f.elim
    | nil =>
      rename_i d v
      cases d <;> try exact f.elim
      · obtain ⟨a, vs, rfl, hr, hl⟩ := own_tup.mp h
        refine ⟨a, vs, rfl, .inr (.inl (.inl hr)), ?_⟩
        rw [hl.length]
        exact k _ _ _ _ f (New.refl (own_int.mpr rfl))
      · obtain ⟨a, vs, rfl, hr, hl⟩ := own_lst h
        refine ⟨a, vs, rfl, .inl (.inl hr), ?_⟩
        rw [hl.length]
        exact k _ _ _ _ f (New.refl (own_int.mpr rfl))
def fLenS : List D → (D → Prop) → Prop
  | [.str x], P => x.length ≤ 1000000 ∧ P (.int x.length)
  | _, _ => False
def tmps : List Ref → Option (List D)
  | [] => some []
  | .tmp d :: rs => (tmps rs).map (d :: ·)
  | .var _ :: _ => none
theorem ownL_of {Z : Set} {H : Hp} {σ : St} : ∀ {rs : List Ref} {vs : List V} {G : Set} {ds : List D}, RefsOk Z H σ rs vs G → tmps rs = some ds → OwnL Z H ds vs G
  | [], vs, G, ds, h, e => by
    cases (show some [] = some ds from e)
    exact ownL_nil.mpr h
  | .tmp d :: rs, vs, G, ds, h, e => by
    obtain ⟨v, ws, G1, G2, rfl, h1, h2, s1, s2, dj⟩ := h
    unfold tmps at e
    cases e2 : tmps rs with
    | none => simp [e2] at e
    | some ds' =>
      simp only [e2, Option.map_some, Option.some.injEq] at e
      subst e
      exact ownL_cons.mpr ⟨v, ws, G1, G2, rfl, h1, ownL_of h2 e2, s1, s2, dj⟩
  | .var i :: rs, vs, G, ds, h, e => by simp [tmps] at e
def uTup (ua : UA) : UB := fun env Q => ua env fun rs e => ∃ ds, tmps rs = some ds ∧ ds.length ≤ 1000000 ∧ Q (.tmp (.tup ds)) e
def uLst (ua : UA) : UB := fun env Q => ua env fun rs e => ∃ ds, tmps rs = some ds ∧ ds.length ≤ 1000000 ∧ Q (.tmp (.lst true ds)) e
section
variable {Z Z1 : Set} {H H1 H' : Hp} {F G G1 : Set} {env1 : VEnv} {σ : St} {φ1 : Nat → Set}
theorem Res.lay (O : Ok Z1 H1 env1 σ φ1) (r : Res Z H F Z1 H1 (Uφ φ1) G1) (s : Same H1 H') (g : ∀ a, G a → G1 a ∨ (H1 a = none ∧ IsM (H' a))) : Res Z H F Z1 H' (Uφ φ1) G :=
  ⟨r.z, r.zn, fun a o e z => s a o (r.k a o e z), r.f, fun a h => (g a h).elim (r.g a) fun h => r.kn (.inr h.1), fun a ⟨i, z⟩ h => (g a h).elim (r.d a ⟨i, z⟩) fun h => (O.fm i a z).ne h.1,
    fun a h z => (g a h).elim (fun h => r.gz a h z) fun h => O.zh a z h.1, fun a h => (g a h).elim (fun h => (r.gm a h).up fun o e => s a o e) fun h => h.2⟩
end
theorem snd_tup {t : TA} {ua : UA} (ha : SndA t ua) : SndB (tTupG t) (uTup ua) := by
  intro σ env Z H φ Q R O q k
  refine ha σ env Z H φ _ _ O q fun rs env1 vs Z1 H1 φ1 G1 ⟨ds, e, hz, q1⟩ O1 r1 ok1 => ?_
  have ho := ownL_of ok1 e
  refine ⟨by rw [ho.length]; exact hz, fun p H2 hn hs hp => ?_⟩
  exact k (.tmp (.tup ds)) env1 (.ref p) Z1 H2 φ1 G1 q1 (O1.grow hs) (Res.lay O1 r1 hs fun a z => .inl z) (own_tup.mpr ⟨p, vs, rfl, hp, ho.grow hs⟩)
theorem snd_lst {t : TA} {ua : UA} (ha : SndA t ua) : SndB (tLstG t) (uLst ua) := by
  intro σ env Z H φ Q R O q k
  refine ha σ env Z H φ _ _ O q fun rs env1 vs Z1 H1 φ1 G1 ⟨ds, e, hz, q1⟩ O1 r1 ok1 => ?_
  have ho := ownL_of ok1 e
  refine ⟨by rw [ho.length]; exact hz, fun p H2 hn hs hp => ?_⟩
  refine k (.tmp (.lst true ds)) env1 (.ref p) Z1 H2 φ1 (fun a => G1 a ∨ a = p) q1 (O1.grow hs) (Res.lay O1 r1 hs fun a z => z.imp id fun z => ?_) (own_lstT.mpr ⟨p, vs, rfl, hp, .inr rfl, (ho.grow hs).mono fun a z => ⟨.inl z, fun y => ?_⟩⟩)
  · subst z; exact ⟨hn, by rw [hp]; exact trivial⟩
  · subst y; exact (r1.gm _ z).ne hn
end VS
end
section
namespace VS
open PySem L2
section
variable {Z Z1 Z2 : Set} {H H1 H2 : Hp} {F F1 F2 G G1 : Set}
theorem Res.drop (r : Res Z H F Z1 H1 F1 G) : Res Z H F Z1 H1 F1 E0s := ⟨r.z, r.zn, r.k, r.f, fun _ z => z.elim, fun _ _ z => z, fun _ z => z.elim, fun _ z => z.elim⟩
end
theorem ref_bl {Z : Set} {H : Hp} {σ : St} {b : Bool} {v : V} {G : Set} (h : RefOk Z H σ (.tmp (.bl b)) v G) : v = .bl b := own_bl.mp (show Own Z H (.bl b) v G from h)
theorem ref_bl' {Z : Set} {H : Hp} {σ : St} {b : Bool} : RefOk Z H σ (.tmp (.bl b)) (.bl b) E0s := show Own Z H (.bl b) _ E0s from own_bl.mpr rfl
def uTest (ua : UB) : UT := fun env Q => ua env fun r e => ∃ b, r = .tmp (.bl b) ∧ Q b e
theorem snd_test {ta : TE} {ua : UB} (h : SndB ta ua) : SndT (tTest ta) (uTest ua) := by
  intro σ env Z H φ Q R O q k
  refine h σ env Z H φ _ _ O q fun r env1 v Z1 H1 φ1 G ⟨b, e, q1⟩ O1 r1 ok => ?_
  subst e
  exact ⟨b, ref_bl ok, k b env1 Z1 H1 φ1 q1 O1 r1.drop⟩
theorem snd_testB {ta : TE} {ua : UB} (h : SndB ta ua) : SndT (tB ta) (uTest ua) := snd_test h
def uNot (t : UT) : UT := fun env Q => t env fun b e => Q (!b) e
theorem snd_not {t : TT} {u : UT} (h : SndT t u) : SndT (tNot t) (uNot u) := fun σ env Z H φ Q R O q k => h σ env Z H φ _ _ O q fun b env1 Z1 H1 φ1 q1 O1 r1 => k (!b) env1 Z1 H1 φ1 q1 O1 r1
def uAnd (t u : UT) : UT := fun env Q => t env fun b e => if b = true then u e Q else Q false e
def uOr (t u : UT) : UT := fun env Q => t env fun b e => if b = true then Q true e else u e Q
theorem snd_and {t t' : TT} {u u' : UT} (h : SndT t u) (h' : SndT t' u') : SndT (tAnd t t') (uAnd u u') := by
  intro σ env Z H φ Q R O q k
  refine h σ env Z H φ _ _ O q fun b env1 Z1 H1 φ1 q1 O1 r1 => ?_
  cases b with
  | true => rw [if_pos rfl] at q1 ⊢; exact h' σ env1 Z1 H1 φ1 _ _ O1 q1 fun b env2 Z2 H2 φ2 q2 O2 r2 => k b env2 Z2 H2 φ2 q2 O2 (r1.trans r2)
  | false => rw [if_neg Bool.false_ne_true] at q1 ⊢; exact k false env1 Z1 H1 φ1 q1 O1 r1
theorem snd_or {t t' : TT} {u u' : UT} (h : SndT t u) (h' : SndT t' u') : SndT (tOr t t') (uOr u u') := by
  intro σ env Z H φ Q R O q k
  refine h σ env Z H φ _ _ O q fun b env1 Z1 H1 φ1 q1 O1 r1 => ?_
  cases b with
  | false => rw [if_neg Bool.false_ne_true] at q1 ⊢; exact h' σ env1 Z1 H1 φ1 _ _ O1 q1 fun b env2 Z2 H2 φ2 q2 O2 r2 => k b env2 Z2 H2 φ2 q2 O2 (r1.trans r2)
  | true => rw [if_pos rfl] at q1 ⊢; exact k true env1 Z1 H1 φ1 q1 O1 r1
def tru : D → Option Bool
  | .non => some false
  | .bl b => some b
  | .int i => some (i != 0)
  | .lst _ ds => some (!ds.isEmpty)
  | .tup ds => some (!ds.isEmpty)
  | _ => none
def uTruth (ua : UB) : UT := fun env Q => ua env fun r e => ∃ d b, r.at e = some d ∧ tru d = some b ∧ Q b e
theorem snd_truth {K : PySem.W.Frag} {ta : TE} {ua : UB} (h : SndB ta ua) : SndT (fun σ H Q => ta σ H fun x H' => ∃ k, TruV K x H' k ∧ Q k H') (uTruth ua) := by
  intro σ env Z H φ Q R O q k
  refine h σ env Z H φ _ _ O q fun r env1 v Z1 H1 φ1 G ⟨d, b, e, et, q1⟩ O1 r1 ok => ?_
  obtain ⟨F, ho⟩ := tree_of O1 ok e
  refine ⟨b, ?_, k b env1 Z1 H1 φ1 q1 O1 r1.drop⟩
  cases d <;> simp only [tru, reduceCtorEq, Option.some.injEq] at et <;> subst et
  · rw [own_non.mp ho]; rfl
  · rw [own_bl.mp ho]; rfl
  · rw [own_int.mp ho]; rfl
  · rename_i ds
    obtain ⟨a, vs, rfl, hr, hl⟩ := own_tup.mp ho
    have := hl.length
    refine .inr (.inl ⟨vs, .inl (.inl hr), ?_⟩)
    cases vs <;> cases ds <;> simp at this ⊢
  · rename_i o ds
    obtain ⟨a, vs, rfl, hr, hl⟩ := own_lst ho
    have := hl.length
    refine .inl ⟨vs, .inl hr, ?_⟩
    cases vs <;> cases ds <;> simp at this ⊢
def uAndV (ua ub : UB) : UB := fun env Q => ua env fun r e => ∃ c, r = .tmp (.bl c) ∧ if c = true then ub e Q else Q (.tmp (.bl false)) e
def uOrV (ua ub : UB) : UB := fun env Q => ua env fun r e => ∃ c, r = .tmp (.bl c) ∧ if c = true then Q (.tmp (.bl true)) e else ub e Q
def uNotV (ua : UB) : UB := fun env Q => ua env fun r e => ∃ c, r = .tmp (.bl c) ∧ Q (.tmp (.bl (!c))) e
def uIf (t : UT) (ua ub : UB) : UB := fun env Q => t env fun b e => if b = true then ua e Q else ub e Q
theorem snd_andV {ta tb : TE} {ua ub : UB} (h : SndB ta ua) (h' : SndB tb ub) : SndB (tAndV ta tb) (uAndV ua ub) := by
  intro σ env Z H φ Q R O q k
  refine h σ env Z H φ _ _ O q fun r env1 v Z1 H1 φ1 G ⟨c, e, q1⟩ O1 r1 ok => ?_
  subst e
  refine ⟨c, ref_bl ok, ?_⟩
  cases c with
  | true => rw [if_pos rfl] at q1 ⊢; exact h' σ env1 Z1 H1 φ1 _ _ O1 q1 fun b env2 v2 Z2 H2 φ2 G2 q2 O2 r2 ok2 => k b env2 v2 Z2 H2 φ2 G2 q2 O2 (r1.drop.trans r2) ok2
  | false => rw [if_neg Bool.false_ne_true] at q1 ⊢; exact k _ env1 _ Z1 H1 φ1 E0s q1 O1 r1.drop ref_bl'
theorem snd_notV {ta : TE} {ua : UB} (h : SndB ta ua) : SndB (tNotV ta) (uNotV ua) := by
  intro σ env Z H φ Q R O q k
  refine h σ env Z H φ _ _ O q fun r env1 v Z1 H1 φ1 G ⟨c, e, q1⟩ O1 r1 ok => ?_
  subst e
  exact ⟨c, ref_bl ok, k _ env1 _ Z1 H1 φ1 E0s q1 O1 r1.drop ref_bl'⟩
theorem snd_ifE {t : TT} {u : UT} {ta tb : TE} {ua ub : UB} (hc : SndT t u) (h : SndB ta ua) (h' : SndB tb ub) : SndB (tIf t ta tb) (uIf u ua ub) := by
  intro σ env Z H φ Q R O q k
  refine hc σ env Z H φ _ _ O q fun b env1 Z1 H1 φ1 q1 O1 r1 => ?_
  cases b with
  | true => rw [if_pos rfl] at q1 ⊢; exact h σ env1 Z1 H1 φ1 _ _ O1 q1 fun b env2 v2 Z2 H2 φ2 G2 q2 O2 r2 ok2 => k b env2 v2 Z2 H2 φ2 G2 q2 O2 (r1.trans r2) ok2
  | false => rw [if_neg Bool.false_ne_true] at q1 ⊢; exact h' σ env1 Z1 H1 φ1 _ _ O1 q1 fun b env2 v2 Z2 H2 φ2 G2 q2 O2 r2 ok2 => k b env2 v2 Z2 H2 φ2 G2 q2 O2 (r1.trans r2) ok2
def Kp (I : Nat → Bool) (σ σ' : St) : Prop := ∀ i : Nat, I i = true → σ'[i]? = σ[i]?
theorem Kp.refl {I : Nat → Bool} {σ : St} : Kp I σ σ := fun _ _ => rfl
theorem Kp.trans {I : Nat → Bool} {a b c : St} (h : Kp I a b) (h' : Kp I b c) : Kp I a c := fun i hi => (h' i hi).trans (h i hi)
structure UEnds where
  nx : VEnv → Prop
  rt : D → VEnv → Prop
  bk : VEnv → Prop
  ct : VEnv → Prop
abbrev US := UEnds → VEnv → Prop
def KN (I : Nat → Bool) (Z : Set) (H : Hp) (F : Set) (σ : St) (P : VEnv → Prop) (K : St → Hp → Prop) : Prop := ∀ env' σ' Z' H' φ', P env' → Ok Z' H' env' σ' φ' → Res Z H F Z' H' (Uφ φ') E0s → Kp I σ σ' → K σ' H'
def KR (I : Nat → Bool) (Z : Set) (H : Hp) (F : Set) (σ : St) (P : D → VEnv → Prop) (K : VK) : Prop := ∀ d env' v σ' Z' H' φ' G, P d env' → Ok Z' H' env' σ' φ' → Res Z H F Z' H' (Uφ φ') G → Own Z' H' d v G → Kp I σ σ' → K v H'
structure KEs (I : Nat → Bool) (Z : Set) (H : Hp) (F : Set) (σ : St) (D : UEnds) (E : Ends) : Prop where
  nx : KN I Z H F σ D.nx E.nx
  rt : KR I Z H F σ D.rt E.rt
  bk : KN I Z H F σ D.bk E.bk
  ct : KN I Z H F σ D.ct E.ct
def SndS (I : Nat → Bool) (t : TS) (u : US) : Prop := ∀ (σ : St) (env : VEnv) (Z : Set) (H : Hp) (φ : Nat → Set) (D : UEnds) (E : Ends), Ok Z H env σ φ → u D env → KEs I Z H (Uφ φ) σ D E → t E σ H
section
variable {I : Nat → Bool} {Z Z1 : Set} {H H1 : Hp} {F F1 : Set} {σ σ1 : St}
theorem KN.after {P : VEnv → Prop} {K : St → Hp → Prop} (k : KN I Z H F σ P K) (r : Res Z H F Z1 H1 F1 E0s) (s : Kp I σ σ1) : KN I Z1 H1 F1 σ1 P K := fun env' σ' Z' H' φ' p O r' s' => k env' σ' Z' H' φ' p O (r.trans r') (s.trans s')
theorem KR.after {P : D → VEnv → Prop} {K : VK} (k : KR I Z H F σ P K) (r : Res Z H F Z1 H1 F1 E0s) (s : Kp I σ σ1) : KR I Z1 H1 F1 σ1 P K := fun d env' v σ' Z' H' φ' G p O r' o s' => k d env' v σ' Z' H' φ' G p O (r.trans r') o (s.trans s')
theorem KEs.after {D : UEnds} {E : Ends} (k : KEs I Z H F σ D E) (r : Res Z H F Z1 H1 F1 E0s) (s : Kp I σ σ1) : KEs I Z1 H1 F1 σ1 D E := ⟨k.nx.after r s, k.rt.after r s, k.bk.after r s, k.ct.after r s⟩
end
def uSeq (a b : US) : US := fun D env => a { D with nx := b D } env
def uNext : US := fun D env => D.nx env
def uBrk : US := fun D env => D.bk env
def uCont : US := fun D env => D.ct env
def uRet (ua : UB) : US := fun D env => ua env fun r e => ∃ d, r = .tmp d ∧ D.rt d e
def uRetN : US := fun D env => D.rt .non env
def uDrop (ua : UB) : US := fun D env => ua env fun _ e => D.nx e
def uIfS (t : UT) (a b : US) : US := fun D env => t env fun c e => if c = true then a D e else b D e
def uNever : US := fun _ _ => False
section
variable {I : Nat → Bool}
theorem snd_seq {t t' : TS} {u u' : US} (h : SndS I t u) (h' : SndS I t' u') : SndS I (tSeq t t') (uSeq u u') := fun σ env Z H φ D E O q k =>
  h σ env Z H φ _ _ O q ⟨fun env' σ' Z' H' φ' p O' r s => h' σ' env' Z' H' φ' D E O' p (k.after r s), k.rt, k.bk, k.ct⟩
theorem snd_next : SndS I tNext uNext := fun σ env Z H φ D E O q k => k.nx env σ Z H φ q O Res.refl Kp.refl
theorem snd_ret {t : TE} {u : UB} (h : SndB t u) : SndS I (tRet t) (uRet u) := fun σ env Z H φ D E O q k =>
  h σ env Z H φ _ _ O q fun r env1 v Z1 H1 φ1 G ⟨d, e, q1⟩ O1 r1 ok => k.rt d env1 v σ Z1 H1 φ1 G q1 O1 r1 (by subst e; exact ok) Kp.refl
theorem snd_drop {t : TE} {u : UB} (h : SndB t u) : SndS I (tDrop t) (uDrop u) := fun σ env Z H φ D E O q k =>
  h σ env Z H φ _ _ O q fun r env1 v Z1 H1 φ1 G q1 O1 r1 ok => k.nx env1 σ Z1 H1 φ1 q1 O1 r1.drop Kp.refl
theorem snd_if {t : TT} {u : UT} {a b : TS} {ua ub : US} (hc : SndT t u) (ha : SndS I a ua) (hb : SndS I b ub) : SndS I (tIfS t a b) (uIfS u ua ub) := by
  intro σ env Z H φ D E O q k
  refine hc σ env Z H φ _ _ O q fun c env1 Z1 H1 φ1 q1 O1 r1 => ?_
  cases c with
  | true => rw [if_pos rfl] at q1 ⊢; exact ha σ env1 Z1 H1 φ1 D E O1 q1 (k.after r1 Kp.refl)
  | false => rw [if_neg Bool.false_ne_true] at q1 ⊢; exact hb σ env1 Z1 H1 φ1 D E O1 q1 (k.after r1 Kp.refl)
end
abbrev UG := D → VEnv → (VEnv → Prop) → Prop
abbrev UGs := List D → VEnv → (VEnv → Prop) → Prop
def putφ (φ : Nat → Set) (i : Nat) (G : Set) : Nat → Set := fun j a => if j = i then G a else φ j a
def SndG (I : Nat → Bool) (g : TG) (u : UG) : Prop := ∀ (σ : St) (env : VEnv) (Z : Set) (H : Hp) (φ : Nat → Set) (d : D) (v : V) (G : Set) (Q : VEnv → Prop) (K : St → Hp → Prop), Ok Z H env σ φ → Own Z H d v G → (∀ a, Uφ φ a → ¬ G a) → (∀ a, G a → ¬ Z a) → (∀ a, G a → IsM (H a)) → u d env Q →
  (∀ env' σ' Z' φ', Q env' → Ok Z' H env' σ' φ' → (∀ a, Z a → Z' a) → (∀ a, Z' a → Z a ∨ G a) → (∀ a, Uφ φ' a → Uφ φ a ∨ G a) → Kp I σ σ' → K σ' H) → g v σ H K
def SndGs (I : Nat → Bool) (g : TGs) (u : UGs) : Prop := ∀ (σ : St) (env : VEnv) (Z : Set) (H : Hp) (φ : Nat → Set) (ds : List D) (vs : List V) (G : Set) (Q : VEnv → Prop) (K : St → Hp → Prop), Ok Z H env σ φ → OwnL Z H ds vs G → (∀ a, Uφ φ a → ¬ G a) → (∀ a, G a → ¬ Z a) → (∀ a, G a → IsM (H a)) → u ds env Q →
  (∀ env' σ' Z' φ', Q env' → Ok Z' H env' σ' φ' → (∀ a, Z a → Z' a) → (∀ a, Z' a → Z a ∨ G a) → (∀ a, Uφ φ' a → Uφ φ a ∨ G a) → Kp I σ σ' → K σ' H) → g vs σ H K
def uName (i : Nat) : UG := fun d env k => i < env.length ∧ k (env.set i (some d))
def uNameF (i : Nat) : UG := fun d env k => i < env.length ∧ k (env.set i (some (frz d)))
def uGNil : UGs := fun ds env k => ds = [] ∧ k env
def uGCons (g : UG) (gs : UGs) : UGs := fun ds env k => ∃ d r, ds = d :: r ∧ g d env fun e => gs r e k
def uGTup (n : Nat) (gs : UGs) : UG := fun d env k => ∃ ds, d = .tup ds ∧ ds.length = n ∧ gs ds env k
section
variable {I : Nat → Bool} {Z : Set} {H : Hp} {env : VEnv} {σ : St} {φ : Nat → Set}
theorem Ok.put (O : Ok Z H env σ φ) {i : Nat} {d : D} {v : V} {G : Set} (ho : Own Z H d v G) (hd : ∀ a, Uφ φ a → ¬ G a) (hz : ∀ a, G a → ¬ Z a) (hm : ∀ a, G a → IsM (H a)) (hi : i < env.length) (hs : i < σ.length) : Ok Z H (env.set i (some d)) (σ.set i (some v)) (putφ φ i G) := by
  refine ⟨fun j e he => ?_, fun j k a h1 h2 => ?_, fun j a h => ?_, fun j a h => ?_, O.zh, by rw [List.length_set, List.length_set]; exact O.len⟩
  · by_cases hj : i = j
    · subst hj
      rw [List.getElem?_set_self hi] at he
      cases he
      exact ⟨v, List.getElem?_set_self hs, by unfold putφ; exact ho.mono fun a z => by rw [if_pos rfl]; exact z⟩
    · rw [List.getElem?_set_ne hj] at he
      obtain ⟨w, hw, h⟩ := O.own j e he
      exact ⟨w, by rw [List.getElem?_set_ne hj]; exact hw, h.mono fun a z => by unfold putφ; rw [if_neg (Ne.symm hj)]; exact z⟩
  · unfold putφ at h1 h2
    by_cases hj : j = i <;> by_cases hk : k = i
    · rw [hj, hk]
    · rw [if_pos hj] at h1; rw [if_neg hk] at h2; exact absurd h1 (hd a ⟨k, h2⟩)
    · rw [if_neg hj] at h1; rw [if_pos hk] at h2; exact absurd h2 (hd a ⟨j, h1⟩)
    · rw [if_neg hj] at h1; rw [if_neg hk] at h2; exact O.dj j k a h1 h2
  · unfold putφ at h
    by_cases hj : j = i
    · rw [if_pos hj] at h; exact hz a h
    · rw [if_neg hj] at h; exact O.fz j a h
  · unfold putφ at h
    by_cases hj : j = i
    · rw [if_pos hj] at h; exact hm a h
    · rw [if_neg hj] at h; exact O.fm j a h
theorem putφ_sub {i : Nat} {G : Set} (a : Addr) (h : Uφ (putφ φ i G) a) : Uφ φ a ∨ G a := by
  obtain ⟨j, h⟩ := h
  unfold putφ at h
  by_cases hj : j = i
  · rw [if_pos hj] at h; exact .inr h
  · rw [if_neg hj] at h; exact .inl ⟨j, h⟩
end
end VS
end
section
namespace VS
open PySem L2
section
variable {I : Nat → Bool} {Z : Set} {H : Hp} {env : VEnv} {σ : St} {φ : Nat → Set}
theorem Ok.zup (O : Ok Z H env σ φ) {G : Set} (h1 : ∀ a, G a → ¬ Uφ φ a) (h2 : ∀ a, G a → H a ≠ none) : Ok (fun a => Z a ∨ G a) H env σ φ :=
  ⟨fun i d e => let ⟨v, hv, h⟩ := O.own i d e; ⟨v, hv, h.zmono fun _ z => .inl z⟩, O.dj, fun i a h z => z.elim (O.fz i a h) fun z => h1 a z ⟨i, h⟩, O.fm, fun a z => z.elim (O.zh a) (h2 a), O.len⟩
theorem kp_set {i : Nat} {v : Option V} (hi : I i = false) : Kp I σ (σ.set i v) := fun j hj => List.getElem?_set_ne fun e => by rw [e, hj] at hi; cases hi
theorem snd_gname {i : Nat} (hi : I i = false) : SndG I (gName i) (uName i) := by
  intro σ env Z H φ d v G Q K O ho hd hz hm ⟨hl, q⟩ k
  exact k _ _ Z _ q (O.put ho hd hz hm hl (by rw [← O.len]; exact hl)) (fun _ z => z) (fun _ z => .inl z) putφ_sub (kp_set hi)
theorem snd_gnameF {i : Nat} (hi : I i = false) : SndG I (gName i) (uNameF i) := by
  intro σ env Z H φ d v G Q K O ho hd hz hm ⟨hl, q⟩ k
  have O2 := O.zup (G := G) (fun a z y => hd a y z) fun a z => (hm a z).ne
  exact k _ _ _ _ q (O2.put (G := E0s) ho.frz (fun _ _ z => z) (fun _ z => z.elim) (fun _ z => z.elim) hl (by rw [← O.len]; exact hl)) (fun _ z => .inl z) (fun _ z => z) (fun a z => (putφ_sub a z).imp id fun z => z.elim) (kp_set hi)
theorem snd_gnil : SndGs I gNil uGNil := fun σ env Z H φ ds vs G Q K O ho hd hz hm ⟨e, q⟩ k => by
  subst e
  exact ⟨ownL_nil.mp ho, k env σ Z φ q O (fun _ z => z) (fun _ z => .inl z) (fun _ z => .inl z) Kp.refl⟩
theorem snd_gcons {g : TG} {gs : TGs} {u : UG} {us : UGs} (h : SndG I g u) (h' : SndGs I gs us) : SndGs I (gCons g gs) (uGCons u us) := by
  intro σ env Z H φ ds vs G Q K O ho hd hz hm ⟨d, r, e, q⟩ k
  subst e
  obtain ⟨v, ws, F1, F2, rfl, h1, h2, s1, s2, dj⟩ := ownL_cons.mp ho
  refine ⟨v, ws, rfl, h σ env Z H φ d v F1 _ _ O h1 (fun a z y => hd a z (s1 a y)) (fun a z => hz a (s1 a z)) (fun a z => hm a (s1 a z)) q fun env1 σ1 Z1 φ1 q1 O1 z1 z1' f1 k1 => ?_⟩
  refine h' σ1 env1 Z1 H φ1 r ws F2 Q K O1 (h2.zmono z1) (fun a z y => (f1 a z).elim (fun z => hd a z (s2 a y)) fun z => dj a z y) (fun a z y => (z1' a y).elim (hz a (s2 a z)) fun y => dj a y z) (fun a z => hm a (s2 a z)) q1 fun env2 σ2 Z2 φ2 q2 O2 z2 z2' f2 k2 => ?_
  exact k env2 σ2 Z2 φ2 q2 O2 (fun a z => z2 a (z1 a z)) (fun a z => (z2' a z).elim (fun z => (z1' a z).imp id (s1 a)) fun z => .inr (s2 a z)) (fun a z => (f2 a z).elim (fun z => (f1 a z).imp id (s1 a)) fun z => .inr (s2 a z)) (k1.trans k2)
theorem snd_gtup {K : PySem.W.Frag} {n : Nat} {gs : TGs} {us : UGs} (h : SndGs I gs us) : SndG I (gTup K n gs) (uGTup n us) := by
  intro σ env Z H φ d v G Q K O ho hd hz hm ⟨ds, e, hn, q⟩ k
  subst e
  obtain ⟨a, vs, rfl, hr, hl⟩ := own_tup.mp ho
  exact ⟨a, vs, rfl, .inl (.inl hr), by rw [hl.length]; exact hn, h σ env Z H φ ds vs G Q K O hl hd hz hm q k⟩
def uAsg (ua : UB) (g : UG) : US := fun E env => ua env fun r e => ∃ d, r = .tmp d ∧ g d e E.nx
theorem snd_asg {t : TE} {u : UB} {g : TG} {ug : UG} (h : SndB t u) (hg : SndG I g ug) : SndS I (tAsg t g) (uAsg u ug) := by
  intro σ env Z H φ D E O q k
  refine h σ env Z H φ _ _ O q fun r env1 v Z1 H1 φ1 G ⟨d, e, q1⟩ O1 r1 ok => ?_
  subst e
  refine hg σ env1 Z1 H1 φ1 d v G _ _ O1 ok r1.d r1.gz r1.gm q1 fun env2 σ2 Z2 φ2 q2 O2 z2 z2' f2 k2 => ?_
  exact k.nx env2 σ2 Z2 H1 φ2 q2 O2 ⟨fun a z => z2 a (r1.z a z), fun a z => (z2' a z).elim (r1.zn a) fun z => .inr (r1.g a z), r1.k, fun a z => (f2 a z).elim (r1.f a) (r1.g a), fun _ z => z.elim, fun _ _ z => z, fun _ z => z.elim, fun _ z => z.elim⟩ k2
def uAug (i : Nat) (f : Int → Int → Int) (ua : UB) : US := fun E env => ∃ a, env[i]? = some (some (.int a)) ∧ ua env fun r e => ∃ b, r = .tmp (.int b) ∧ i < e.length ∧ E.nx (e.set i (some (.int (f a b))))
end
def uChain (p q : Int → Int → Bool) (ua ub uc : UB) : UB := fun env Q => ua env fun r1 e1 => ub e1 fun r2 e2 => ∃ i j, r1 = .tmp (.int i) ∧ r2 = .tmp (.int j) ∧ if p i j = true then uc e2 fun r3 e3 => ∃ k, r3 = .tmp (.int k) ∧ Q (.tmp (.bl (q j k))) e3 else Q (.tmp (.bl false)) e2
structure Kee (Z : Set) (H : Hp) (Z2 : Set) (H2 : Hp) : Prop where
  z : ∀ a, Z a → Z2 a
  k : ∀ a o, H a = some o → Z a → H2 a = some o
  t : ∀ a vs, H a = some (.tup vs) → H2 a = some (.tup vs)
theorem Kee.refl {Z : Set} {H : Hp} : Kee Z H Z H := ⟨fun _ z => z, fun _ _ e _ => e, fun _ _ e => e⟩
theorem Kee.trans {Z Z1 Z2 : Set} {H H1 H2 : Hp} (a : Kee Z H Z1 H1) (b : Kee Z1 H1 Z2 H2) : Kee Z H Z2 H2 := ⟨fun x z => b.z x (a.z x z), fun x o e z => b.k x o (a.k x o e z) (a.z x z), fun x vs e => b.t x vs (a.t x vs e)⟩
theorem Res.kee {Z Z2 : Set} {H H2 : Hp} {env : VEnv} {σ : St} {φ : Nat → Set} {F2 G : Set} (O : Ok Z H env σ φ) (r : Res Z H (Uφ φ) Z2 H2 F2 G) : Kee Z H Z2 H2 := ⟨r.z, fun a o e z => r.k a o e fun ⟨i, y⟩ => O.fz i a y z, fun a vs e => r.k a _ e fun ⟨i, y⟩ => (O.fm i a y).notup e⟩
theorem Kee.own {Z Z2 : Set} {H H2 : Hp} (k : Kee Z H Z2 H2) {d : D} {v : V} (h : Own Z H d v E0s) : Own Z2 H2 d v E0s :=
  Own.step (fun a => ¬ Z a ∧ ∀ vs, ¬ H a = some (.tup vs)) k.z (fun a o e n => by
    by_cases hz : Z a
    · exact k.k a o e hz
    · by_cases ht : ∃ vs, H a = some (.tup vs)
      · obtain ⟨vs, ht⟩ := ht
        rw [e] at ht; cases ht
        exact k.t a vs e
      · exact absurd ⟨hz, fun vs z => ht ⟨vs, z⟩⟩ n) (fun a z => z.1) (fun a vs z => z.2 vs) d (fun _ z => z) (fun _ _ z => z) h
theorem Kee.ownL {Z Z2 : Set} {H H2 : Hp} (k : Kee Z H Z2 H2) {ds : List D} {vs : List V} (h : OwnL Z H ds vs E0s) : OwnL Z2 H2 ds vs E0s :=
  OwnL.step (fun a => ¬ Z a ∧ ∀ vs, ¬ H a = some (.tup vs)) k.z (fun a o e n => by
    by_cases hz : Z a
    · exact k.k a o e hz
    · by_cases ht : ∃ vs, H a = some (.tup vs)
      · obtain ⟨vs, ht⟩ := ht
        rw [e] at ht; cases ht
        exact k.t a vs e
      · exact absurd ⟨hz, fun vs z => ht ⟨vs, z⟩⟩ n) (fun a z => z.1) (fun a vs z => z.2 vs) ds (fun _ z => z) (fun _ _ z => z) h
structure Walk (J : It) (Z : Set) (H : Hp) (items : List D) : Prop where
  stop : ∀ Z2 H2, Kee Z H Z2 H2 → J.stop items.length H2
  go : ∀ i d Z2 H2, items[i]? = some d → Kee Z H Z2 H2 → J.go i H2 ∧ ∀ x H3, J.yld i H2 x H3 → Same H2 H3 ∧ Own Z2 H3 d x E0s
abbrev UI := VEnv → (List D → VEnv → Prop) → Prop
def SndI (wi : TI) (ui : UI) : Prop := ∀ (σ : St) (env : VEnv) (Z : Set) (H : Hp) (φ : Nat → Set) (Q : List D → VEnv → Prop) (R : It → Hp → Prop), Ok Z H env σ φ → ui env Q →
  (∀ items env' Z' H' φ' J, Q items env' → Ok Z' H' env' σ φ' → Res Z H (Uφ φ) Z' H' (Uφ φ') E0s → Walk J Z' H' items → R J H') → wi σ H R
def forU (ug : UG) (ub : US) (E : UEnds) : List D → VEnv → Prop
  | [], e => E.nx e
  | x :: xs, e => ug x e fun e2 => ub { nx := forU ug ub E xs, rt := E.rt, bk := E.nx, ct := forU ug ub E xs } e2
def uFor (ui : UI) (ug : UG) (ub : US) : US := fun E env => ui env fun items e => forU ug ub E items e
theorem Res.same {Z : Set} {H H' : Hp} {F : Set} (s : Same H H') : Res Z H F Z H' F E0s := ⟨fun _ z => z, fun _ z => .inl z, fun a o e _ => s a o e, fun _ z => .inl z, fun _ z => z.elim, fun _ _ z => z, fun _ z => z.elim, fun _ z => z.elim⟩
theorem Res.tgt {Z Z' : Set} {H : Hp} {F F' : Set} (z1 : ∀ a, Z a → Z' a) (z2 : ∀ a, Z' a → Z a ∨ E0s a) (f : ∀ a, F' a → F a ∨ E0s a) : Res Z H F Z' H F' E0s := ⟨z1, fun a z => (z2 a z).elim .inl fun z => z.elim, fun _ _ e _ => e, fun a z => (f a z).imp id fun z => z.elim, fun _ z => z.elim, fun _ _ z => z, fun _ z => z.elim, fun _ z => z.elim⟩
theorem for_core {I : Nat → Bool} {J : It} {g : TG} {ug : UG} {tb : TS} {ub : US} {σ : St} {env1 : VEnv} {Z1 : Set} {H1 : Hp} {φ1 : Nat → Set} {D : UEnds} {E : Ends} {items : List VS.D} (hg : SndG I g ug) (hb : SndS I tb ub) (O1 : Ok Z1 H1 env1 σ φ1) (w : Walk J Z1 H1 items) (q1 : forU ug ub D items env1) (k1 : KEs I Z1 H1 (Uφ φ1) σ D E) :
    ∃ W : Nat → Nat → St → Hp → Prop, (∃ m, W 0 m σ H1) ∧ ∀ i m σ H, W i m σ H →
      (J.stop i H ∧ E.nx σ H) ∨ (J.go i H ∧ ∃ N : St → Hp → Prop, (∀ σ' H', N σ' H' → ∃ m', m' < m ∧ W (i + 1) m' σ' H') ∧ ∀ x H', J.yld i H x H' → g x σ H' fun σ2 H2 => tb { E with nx := N, ct := N, bk := E.nx } σ2 H2) := by
  refine ⟨fun i m σ' H' => ∃ env' Z' φ', Ok Z' H' env' σ' φ' ∧ Res Z1 H1 (Uφ φ1) Z' H' (Uφ φ') E0s ∧ Kp I σ σ' ∧ i ≤ items.length ∧ m = items.length - i ∧ forU ug ub D (items.drop i) env', ⟨items.length, env1, Z1, φ1, O1, Res.refl, Kp.refl, Nat.zero_le _, rfl, q1⟩, ?_⟩
  rintro i m σ' H' ⟨env', Z', φ', O', r', kp, hi', rfl, q'⟩
  by_cases hlt : i < items.length
  · have hd : items[i]? = some items[i] := List.getElem?_eq_getElem hlt
    obtain ⟨hgo, hy⟩ := w.go i items[i] Z' H' hd (r'.kee O1)
    refine .inr ⟨hgo, fun σ2 H2 => ∃ env' Z' φ', Ok Z' H2 env' σ2 φ' ∧ Res Z1 H1 (Uφ φ1) Z' H2 (Uφ φ') E0s ∧ Kp I σ σ2 ∧ i + 1 ≤ items.length ∧ forU ug ub D (items.drop (i + 1)) env', fun σ2 H2 ⟨env', Z', φ', a, b, c, d, e⟩ => ⟨items.length - (i + 1), by omega, env', Z', φ', a, b, c, d, rfl, e⟩, fun x H3 y => ?_⟩
    obtain ⟨s3, o3⟩ := hy x H3 y
    rw [List.drop_eq_getElem_cons hlt] at q'
    refine hg σ' env' Z' H3 φ' _ x E0s _ _ (O'.grow s3) o3 (fun _ _ z => z) (fun _ z => z.elim) (fun _ z => z.elim) q' fun env4 σ4 Z4 φ4 q4 O4 z4 z4' f4 kp4 => ?_
    have r4 : Res Z1 H1 (Uφ φ1) Z4 H3 (Uφ φ4) E0s := (r'.trans (Res.same s3)).trans (Res.tgt z4 z4' f4)
    have k4 := k1.after r4 (kp.trans kp4)
    exact hb σ4 env4 Z4 H3 φ4 _ _ O4 q4 ⟨fun e s Z5 H5 φ5 p O5 r5 kp5 => ⟨e, Z5, φ5, O5, r4.trans r5, (kp.trans kp4).trans kp5, hlt, p⟩, k4.rt, k4.nx, fun e s Z5 H5 φ5 p O5 r5 kp5 => ⟨e, Z5, φ5, O5, r4.trans r5, (kp.trans kp4).trans kp5, hlt, p⟩⟩
  · have e : i = items.length := by omega
    subst e
    rw [List.drop_length] at q'
    exact .inl ⟨w.stop Z' H' (r'.kee O1), k1.nx env' σ' Z' H' φ' q' O' r' kp⟩
theorem snd_for {I : Nat → Bool} {wi : TI} {ui : UI} {g : TG} {ug : UG} {tb : TS} {ub : US} (hi : SndI wi ui) (hg : SndG I g ug) (hb : SndS I tb ub) : SndS I (tFor wi g tb) (uFor ui ug ub) := by
  intro σ env Z H φ D E O q k
  refine hi σ env Z H φ _ _ O q fun items env1 Z1 H1 φ1 J q1 O1 r1 w => ?_
  exact for_core hg hb O1 w q1 (k.after r1 Kp.refl)
def uWhile (uc : UT) (ub : US) : US := fun E env => ∃ W : Nat → VEnv → Prop, (∃ m, W m env) ∧ ∀ m e, W m e → uc e fun b e1 => if b = true then ub { nx := fun e2 => ∃ m', m' < m ∧ W m' e2, rt := E.rt, bk := E.nx, ct := fun e2 => ∃ m', m' < m ∧ W m' e2 } e1 else E.nx e1
end VS
end
section
namespace VS
open PySem L2
section
variable {Z : Set} {H : Hp} {env : VEnv} {σ : St} {φ : Nat → Set} {a : Addr} {vs : List V} {items : List D} {K : PySem.W.Frag}
theorem Res.rd (O : Ok Z H env σ φ) {Z2 : Set} {H2 : Hp} {F2 G : Set} (r : Res Z H (Uφ φ) Z2 H2 F2 G) {u : HO} (hz : Z a) (h : Rd H a u) : Rd H2 a u := Rd.up (fun o e => r.k a o e fun ⟨i, z⟩ => O.fz i a z hz) h
theorem Res.keepL (O : Ok Z H env σ φ) {Z2 : Set} {H2 : Hp} {F2 G : Set} (r : Res Z H (Uφ φ) Z2 H2 F2 G) {ds : List D} {G1 : Set} (dj : ∀ a, Uφ φ a → ¬ G1 a) (h : OwnL Z H ds vs G1) : OwnL Z2 H2 ds vs G1 :=
  OwnL.step (Uφ φ) r.z r.k (fun a ⟨i, z⟩ => O.fz i a z) (fun a vs ⟨i, z⟩ => (O.fm i a z).notup) ds (fun _ z => z) dj h
theorem walk_list (hr : Rd H a (.lst vs)) (hz : Z a) (hl : OwnL Z H items vs E0s) : Walk (Itl K a) Z H items where
  stop := fun Z2 H2 r => ⟨vs, .inl (Rd.up (fun o e => r.k a o e hz) hr), Nat.le_of_eq hl.length⟩
  go := fun i d Z2 H2 e r => by
    have hr2 : Rd H2 a (.lst vs) := Rd.up (fun o e => r.k a o e hz) hr
    obtain ⟨v, ev, ho⟩ := (r.ownL hl).get e
    refine ⟨⟨vs, v, .inl hr2, ev⟩, fun x H3 ⟨e3, hx⟩ => ?_⟩
    subst e3
    have := hx vs (.inl hr2)
    rw [ev] at this; cases this
    exact ⟨fun _ _ e => e, ho⟩
theorem walk_tup (hr : H a = some (.tup vs)) (hl : OwnL Z H items vs E0s) : Walk (Itt K a) Z H items := by
  refine ⟨fun Z2 H2 r => ⟨vs, .inl (.inl (r.t _ _ hr)), Nat.le_of_eq hl.length⟩, fun i d Z2 H2 e r => ?_⟩
  obtain ⟨v, ev, ho⟩ := (r.ownL hl).get e
  refine ⟨⟨vs, v, .inl (.inl (r.t _ _ hr)), ev⟩, fun x H3 ⟨e3, hx⟩ => ?_⟩
  subst e3
  have := hx vs (.inl (.inl (r.t _ _ hr)))
  rw [ev] at this; cases this
  exact ⟨fun _ _ e => e, ho⟩
def intsD (lo : Int) (n : Nat) : List D := (List.range n).map fun (i : Nat) => .int (lo + i)
theorem walk_rng (lo : Int) (n : Nat) : Walk (Itr lo n) Z H (intsD lo n) where
  stop := fun Z2 H2 r => by show n ≤ _; simp [intsD]
  go := fun i d Z2 H2 e r => by
    simp only [intsD, List.getElem?_map, Option.map_eq_some_iff] at e
    obtain ⟨j, e1, rfl⟩ := e
    obtain ⟨hj, e1⟩ := List.getElem?_eq_some_iff.mp e1
    simp at e1 hj
    subst e1
    refine ⟨hj, fun x H3 ⟨e3, hx⟩ => ?_⟩
    subst e3 hx
    exact ⟨fun _ _ e => e, own_int.mpr rfl⟩
end
def itemsL (e : VEnv) : Ref → Option (List D)
  | .tmp (.lst _ ds) => some (frzL ds)
  | .var i => match e[i]? with
    | some (some (.lst false ds)) => some ds
    | _ => none
  | _ => none
def itemsT (e : VEnv) : Ref → Option (List D)
  | .tmp (.tup ds) => some (frzL ds)
  | _ => none
def uSrc (f : VEnv → Ref → Option (List D)) (ua : UB) : UI := fun env Q => ua env fun r e => ∃ ds, f e r = some ds ∧ Q ds e
theorem snd_iList {K : PySem.W.Frag} {t : TE} {u : UB} (h : SndB t u) : SndI (iList K t) (uSrc itemsL u) := by
  intro σ env Z H φ Q R O q k
  refine h σ env Z H φ _ _ O q fun r env1 v Z1 H1 φ1 G ⟨ds, e, q1⟩ O1 r1 ok => ?_
  cases r with
  | tmp d =>
    cases d <;> simp only [itemsL, reduceCtorEq, Option.some.injEq] at e
    subst e
    rename_i o ds _
    have ho : Own Z1 H1 (.lst o ds) v G := ok
    have hf := ho.frz
    simp only [frz] at hf
    obtain ⟨a, vs, rfl, hr, hz, hl⟩ := own_lstF.mp hf
    have O2 := O1.zup (G := G) (fun a z y => r1.d a y z) fun a z => (r1.gm a z).ne
    exact ⟨a, rfl, ⟨vs, .inl hr⟩, k _ env1 _ H1 φ1 _ q1 O2 ⟨fun a z => .inl (r1.z a z), fun a z => z.elim (r1.zn a) fun z => .inr (r1.g a z), r1.k, r1.f, fun _ z => z.elim, fun _ _ z => z, fun _ z => z.elim, fun _ z => z.elim⟩ (walk_list hr hz hl)⟩
  | var i =>
    simp only [itemsL] at e
    split at e <;> simp only [reduceCtorEq, Option.some.injEq] at e
    subst e
    rename_i ds he
    obtain ⟨v', hv, ho⟩ := O1.own i _ he
    have ok : σ[i]? = some (some v) := ok
    rw [hv] at ok; cases ok
    obtain ⟨a, vs, rfl, hr, hz, hl⟩ := own_lstF.mp ho
    exact ⟨a, rfl, ⟨vs, .inl hr⟩, k _ env1 _ H1 φ1 _ q1 O1 r1.drop (walk_list hr hz hl)⟩
theorem snd_iTup {K : PySem.W.Frag} {t : TE} {u : UB} (h : SndB t u) : SndI (iTup K t) (uSrc itemsT u) := by
  intro σ env Z H φ Q R O q k
  refine h σ env Z H φ _ _ O q fun r env1 v Z1 H1 φ1 G ⟨ds, e, q1⟩ O1 r1 ok => ?_
  cases r with
  | tmp d =>
    cases d <;> simp only [itemsT, reduceCtorEq, Option.some.injEq] at e
    subst e
    rename_i ds _
    have ho : Own Z1 H1 (.tup ds) v G := ok
    have hf := ho.frz
    simp only [frz] at hf
    obtain ⟨a, vs, rfl, hr, hl⟩ := own_tup.mp hf
    have O2 := O1.zup (G := G) (fun a z y => r1.d a y z) fun a z => (r1.gm a z).ne
    exact ⟨a, rfl, ⟨vs, .inl (.inl hr)⟩, k _ env1 _ H1 φ1 _ q1 O2 ⟨fun a z => .inl (r1.z a z), fun a z => z.elim (r1.zn a) fun z => .inr (r1.g a z), r1.k, r1.f, fun _ z => z.elim, fun _ _ z => z, fun _ z => z.elim, fun _ z => z.elim⟩ (walk_tup hr hl)⟩
  | var i => simp [itemsT] at e
def uRng1 (ua : UA) : UI := fun env Q => ua env fun rs e => ∃ n : Int, rs = [.tmp (.int n)] ∧ -(2 ^ 62) ≤ n ∧ n < 2 ^ 62 ∧ Q (intsD 0 n.toNat) e
theorem snd_rng1 {t : TA} {u : UA} (h : SndA t u) : SndI (iRng1 t) (uRng1 u) := by
  intro σ env Z H φ Q R O q k
  refine h σ env Z H φ _ _ O q fun rs env1 vs Z1 H1 φ1 G ⟨n, e, l, hh, q1⟩ O1 r1 ok => ?_
  subst e
  obtain ⟨v, ws, G1, G2, rfl, h1, h2, _⟩ := ok
  cases (show ws = [] from h2)
  refine ⟨n, by rw [own_int.mp (show Own Z1 H1 (.int n) v G1 from h1)], l, hh, k _ env1 Z1 H1 φ1 _ q1 O1 r1.drop (walk_rng 0 _)⟩
abbrev UX := VEnv → D → Prop
def SndX (t : TE) (u : UX) : Prop := ∀ (σ : St) (env : VEnv) (Z : Set) (H : Hp) (φ : Nat → Set) (d : D) (R : VK), Ok Z H env σ φ → u env d → (∀ v, Own Z H d v E0s → R v H) → t σ H R
def xCopy (i : Nat) : UX := fun env d => env[i]? = some (some d) ∧ bare d = true
def xC (c : D) : UX := fun _ d => d = c
theorem sx_c {v : V} (h : (match v with | .byt _ => false | .flt _ => false | .ty _ => false | _ => true) = true := by rfl) : SndX (tC v) (xC (ofV v)) := fun σ env Z H φ d R O e k => by subst e; exact k v (own_ofV h)
section
variable {Z : Set} {H H' : Hp} {env : VEnv} {σ : St} {φ : Nat → Set} {i : Nat} {d d' : D} {v : V} {G : Set} {W : Set}
theorem Ok.write (O : Ok Z H env σ φ) (hi : env[i]? = some (some d)) (hv : σ[i]? = some (some v)) (hW : ∀ a, W a → φ i a) (k : ∀ a, ¬ W a → H' a = H a) (hm : ∀ a, W a → IsM (H' a)) (g1 : ∀ a, G a → ¬ Uφ φ a) (g2 : ∀ a, G a → ¬ Z a) (g3 : ∀ a, G a → IsM (H a)) (ho : Own Z H' d' v (fun a => φ i a ∨ G a)) :
    Ok Z H' (env.set i (some d')) σ (putφ φ i fun a => φ i a ∨ G a) := by
  have hl : i < env.length := (List.getElem?_eq_some_iff.mp hi).1
  have im : ∀ a, IsM (H a) → IsM (H' a) := fun a h => by
    by_cases hw : W a
    · exact hm a hw
    · rw [k a hw]; exact h
  refine ⟨fun j e he => ?_, fun j k' a h1 h2 => ?_, fun j a h => ?_, fun j a h => ?_, fun a z => ?_, by rw [List.length_set]; exact O.len⟩
  · by_cases hj : i = j
    · subst hj
      rw [List.getElem?_set_self hl] at he
      cases he
      exact ⟨v, hv, by unfold putφ; exact ho.mono fun a z => by rw [if_pos rfl]; exact z⟩
    · rw [List.getElem?_set_ne hj] at he
      obtain ⟨w, hw, h⟩ := O.own j e he
      refine ⟨w, hw, Own.step W (fun _ z => z) (fun a o q nw => by rw [k a nw]; exact q) (fun a z => O.fz i a (hW a z)) (fun a vs z => (O.fm i a (hW a z)).notup) e (fun a z => by unfold putφ; rw [if_neg (Ne.symm hj)]; exact z) (fun a z y => hj (O.dj i j a (hW a z) y)) h⟩
  · unfold putφ at h1 h2
    by_cases hj : j = i <;> by_cases hk : k' = i
    · rw [hj, hk]
    · rw [if_pos hj] at h1; rw [if_neg hk] at h2
      rcases h1 with h1 | h1
      · exact absurd (O.dj i k' a h1 h2).symm hk
      · exact absurd ⟨k', h2⟩ (g1 a h1)
    · rw [if_neg hj] at h1; rw [if_pos hk] at h2
      rcases h2 with h2 | h2
      · exact absurd (O.dj j i a h1 h2) hj
      · exact absurd ⟨j, h1⟩ (g1 a h2)
    · rw [if_neg hj] at h1; rw [if_neg hk] at h2; exact O.dj j k' a h1 h2
  · unfold putφ at h
    by_cases hj : j = i
    · rw [if_pos hj] at h; exact h.elim (O.fz i a) (g2 a)
    · rw [if_neg hj] at h; exact O.fz j a h
  · unfold putφ at h
    by_cases hj : j = i
    · rw [if_pos hj] at h; exact im a (h.elim (O.fm i a) (g3 a))
    · rw [if_neg hj] at h; exact im a (O.fm j a h)
  · rw [k a fun w => O.fz i a (hW a w) z]; exact O.zh a z
theorem Res.write {Z0 : Set} {H0 : Hp} {F0 G1 : Set} (r : Res Z0 H0 F0 Z H (Uφ φ) G1) (hW : ∀ a, W a → φ i a) (k : ∀ a, ¬ W a → H' a = H a) (hG : ∀ a, G a → G1 a) : Res Z0 H0 F0 Z H' (Uφ (putφ φ i fun a => φ i a ∨ G a)) E0s := by
  refine ⟨r.z, r.zn, fun a o e n => ?_, fun a z => ?_, fun _ z => z.elim, fun _ _ z => z, fun _ z => z.elim, fun _ z => z.elim⟩
  · rw [k a fun w => ?_]
    · exact r.k a o e n
    · rcases r.f a ⟨i, hW a w⟩ with z | z
      · exact n z
      · rw [z] at e; cases e
  · rcases putφ_sub a z with z | z | z
    · exact r.f a z
    · exact r.f a ⟨i, z⟩
    · exact r.g a (hG a z)
theorem ownL_snoc : ∀ {ds : List D} {vs : List V} {F G : Set} {d : D} {v : V}, OwnL Z H ds vs F → Own Z H d v G → (∀ a, F a → ¬ G a) → OwnL Z H (ds ++ [d]) (vs ++ [v]) (fun a => F a ∨ G a)
  | [], vs, F, G, d, v, h, h2, dj => by
    rw [ownL_nil.mp h]
    exact ownL_cons.mpr ⟨v, [], G, E0s, rfl, h2, ownL_nil.mpr rfl, fun _ z => .inr z, fun _ z => z.elim, fun _ _ z => z⟩
  | e :: ds, vs, F, G, d, v, h, h2, dj => by
    obtain ⟨w, r, F1, F2, rfl, h1, h3, s1, s2, dj'⟩ := ownL_cons.mp h
    exact ownL_cons.mpr ⟨w, r ++ [v], F1, fun a => F2 a ∨ G a, rfl, h1, ownL_snoc h3 h2 fun a z => dj a (s2 a z), fun a z => .inl (s1 a z), fun a z => z.imp (s2 a) id, fun a z y => y.elim (dj' a z) fun y => dj a (s1 a z) y⟩
end
def uAppend (i : Nat) (ua : UA) : US := fun E env => (∃ ds, env[i]? = some (some (.lst true ds))) ∧ ua env fun rs e => ∃ d ds, rs = [.tmp d] ∧ e[i]? = some (some (.lst true ds)) ∧ ds.length ≤ 1000000 ∧ E.nx (e.set i (some (.lst true (ds ++ [d]))))
theorem snd_append {I : Nat → Bool} {K : PySem.W.Frag} {i : Nat} {t : TA} {u : UA} (h : SndA t u) : SndS I (tDrop (tBM K "list" rAppendG (tVar i) t)) (uAppend i u) := by
  intro σ env Z H φ DE E O ⟨⟨ds0, e0⟩, q⟩ k
  obtain ⟨v, hv, ho⟩ := O.own i _ e0
  obtain ⟨a, vs0, rfl, hr0, _, _⟩ := own_lstT.mp ho
  refine ⟨_, hv, .inl ⟨rfl, vs0, SqL.of hr0⟩, h σ env Z H φ _ _ O q fun rs env1 vs Z1 H1 φ1 G1 ⟨d, ds, e1, e2, hz, q1⟩ O1 r1 ok => ?_⟩
  subst e1
  obtain ⟨w, ws, Ga, Gb, rfl, h1, h2, sa, _, _⟩ := ok
  cases (show ws = [] from h2)
  obtain ⟨v', hv', ho'⟩ := O1.own i _ e2
  rw [hv] at hv'; cases hv'
  obtain ⟨a', vs', ea, hr, ha, hl⟩ := own_lstT.mp ho'
  cases ea
  have h1 : Own Z1 H1 d w Ga := h1
  have hdj : ∀ b, Uφ φ1 b → ¬ Ga b := fun b z y => r1.d b z (sa b y)
  refine ⟨a, vs', w, rfl, rfl, hr, by rw [hl.length]; exact hz, fun H3 at1 h3 => ?_⟩
  have na : ¬ Ga a := hdj a ⟨i, ha⟩
  have st : ∀ {d : D} {v : V} {F : Set}, (∀ b, F b → b ≠ a) → Own Z1 H1 d v F → Own Z1 H3 d v F := fun {d v F} hF h => Own.step (fun b => b = a) (fun _ z => z) (fun b o e n => by rw [at1 b n]; exact e) (fun b z => by rw [z]; exact O1.fz i a ha) (fun b vs z => by rw [z]; exact (O1.fm i a ha).notup) d (fun _ z => z) (fun b z y => hF b y z) h
  have stL : ∀ {d : List D} {v : List V} {F : Set}, (∀ b, F b → b ≠ a) → OwnL Z1 H1 d v F → OwnL Z1 H3 d v F := fun {d v F} hF h => OwnL.step (fun b => b = a) (fun _ z => z) (fun b o e n => by rw [at1 b n]; exact e) (fun b z => by rw [z]; exact O1.fz i a ha) (fun b vs z => by rw [z]; exact (O1.fm i a ha).notup) d (fun _ z => z) (fun b z y => hF b y z) h
  have hW : ∀ b, (fun b => b = a) b → φ1 i b := fun b z => by rw [z]; exact ha
  have hk : ∀ b, ¬ (fun b => b = a) b → H3 b = H1 b := fun b n => at1 b n
  refine k.nx _ σ Z1 H3 _ q1 (O1.write (W := fun b => b = a) (G := Ga) (d' := .lst true (ds ++ [d])) e2 hv hW hk (fun b z => by rw [z, h3]; exact trivial) (fun b z y => hdj b y z) (fun b z => r1.gz b (sa b z)) (fun b z => r1.gm b (sa b z)) (own_lstT.mpr ⟨a, _, rfl, h3, .inl ha, ?_⟩)) (r1.write hW hk sa) Kp.refl
  refine (ownL_snoc (stL (fun b z => z.2) hl) (st (fun b z y => na (by rw [← y]; exact z)) h1) fun b z y => hdj b ⟨i, z.1⟩ y).mono fun b z => ?_
  rcases z with z | z
  · exact ⟨.inl z.1, z.2⟩
  · exact ⟨.inr z, fun y => na (by rw [← y]; exact z)⟩
end VS
end
section
namespace VS
open PySem L2
abbrev USp := List D → (D → VEnv → Prop) → Prop
def spU (ms : List Bool) (m : USp) : Sp := fun vs H Q _ => vs.length = ms.length ∧ ∃ (ds : List D) (Z : Set) (φ : Nat → Set) (P : D → VEnv → Prop), ds.length = ms.length ∧ Ok Z H (ds.map some) (vs.map some) φ ∧ (∀ i a, φ i a → ms[i]? = some true) ∧ m ds P ∧
  ∀ d es v Z' H' φ' G, P d es → es.length = ms.length → Ok Z' H' es (vs.map some) φ' → Res Z H (Uφ φ) Z' H' (Uφ φ') G → (∀ i a, φ' i a → ms[i]? = some true) → Own Z' H' d v G → Q v H'
def fin (ms : List Bool) (env : VEnv) : VEnv := (List.range ms.length).map fun i => if ms[i]? = some true then env[i]?.join else none
theorem fin_len {ms : List Bool} {env : VEnv} : (fin ms env).length = ms.length := by simp [fin]
theorem fin_get {ms : List Bool} {env : VEnv} {i : Nat} {d : D} (h : (fin ms env)[i]? = some (some d)) : ms[i]? = some true ∧ env[i]? = some (some d) ∧ i < ms.length := by
  simp only [fin, List.getElem?_map, Option.map_eq_some_iff] at h
  obtain ⟨j, h1, h2⟩ := h
  obtain ⟨hj, e⟩ := List.getElem?_eq_some_iff.mp h1
  simp at e hj
  subst e
  by_cases hm : ms[i]? = some true
  · rw [if_pos hm] at h2
    refine ⟨hm, ?_, hj⟩
    cases q : env[i]? with
    | none => rw [q] at h2; cases h2
    | some o => rw [q] at h2; cases (show o = some d from h2); rfl
  · rw [if_neg hm] at h2; cases h2
def ends0 (ms : List Bool) (P : D → VEnv → Prop) : UEnds := ⟨fun e => P .non (fin ms e), fun d e => P d (fin ms e), fun _ => False, fun _ => False⟩
def start0 (n : Nat) (ds : List D) : VEnv := ds.map some ++ List.replicate n none
theorem body_ok {ms : List Bool} {m : USp} {I : Nat → Bool} {t : TS} {u : US} {N : List Str} (h : SndS I t u) (hI : ∀ i : Nat, ms[i]? = some true → I i = true) (hN : ms.length ≤ N.length) (hm : ∀ ds P, ds.length = ms.length → m ds P → u (ends0 ms P) (start0 (N.length - ms.length) ds))
    {vs : List V} {H : Hp} {Q : VK} {E : XK} (hs : spU ms m vs H Q E) : t { nx := fun _ H' => Q .non H', rt := Q } (L2.start N vs) H := by
  obtain ⟨lv, ds, Z, φ, P, ld, O, hφ, hp, k⟩ := hs
  have O0 : Ok Z H (start0 (N.length - ms.length) ds) (L2.start N vs) φ := by
    refine ⟨fun i d e => ?_, O.dj, O.fz, O.fm, O.zh, ?_⟩
    · have hi : i < ds.length := by
        refine Nat.lt_of_not_le fun hi => ?_
        unfold start0 at e
        rw [List.getElem?_append_right (by simpa using hi), List.getElem?_replicate] at e
        split at e <;> cases e
      unfold start0 at e
      rw [List.getElem?_append_left (by simpa using hi)] at e
      obtain ⟨v, hv, ho⟩ := O.own i d e
      refine ⟨v, ?_, ho⟩
      unfold L2.start
      rw [List.getElem?_append_left (by simp; omega)]
      exact hv
    · simp [start0, L2.start]; omega
  have back : ∀ env' σ' Z' H' φ', Ok Z' H' env' σ' φ' → Kp I (L2.start N vs) σ' → ∃ φ'', Ok Z' H' (fin ms env') (vs.map some) φ'' ∧ (∀ i a, φ'' i a → φ' i a) ∧ (∀ i a, φ'' i a → ms[i]? = some true) := fun env' σ' Z' H' φ' O' kp => by
    refine ⟨fun i a => φ' i a ∧ ms[i]? = some true, ⟨fun i d e => ?_, fun i j a h1 h2 => O'.dj i j a h1.1 h2.1, fun i a h1 => O'.fz i a h1.1, fun i a h1 => O'.fm i a h1.1, O'.zh, by rw [fin_len, List.length_map, lv]⟩, fun i a z => z.1, fun i a z => z.2⟩
    obtain ⟨h1, h2, h3⟩ := fin_get e
    obtain ⟨v, hv, ho⟩ := O'.own i d h2
    refine ⟨v, ?_, ho.mono fun a z => ⟨z, h1⟩⟩
    rw [kp i (hI i h1)] at hv
    unfold L2.start at hv
    rw [List.getElem?_append_left (by simp; omega)] at hv
    exact hv
  refine h _ _ Z H φ (ends0 ms P) _ O0 (hm ds P ld hp) ⟨fun env' σ' Z' H' φ' p O' r kp => ?_, fun d env' v σ' Z' H' φ' G p O' r ho kp => ?_, fun _ _ _ _ _ p _ _ _ => p.elim, fun _ _ _ _ _ p _ _ _ => p.elim⟩
  · obtain ⟨φ'', O'', s, sm⟩ := back env' σ' Z' H' φ' O' kp
    exact k .non _ .non Z' H' φ'' E0s p fin_len O'' ⟨r.z, r.zn, r.k, fun a ⟨i, z⟩ => r.f a ⟨i, s i a z⟩, fun _ z => z.elim, fun _ _ z => z, fun _ z => z.elim, fun _ z => z.elim⟩ sm (own_non.mpr rfl)
  · obtain ⟨φ'', O'', s, sm⟩ := back env' σ' Z' H' φ' O' kp
    exact k d _ v Z' H' φ'' G p fin_len O'' ⟨r.z, r.zn, r.k, fun a ⟨i, z⟩ => r.f a ⟨i, s i a z⟩, r.g, fun a ⟨i, z⟩ => r.d a ⟨i, s i a z⟩, r.gz, r.gm⟩ sm ho
def pass : List Bool → VEnv → List Ref → Option (List D)
  | [], _, [] => some []
  | false :: ms, e, r :: rs => match r.at e, pass ms e rs with
    | some d, some ds => some (frz d :: ds)
    | _, _ => none
  | true :: ms, e, .var i :: rs => match e[i]?.join, pass ms e rs with
    | some d, some ds => some (d :: ds)
    | _, _ => none
  | _, _, _ => none
def inouts : List Bool → List Ref → List Nat
  | true :: ms, .var i :: rs => i :: inouts ms rs
  | _ :: ms, _ :: rs => inouts ms rs
  | _, _ => []
def apart (io : List Nat) : List Bool → List Ref → Bool
  | false :: ms, .var i :: rs => !io.contains i && apart io ms rs
  | _ :: ms, _ :: rs => apart io ms rs
  | _, _ => true
def backs : List Bool → List Ref → VEnv → VEnv → VEnv
  | true :: ms, .var i :: rs, o :: es, e => backs ms rs es (e.set i o)
  | _ :: ms, _ :: rs, _ :: es, e => backs ms rs es e
  | _, _, _, e => e
def noFE : VEnv → Bool
  | [] => true
  | none :: r => noFE r
  | some d :: r => noF d && noFE r
def nodupB : List Nat → Bool
  | [] => true
  | i :: r => !r.contains i && nodupB r
def uCall (ms : List Bool) (m : USp) (ua : UA) : UB := fun env Q => ua env fun rs e => ∃ ds, pass ms e rs = some ds ∧ nodupB (inouts ms rs) = true ∧ apart (inouts ms rs) ms rs = true ∧ m ds fun d es => noF d = true ∧ noFE es = true ∧ Q (.tmp d) (backs ms rs es e)
theorem refs_get {Z : Set} {H : Hp} {σ : St} : ∀ {rs : List Ref} {vs : List V} {G : Set}, RefsOk Z H σ rs vs G → vs.length = rs.length ∧ ∀ (k : Nat) (r : Ref), rs[k]? = some r → ∃ v Gk, vs[k]? = some v ∧ RefOk Z H σ r v Gk ∧ ∀ a, Gk a → G a
  | [], vs, G, h => by
    cases (show vs = [] from h)
    exact ⟨rfl, fun k r e => by simp at e⟩
  | r :: rs, vs, G, h => by
    obtain ⟨v, ws, G1, G2, rfl, h1, h2, s1, s2, _⟩ := h
    obtain ⟨l, ih⟩ := refs_get h2
    refine ⟨by simp [l], fun k r' e => ?_⟩
    cases k with
    | zero => cases (show some r = some r' from e); exact ⟨v, G1, rfl, h1, s1⟩
    | succ k =>
      obtain ⟨v', Gk, e1, e2, e3⟩ := ih k r' (by simpa using e)
      exact ⟨v', Gk, by simpa using e1, e2, fun a z => s2 a (e3 a z)⟩
theorem pass_get {e : VEnv} : ∀ {ms : List Bool} {rs : List Ref} {ds : List D}, pass ms e rs = some ds → ds.length = ms.length ∧ rs.length = ms.length ∧ ∀ (k : Nat) (d : D), ds[k]? = some d → (ms[k]? = some false ∧ ∃ (r : Ref) (d0 : D), rs[k]? = some r ∧ r.at e = some d0 ∧ d = frz d0) ∨ (ms[k]? = some true ∧ ∃ i : Nat, rs[k]? = some (Ref.var i) ∧ e[i]? = some (some d))
  | [], [], ds, h => by
    cases (show some [] = some ds from h)
    exact ⟨rfl, rfl, fun k d e => by simp at e⟩
  | [], _ :: _, ds, h => by simp [pass] at h
  | false :: ms, [], ds, h => by simp [pass] at h
  | false :: ms, r :: rs, ds, h => by
    unfold pass at h
    cases e1 : r.at e with
    | none => simp [e1] at h
    | some d0 =>
      cases e2 : pass ms e rs with
      | none => simp [e1, e2] at h
      | some ds' =>
        simp only [e1, e2, Option.some.injEq] at h
        subst h
        obtain ⟨l1, l2, ih⟩ := pass_get e2
        refine ⟨by simp [l1], by simp [l2], fun k d q => ?_⟩
        cases k with
        | zero => cases (show some (frz d0) = some d from q); exact .inl ⟨rfl, r, d0, rfl, e1, rfl⟩
        | succ k => exact ih k d (by simpa using q)
  | true :: ms, [], ds, h => by simp [pass] at h
  | true :: ms, .tmp _ :: rs, ds, h => by simp [pass] at h
  | true :: ms, .var i :: rs, ds, h => by
    unfold pass at h
    cases e1 : e[i]?.join with
    | none => simp [e1] at h
    | some d0 =>
      cases e2 : pass ms e rs with
      | none => simp [e1, e2] at h
      | some ds' =>
        simp only [e1, e2, Option.some.injEq] at h
        subst h
        obtain ⟨l1, l2, ih⟩ := pass_get e2
        refine ⟨by simp [l1], by simp [l2], fun k d q => ?_⟩
        cases k with
        | zero =>
          cases (show some d0 = some d from q)
          refine .inr ⟨rfl, i, rfl, ?_⟩
          cases q : e[i]? with
          | none => rw [q] at e1; cases e1
          | some o => rw [q] at e1; cases (show o = some d0 from e1); rfl
        | succ k => exact ih k d (by simpa using q)
theorem mem_inouts {i : Nat} : ∀ {ms : List Bool} {rs : List Ref}, i ∈ inouts ms rs ↔ ∃ k : Nat, ms[k]? = some true ∧ rs[k]? = some (.var i)
  | [], rs => by simp [inouts]
  | m :: ms, [] => by cases m <;> simp [inouts]
  | m :: ms, r :: rs => by
    have ih := mem_inouts (i := i) (ms := ms) (rs := rs)
    have key : (∃ k : Nat, (m :: ms)[k]? = some true ∧ (r :: rs)[k]? = some (.var i)) ↔ (m = true ∧ r = .var i) ∨ ∃ k : Nat, ms[k]? = some true ∧ rs[k]? = some (.var i) := by
      constructor
      · rintro ⟨k, h1, h2⟩
        cases k with
        | zero => simp at h1 h2; exact .inl ⟨h1, h2⟩
        | succ k => exact .inr ⟨k, by simpa using h1, by simpa using h2⟩
      · rintro (⟨h1, h2⟩ | ⟨k, h1, h2⟩)
        · exact ⟨0, by simp [h1], by simp [h2]⟩
        · exact ⟨k + 1, by simpa using h1, by simpa using h2⟩
    rw [key, ← ih]
    cases m <;> cases r <;> simp [inouts]
    rename_i j
    exact ⟨fun h => h.imp Eq.symm id, fun h => h.imp Eq.symm id⟩
theorem inouts_inj {i : Nat} : ∀ {ms : List Bool} {rs : List Ref} {k k' : Nat}, nodupB (inouts ms rs) = true → ms[k]? = some true → rs[k]? = some (.var i) → ms[k']? = some true → rs[k']? = some (.var i) → k = k'
  | [], rs, k, k', h, a, b, c, d => by simp at a
  | m :: ms, [], k, k', h, a, b, c, d => by simp at b
  | m :: ms, r :: rs, k, k', h, a, b, c, d => by
    have tl : nodupB (inouts ms rs) = true ∧ (m = true → ∀ j, r = .var j → j ∉ inouts ms rs) := by
      cases m with
      | false => exact ⟨by cases r <;> simpa [inouts] using h, fun z => by cases z⟩
      | true =>
        cases r with
        | tmp x => exact ⟨by simpa [inouts] using h, fun _ j z => by cases z⟩
        | var x =>
          simp only [inouts, nodupB, Bool.and_eq_true, Bool.not_eq_true', List.contains_eq_mem, decide_eq_false_iff_not] at h
          exact ⟨h.2, fun _ j z => by cases z; exact h.1⟩
    cases k with
    | zero =>
      cases k' with
      | zero => rfl
      | succ k' =>
        simp at a b
        exact absurd (mem_inouts.mpr ⟨k', by simpa using c, by simpa using d⟩) (tl.2 a i b)
    | succ k =>
      cases k' with
      | zero =>
        simp at c d
        exact absurd (mem_inouts.mpr ⟨k, by simpa using a, by simpa using b⟩) (tl.2 c i d)
      | succ k' => rw [inouts_inj (ms := ms) (rs := rs) (k := k) (k' := k') tl.1 (by simpa using a) (by simpa using b) (by simpa using c) (by simpa using d)]
theorem apart_get {io : List Nat} {j : Nat} : ∀ {ms : List Bool} {rs : List Ref} {k : Nat}, apart io ms rs = true → ms[k]? = some false → rs[k]? = some (.var j) → j ∉ io
  | [], rs, k, h, a, b => by simp at a
  | m :: ms, [], k, h, a, b => by simp at b
  | m :: ms, r :: rs, k, h, a, b => by
    have tl : apart io ms rs = true ∧ (m = false → ∀ j, r = .var j → j ∉ io) := by
      cases m with
      | true => exact ⟨by cases r <;> simpa [apart] using h, fun z => by cases z⟩
      | false =>
        cases r with
        | tmp x => exact ⟨by simpa [apart] using h, fun _ j z => by cases z⟩
        | var x =>
          simp only [apart, Bool.and_eq_true, Bool.not_eq_true', List.contains_eq_mem, decide_eq_false_iff_not] at h
          exact ⟨h.2, fun _ j z => by cases z; exact h.1⟩
    cases k with
    | zero => simp at a b; exact tl.2 a j b
    | succ k => exact apart_get (ms := ms) (rs := rs) (k := k) tl.1 (by simpa using a) (by simpa using b)
theorem backs_len : ∀ {ms : List Bool} {rs : List Ref} {es e : VEnv}, (backs ms rs es e).length = e.length
  | [], _, _, _ => by simp [backs]
  | m :: ms, [], es, e => by cases m <;> simp [backs]
  | m :: ms, r :: rs, [], e => by cases m <;> cases r <;> simp [backs]
  | m :: ms, r :: rs, o :: es, e => by cases m <;> cases r <;> simp [backs, backs_len]
theorem backs_out {i : Nat} : ∀ {ms : List Bool} {rs : List Ref} {es e : VEnv}, i ∉ inouts ms rs → (backs ms rs es e)[i]? = e[i]?
  | [], _, _, _, _ => by simp [backs]
  | m :: ms, [], es, e, _ => by cases m <;> simp [backs]
  | m :: ms, r :: rs, [], e, _ => by cases m <;> cases r <;> simp [backs]
  | m :: ms, r :: rs, o :: es, e, h => by
    cases m with
    | false => cases r <;> (simp only [backs, inouts] at h ⊢; exact backs_out h)
    | true =>
      cases r with
      | tmp x => simp only [backs, inouts] at h ⊢; exact backs_out h
      | var x =>
        simp only [backs, inouts, List.mem_cons, not_or] at h ⊢
        rw [backs_out h.2, List.getElem?_set_ne (Ne.symm h.1)]
theorem backs_in {i : Nat} : ∀ {ms : List Bool} {rs : List Ref} {es e : VEnv} {k : Nat}, nodupB (inouts ms rs) = true → ms[k]? = some true → rs[k]? = some (.var i) → es.length = ms.length → i < e.length → (backs ms rs es e)[i]? = es[k]?
  | [], rs, es, e, k, h, a, b, l, hi => by simp at a
  | m :: ms, [], es, e, k, h, a, b, l, hi => by simp at b
  | m :: ms, r :: rs, [], e, k, h, a, b, l, hi => by simp at l
  | m :: ms, r :: rs, o :: es, e, 0, h, a, b, l, hi => by
    simp at a b
    subst a b
    simp only [inouts, nodupB, Bool.and_eq_true, Bool.not_eq_true', List.contains_eq_mem, decide_eq_false_iff_not] at h
    simp only [backs]
    rw [backs_out h.1, List.getElem?_set_self hi]
    rfl
  | m :: ms, r :: rs, o :: es, e, k + 1, h, a, b, l, hi => by
    have tl : nodupB (inouts ms rs) = true := by
      cases m with
      | false => cases r <;> simpa [inouts] using h
      | true =>
        cases r with
        | tmp x => simpa [inouts] using h
        | var x => simp only [inouts, nodupB, Bool.and_eq_true] at h; exact h.2
    have a' : ms[k]? = some true := by simpa using a
    have b' : rs[k]? = some (.var i) := by simpa using b
    have l' : es.length = ms.length := by simpa using l
    have e0 : (o :: es)[k + 1]? = es[k]? := by simp
    rw [e0]
    cases m with
    | false => cases r <;> (simp only [backs]; exact backs_in tl a' b' l' hi)
    | true =>
      cases r with
      | tmp x => simp only [backs]; exact backs_in tl a' b' l' hi
      | var x => simp only [backs]; exact backs_in tl a' b' l' (by rw [List.length_set]; exact hi)
theorem noFE_get : ∀ {es : VEnv} {k : Nat} {d : D}, noFE es = true → es[k]? = some (some d) → noF d = true
  | [], k, d, h, e => by simp at e
  | o :: es, 0, d, h, e => by
    cases (show some o = some (some d) from e)
    simp only [noFE, Bool.and_eq_true] at h
    exact h.1
  | o :: es, k + 1, d, h, e => by
    refine noFE_get (es := es) (k := k) ?_ (by simpa using e)
    cases o with
    | none => simpa [noFE] using h
    | some x => simp only [noFE, Bool.and_eq_true] at h; exact h.2
end VS
end
section
namespace VS
open PySem L2
theorem map_some_get {α : Type} {l : List α} {i : Nat} {o : Option α} (h : (l.map some)[i]? = some o) : ∃ x, o = some x ∧ l[i]? = some x := by
  rw [List.getElem?_map] at h
  cases e : l[i]? with
  | none => rw [e] at h; cases h
  | some x => rw [e] at h; exact ⟨x, (Option.some.inj h).symm, rfl⟩
theorem snd_call {ms : List Bool} {m : USp} {t : TA} {u : UA} (h : SndA t u) : SndB (tCall (spU ms m) [] E0 t) (uCall ms m u) := by
  intro σ env Z H φ Q R O q k
  refine h σ env Z H φ _ _ O q fun rs env1 vs Z1 H1 φ1 G1 ⟨ds, hpass, hnd, hap, q1⟩ O1 r1 ok => ?_
  rw [List.append_nil]
  obtain ⟨lv, refs⟩ := refs_get ok
  obtain ⟨l1, l2, ps⟩ := pass_get hpass
  let io := inouts ms rs
  let Fc : Set := fun a => ∃ i, i ∈ io ∧ φ1 i a
  let Zc : Set := fun a => H1 a ≠ none ∧ ¬ Fc a
  let φc : Nat → Set := fun j a => ms[j]? = some true ∧ ∃ i, rs[j]? = some (.var i) ∧ φ1 i a
  have z1c : ∀ a, Z1 a → Zc a := fun a z => ⟨O1.zh a z, fun ⟨i, _, y⟩ => O1.fz i a y z⟩
  have eF : ∀ a, Uφ φc a ↔ Fc a := fun a => ⟨fun ⟨j, h1, i, h2, h3⟩ => ⟨i, mem_inouts.mpr ⟨j, h1, h2⟩, h3⟩, fun ⟨i, hi, h3⟩ => let ⟨j, h1, h2⟩ := mem_inouts.mp hi; ⟨j, h1, i, h2, h3⟩⟩
  have FcU : ∀ a, Fc a → Uφ φ1 a := fun a ⟨i, _, z⟩ => ⟨i, z⟩
  have Oc : Ok Zc H1 (ds.map some) (vs.map some) φc := by
    refine ⟨fun j d e => ?_, fun j j' a ⟨h1, i, h2, h3⟩ ⟨h1', i', h2', h3'⟩ => ?_, fun j a h z => z.2 ((eF a).mp ⟨j, h⟩), fun j a ⟨_, i, _, z⟩ => O1.fm i a z, fun a z => z.1, by simp [l1, l2, lv]⟩
    · obtain ⟨x, ex, e⟩ := map_some_get e
      cases ex
      rcases ps j d e with ⟨hm, r, d0, hr, hat, rfl⟩ | ⟨hm, i, hr, he⟩
      · obtain ⟨v, Gk, hv, ho, hs⟩ := refs j r hr
        refine ⟨v, by rw [List.getElem?_map, hv]; rfl, ?_⟩
        cases r with
        | tmp d1 =>
          obtain rfl : d1 = d0 := Option.some.inj hat
          have ho : Own Z1 H1 d1 v Gk := ho
          exact (ho.frz.zmono fun a z => z.elim (z1c a) fun z => ⟨(r1.gm a (hs a z)).ne, fun y => r1.d a (FcU a y) (hs a z)⟩).mono fun _ z => z.elim
        | var i =>
          have hat : env1[i]?.join = some d0 := hat
          have he : env1[i]? = some (some d0) := by
            cases q : env1[i]? with
            | none => rw [q] at hat; cases hat
            | some o => rw [q] at hat; cases (show o = some d0 from hat); rfl
          obtain ⟨v', hv', ho'⟩ := O1.own i d0 he
          have ho : σ[i]? = some (some v) := ho
          rw [hv'] at ho; cases ho
          have nio := apart_get hap hm hr
          exact (ho'.frz.zmono fun a z => z.elim (z1c a) fun z => ⟨(O1.fm i a z).ne, fun ⟨i', hi', y⟩ => nio (by rw [O1.dj i i' a z y]; exact hi')⟩).mono fun _ z => z.elim
      · obtain ⟨v, Gk, hv, ho, hs⟩ := refs j _ hr
        refine ⟨v, by rw [List.getElem?_map, hv]; rfl, ?_⟩
        obtain ⟨v', hv', ho'⟩ := O1.own i d he
        have ho : σ[i]? = some (some v) := ho
        rw [hv'] at ho; cases ho
        exact (ho'.zmono z1c).mono fun a z => ⟨hm, i, hr, z⟩
    · have e := O1.dj i i' a h3 h3'
      subst e
      exact inouts_inj hnd h1 h2 h1' h2'
  refine ⟨by rw [lv, l2], ds, Zc, φc, _, l1, Oc, fun j a ⟨z, _⟩ => z, q1, ?_⟩
  rintro d es v Zc' H' φc' G ⟨nf, nfe, q2⟩ les Oc' rc sm ho
  have rcf : ∀ a, Uφ φc' a → Fc a ∨ H1 a = none := fun a z => (rc.f a z).imp (eF a).mp id
  have rcg : ∀ a, G a → Fc a ∨ H1 a = none := fun a z => (rc.g a z).imp (eF a).mp id
  have rck : ∀ a o, H1 a = some o → ¬ Fc a → H' a = some o := fun a o e n => rc.k a o e fun z => n ((eF a).mp z)
  let φ2 : Nat → Set := fun i a => (i ∉ io ∧ φ1 i a) ∨ ∃ j, ms[j]? = some true ∧ rs[j]? = some (.var i) ∧ φc' j a
  have nz : ∀ a, Fc a ∨ H1 a = none → ¬ Z1 a := fun a z y => z.elim (fun ⟨i, _, z⟩ => O1.fz i a z y) (O1.zh a y)
  have n1 : ∀ i a, i ∉ io → φ1 i a → ¬ (Fc a ∨ H1 a = none) := fun i a hi z y => y.elim (fun ⟨i', hi', y⟩ => hi (by rw [O1.dj i i' a z y]; exact hi')) (O1.fm i a z).ne
  have O2 : Ok Z1 H' (backs ms rs es env1) σ φ2 := by
    refine ⟨fun i d' e => ?_, fun i j a z1 z2 => ?_, fun i a z => ?_, fun i a z => ?_, fun a z y => ?_, by rw [backs_len]; exact O1.len⟩
    · by_cases hi : i ∈ io
      · obtain ⟨j, h1, h2⟩ := mem_inouts.mp hi
        have hl : i < env1.length := by rw [← backs_len (ms := ms) (rs := rs) (es := es)]; exact (List.getElem?_eq_some_iff.mp e).1
        rw [backs_in hnd h1 h2 les hl] at e
        obtain ⟨w, hw, ho'⟩ := Oc'.own j d' e
        obtain ⟨v', Gk, hv, hr, _⟩ := refs j _ h2
        rw [List.getElem?_map, hv] at hw
        obtain rfl : v' = w := Option.some.inj (Option.some.inj hw)
        exact ⟨v', hr, (Own.noF d' (noFE_get nfe e) ho').mono fun a z => .inr ⟨j, h1, h2, z⟩⟩
      · rw [backs_out hi] at e
        obtain ⟨w, hw, ho'⟩ := O1.own i d' e
        refine ⟨w, hw, Own.step Fc (fun _ z => z) rck (fun a ⟨i', _, z⟩ => O1.fz i' a z) (fun a vs ⟨i', _, z⟩ => (O1.fm i' a z).notup) d' (fun a z => .inl ⟨hi, z⟩) (fun a z y => n1 i a hi y (.inl z)) ho'⟩
    · rcases z1 with ⟨hi, z1⟩ | ⟨j1, a1, b1, z1⟩ <;> rcases z2 with ⟨hj, z2⟩ | ⟨j2, a2, b2, z2⟩
      · exact O1.dj i j a z1 z2
      · exact absurd (rcf a ⟨j2, z2⟩) (n1 i a hi z1)
      · exact absurd (rcf a ⟨j1, z1⟩) (n1 j a hj z2)
      · have e := Oc'.dj j1 j2 a z1 z2
        subst e
        rw [b1] at b2
        cases b2; rfl
    · rcases z with ⟨hi, z⟩ | ⟨j, _, _, z⟩
      · exact O1.fz i a z
      · exact nz a (rcf a ⟨j, z⟩)
    · rcases z with ⟨hi, z⟩ | ⟨j, _, _, z⟩
      · exact (O1.fm i a z).up fun o e => rck a o e fun y => n1 i a hi z (.inl y)
      · exact Oc'.fm j a z
    · cases e : H1 a with
      | none => exact O1.zh a z e
      | some o => rw [rck a o e fun y => nz a (.inl y) z] at y; cases y
  have f2 : ∀ a, Uφ φ2 a → Uφ φ1 a ∨ H1 a = none := fun a ⟨i, z⟩ => by
    rcases z with ⟨hi, z⟩ | ⟨j, _, _, z⟩
    · exact .inl ⟨i, z⟩
    · exact (rcf a ⟨j, z⟩).imp (FcU a) id
  refine k (.tmp d) _ v Z1 H' φ2 G q2 O2 ⟨r1.z, r1.zn, fun a o e n => ?_, fun a z => r1.kn (f2 a z), fun a z => r1.kn ((rcg a z).imp (FcU a) id), fun a ⟨i, z⟩ y => ?_, fun a z => nz a (rcg a z), rc.gm⟩ (show Own Z1 H' d v G from Own.noF d nf ho)
  · refine rck a o (r1.k a o e n) fun z => ?_
    rcases r1.f a (FcU a z) with z | z
    · exact n z
    · rw [z] at e; cases e
  · rcases z with ⟨hi, z⟩ | ⟨j, _, _, z⟩
    · exact n1 i a hi z (rcg a y)
    · exact rc.d a ⟨j, z⟩ y
end VS
end
section
namespace VS
open PySem L2
class Acc (α : Type) where
  vals : α → List D
  is : α → HO → List V → Prop
  isM : ∀ {a u vs}, is a u vs → IsM (some u)
instance : Acc (List D) := ⟨id, fun _ u vs => u = .lst vs, fun h => by subst h; exact trivial⟩
structure CS {α : Type} [Acc α] (I : Nat → Bool) (Z1 : Set) (H1 : Hp) (F1 : Set) (τ0 : St) (p : Addr) (acc : α) (e : VEnv) (τ : St) (H : Hp) (Z : Set) (φ : Nat → Set) (A : Set) (vs : List V) : Prop where
  ok : Ok Z H e τ φ
  res : Res Z1 H1 F1 Z H (Uφ φ) (fun a => A a ∨ a = p)
  at_ : ∃ u, H p = some u ∧ Acc.is acc u vs
  own : OwnL Z H (Acc.vals acc) vs A
  np : ¬ A p
  kp : Kp I τ0 τ
abbrev UL (α : Type) := α → VEnv → (α → VEnv → Prop) → Prop
def SndL {α : Type} [Acc α] (I : Nat → Bool) (p : Addr) (tl : TL) (ul : UL α) : Prop := ∀ (Z1 : Set) (H1 : Hp) (F1 : Set) (τ0 : St) (acc : α) (e : VEnv) (τ : St) (H : Hp) (Z : Set) (φ : Nat → Set) (A : Set) (vs : List V) (k : α → VEnv → Prop) (K : St → Hp → Prop),
  CS I Z1 H1 F1 τ0 p acc e τ H Z φ A vs → ul acc e k → (∀ acc' e' τ' H' Z' φ' A' vs', k acc' e' → CS I Z1 H1 F1 τ0 p acc' e' τ' H' Z' φ' A' vs' → Kee Z H Z' H' → K τ' H') → tl K τ H
section
variable {α : Type} [Acc α] {I : Nat → Bool} {Z1 Z Z2 : Set} {H1 H H2 : Hp} {F1 : Set} {τ0 τ τ2 : St} {p : Addr} {acc acc2 : α} {e e2 : VEnv} {φ φ2 : Nat → Set} {A G2 : Set} {vs : List V}
theorem CS.next (c : CS I Z1 H1 F1 τ0 p acc e τ H Z φ A vs) (O2 : Ok Z2 H2 e2 τ2 φ2) (r : Res Z H (Uφ φ) Z2 H2 (Uφ φ2) E0s) (kp : Kp I τ τ2) : CS I Z1 H1 F1 τ0 p acc e2 τ2 H2 Z2 φ2 A vs := by
  have q := (c.res.seq r).1
  have e : (fun a => (A a ∨ a = p) ∨ E0s a) = fun a => A a ∨ a = p := by funext a; exact propext ⟨fun z => z.elim id fun z => z.elim, .inl⟩
  rw [e] at q
  exact ⟨O2, q, let ⟨u, hu, ha⟩ := c.at_; ⟨u, r.k p _ hu fun z => c.res.d p z (.inr rfl), ha⟩, r.keepL c.ok (fun a z y => c.res.d a z (.inl y)) c.own, c.np, c.kp.trans kp⟩
theorem CS.emit (c : CS I Z1 H1 F1 τ0 p acc e τ H Z φ A vs) (O2 : Ok Z2 H2 e2 τ φ2) (r : Res Z H (Uφ φ) Z2 H2 (Uφ φ2) G2) {d : D} {v : V} {vs2 : List V} (ho : Own Z2 H2 d v G2) {H3 : Hp} {u3 : HO} (at1 : ∀ b, b ≠ p → H3 b = H2 b) (h3 : H3 p = some u3) (a3 : Acc.is acc2 u3 vs2)
    (own : ∀ {A G : Set}, OwnL Z2 H3 (Acc.vals acc) vs A → Own Z2 H3 d v G → (∀ a, A a → ¬ G a) → OwnL Z2 H3 (Acc.vals acc2) vs2 (fun a => A a ∨ G a)) :
    CS I Z1 H1 F1 τ0 p acc2 e2 τ H3 Z2 φ2 (fun a => A a ∨ G2 a) vs2 := by
  obtain ⟨q, dj⟩ := c.res.seq r
  obtain ⟨u, hu, hacc⟩ := c.at_
  have hp2 : H2 p = some u := r.k p _ hu fun z => c.res.d p z (.inr rfl)
  have mp2 : IsM (H2 p) := by rw [hp2]; exact Acc.isM hacc
  have nφ : ¬ Uφ φ2 p := fun z => q.d p z (.inl (.inr rfl))
  have nz : ¬ Z2 p := fun z => q.gz p (.inl (.inr rfl)) z
  have nG : ¬ G2 p := dj p (.inr rfl)
  have st : ∀ {d : D} {v : V} {F : Set}, ¬ F p → Own Z2 H2 d v F → Own Z2 H3 d v F := fun {d v F} hF h => Own.step (fun b => b = p) (fun _ z => z) (fun b o e n => by rw [at1 b n]; exact e) (fun b z => by rw [z]; exact nz) (fun b vs z => by rw [z]; exact mp2.notup) d (fun _ z => z) (fun b z y => hF (by rw [← z]; exact y)) h
  have stL : ∀ {d : List D} {v : List V} {F : Set}, ¬ F p → OwnL Z2 H2 d v F → OwnL Z2 H3 d v F := fun {d v F} hF h => OwnL.step (fun b => b = p) (fun _ z => z) (fun b o e n => by rw [at1 b n]; exact e) (fun b z => by rw [z]; exact nz) (fun b vs z => by rw [z]; exact mp2.notup) d (fun _ z => z) (fun b z y => hF (by rw [← z]; exact y)) h
  have im : ∀ a, IsM (H2 a) → IsM (H3 a) := fun a h => by
    by_cases ha : a = p
    · rw [ha, h3]; exact Acc.isM a3
    · rw [at1 a ha]; exact h
  refine ⟨⟨fun i d e => let ⟨w, hw, h⟩ := O2.own i d e; ⟨w, hw, st (fun z => nφ ⟨i, z⟩) h⟩, O2.dj, O2.fz, fun i a h => im a (O2.fm i a h), fun a z => ?_, O2.len⟩, ⟨q.z, q.zn, fun a o e n => ?_, q.f, fun a z => ?_, fun a z y => ?_, fun a z => ?_, fun a z => ?_⟩, ⟨u3, h3, a3⟩, ?_, fun z => z.elim c.np nG, c.kp⟩
  · rw [at1 a fun y => nz (by rw [← y]; exact z)]; exact O2.zh a z
  · have ha : a ≠ p := fun y => by
      rcases q.g a (.inl (.inr y)) with z | z
      · exact n z
      · rw [z] at e; cases e
    rw [at1 a ha]; exact q.k a o e n
  · refine q.g a ?_
    rcases z with (z | z) | z
    · exact .inl (.inl z)
    · exact .inr z
    · exact .inl (.inr z)
  · refine q.d a z ?_
    rcases y with (z | z) | z
    · exact .inl (.inl z)
    · exact .inr z
    · exact .inl (.inr z)
  · refine q.gz a ?_
    rcases z with (z | z) | z
    · exact .inl (.inl z)
    · exact .inr z
    · exact .inl (.inr z)
  · refine im a (q.gm a ?_)
    rcases z with (z | z) | z
    · exact .inl (.inl z)
    · exact .inr z
    · exact .inl (.inr z)
  · exact own (stL c.np (r.keepL c.ok (fun a z y => c.res.d a z (.inl y)) c.own)) (st nG ho) fun a z => dj a (.inl z)
theorem CS.kee (c : CS I Z1 H1 F1 τ0 p acc e τ H Z φ A vs) {H3 : Hp} (r : Kee Z H Z2 H2) (nz : ¬ Z2 p) (hp : ∀ vs, ¬ H2 p = some (.tup vs)) (at1 : ∀ b, b ≠ p → H3 b = H2 b) : Kee Z H Z2 H3 :=
  r.trans ⟨fun _ z => z, fun a o e z => by rw [at1 a fun y => nz (by rw [← y]; exact z)]; exact e, fun a vs e => by rw [at1 a fun y => hp vs (by rw [← y]; exact e)]; exact e⟩
end
def emitU (ue : UB) : UL (List D) := fun acc e k => ue e fun r e4 => ∃ d, r = .tmp d ∧ acc.length ≤ 1000000 ∧ k (acc ++ [d]) e4
theorem snd_emit {I : Nat → Bool} {p : Addr} {te : TE} {ue : UB} (h : SndB te ue) : SndL I p (tEmit te p) (emitU ue) := by
  intro Z1 H1 F1 τ0 acc e τ H Z φ A vs k K c q kk
  refine h τ e Z H φ _ _ c.ok q fun r e4 v Z4 H4 φ4 G4 ⟨d, er, hz, q4⟩ O4 r4 ok4 => ?_
  subst er
  obtain ⟨u4, hu4, rfl⟩ := c.at_
  have hp4 : H4 p = some (.lst vs) := r4.k p _ hu4 fun z => c.res.d p z (.inr rfl)
  have q := (c.res.seq r4).1
  refine ⟨vs, hp4, by rw [c.own.length]; exact hz, fun H5 at1 h5 => ?_⟩
  exact kk _ e4 τ H5 Z4 φ4 _ _ q4 (c.emit (acc2 := acc ++ [d]) O4 r4 ok4 at1 h5 rfl ownL_snoc) (c.kee (r4.kee c.ok) (fun z => q.gz p (.inl (.inr rfl)) z) (fun vs' z => by rw [hp4] at z; cases z) at1)
def loopU {α : Type} (ug : UG) (ut : UT) (inner : UL α) (k : α → VEnv → Prop) : List D → α → VEnv → Prop
  | [], acc, e => k acc e
  | x :: xs, acc, e => ug x e fun e2 => ut e2 fun b e3 => if b = true then inner acc e3 (loopU ug ut inner k xs) else loopU ug ut inner k xs acc e3
theorem snd_loopC {α : Type} [Acc α] {I : Nat → Bool} {p : Addr} {J : It} {g : TG} {ug : UG} {tt : TT} {ut : UT} {tl : TL} {ul : UL α} (hg : SndG I g ug) (ht : SndT tt ut) (hl : SndL I p tl ul) {Z1 : Set} {H1 : Hp} {F1 : Set} {τ0 : St} {acc : α} {e : VEnv} {τ : St} {H : Hp} {Z : Set} {φ : Nat → Set} {A : Set} {vs : List V} {items : List D} {k : α → VEnv → Prop} {K : St → Hp → Prop}
    (c : CS I Z1 H1 F1 τ0 p acc e τ H Z φ A vs) (w : Walk J Z H items) (q : loopU ug ut ul k items acc e) (kk : ∀ acc' e' τ' H' Z' φ' A' vs', k acc' e' → CS I Z1 H1 F1 τ0 p acc' e' τ' H' Z' φ' A' vs' → Kee Z H Z' H' → K τ' H') : loopC J g tt tl K τ H := by
  refine ⟨fun i m τ' H' => ∃ acc' e' Z' φ' A' vs', CS I Z1 H1 F1 τ0 p acc' e' τ' H' Z' φ' A' vs' ∧ Kee Z H Z' H' ∧ i ≤ items.length ∧ m = items.length - i ∧ loopU ug ut ul k (items.drop i) acc' e', ⟨items.length, acc, e, Z, φ, A, vs, c, Kee.refl, Nat.zero_le _, rfl, q⟩, ?_⟩
  rintro i m τ' H' ⟨acc', e', Z', φ', A', vs', c', ke, hi, rfl, q'⟩
  by_cases hlt : i < items.length
  · have hd : items[i]? = some items[i] := List.getElem?_eq_getElem hlt
    obtain ⟨hgo, hy⟩ := w.go i items[i] Z' H' hd ke
    refine .inr ⟨hgo, fun τ2 H2 => ∃ acc' e' Z' φ' A' vs', CS I Z1 H1 F1 τ0 p acc' e' τ2 H2 Z' φ' A' vs' ∧ Kee Z H Z' H2 ∧ i + 1 ≤ items.length ∧ loopU ug ut ul k (items.drop (i + 1)) acc' e', fun τ2 H2 ⟨acc', e', Z', φ', A', vs', a, b, c, d⟩ => ⟨items.length - (i + 1), by omega, acc', e', Z', φ', A', vs', a, b, c, rfl, d⟩, fun x H3 y => ?_⟩
    obtain ⟨s3, o3⟩ := hy x H3 y
    rw [List.drop_eq_getElem_cons hlt] at q'
    have c3 := c'.next (c'.ok.grow s3) (Res.same s3) Kp.refl
    have ke3 : Kee Z H Z' H3 := ke.trans ⟨fun _ z => z, fun a o e _ => s3 a o e, fun a vs e => s3 a _ e⟩
    refine hg τ' e' Z' H3 φ' _ x E0s _ _ c3.ok o3 (fun _ _ z => z) (fun _ z => z.elim) (fun _ z => z.elim) q' fun e4 τ4 Z4 φ4 q4 O4 z4 z4' f4 kp4 => ?_
    have r4 : Res Z' H3 (Uφ φ') Z4 H3 (Uφ φ4) E0s := Res.tgt z4 z4' f4
    have c4 := c3.next O4 r4 kp4
    have ke4 := ke3.trans (r4.kee c3.ok)
    refine ht τ4 e4 Z4 H3 φ4 _ _ O4 q4 fun b e5 Z5 H5 φ5 q5 O5 r5 => ?_
    have c5 := c4.next O5 r5 Kp.refl
    have ke5 := ke4.trans (r5.kee O4)
    cases b with
    | true =>
      rw [if_pos rfl] at q5 ⊢
      exact hl Z1 H1 F1 τ0 _ e5 τ4 H5 Z5 φ5 _ _ _ _ c5 q5 fun acc6 e6 τ6 H6 Z6 φ6 A6 vs6 q6 c6 k6 => ⟨acc6, e6, Z6, φ6, A6, vs6, c6, ke5.trans k6, hlt, q6⟩
    | false =>
      rw [if_neg Bool.false_ne_true] at q5 ⊢
      exact ⟨_, e5, Z5, φ5, _, _, c5, ke5, hlt, q5⟩
  · have ei : i = items.length := by omega
    subst ei
    rw [List.drop_length] at q'
    exact .inl ⟨w.stop Z' H' ke, kk _ e' τ' H' Z' φ' A' vs' q' c' ke⟩
def clauseU {α : Type} (ui : UI) (ug : UG) (ut : UT) (inner : UL α) : UL α := fun acc e k => ui e fun items e1 => loopU ug ut inner k items acc e1
def uYes : UT := fun env Q => Q true env
theorem snd_yes : SndT tYes uYes := fun σ env Z H φ Q R O q k => k true env Z H φ q O Res.refl
def uComp (n : Nat) (ui : UI) (ug : UG) (ut : UT) (ul : UL (List D)) : UB := fun env Q => ui env fun items e => loopU ug ut ul (fun acc e' => Q (.tmp (.lst true acc)) (e'.drop n)) items [] (List.replicate n none ++ e)
def outs (n : Nat) : Nat → Bool := fun i => decide (n ≤ i)
theorem comp_core {α : Type} [Acc α] {n : Nat} {g : TG} {ug : UG} {tt : TT} {ut : UT} {tl : TL} {ul : UL α} {acc0 : α} {u0 : HO} (e0 : Acc.vals acc0 = []) (a0 : Acc.is acc0 u0 []) (fin : α → D) (hfin : ∀ {acc u vs Z H A p}, H p = some u → Acc.is acc u vs → OwnL Z H (Acc.vals acc) vs A → ¬ A p → Own Z H (fin acc) (.ref p) (fun a => A a ∨ a = p)) (hg : SndG (outs n) g ug) (ht : SndT tt ut) {p : Addr} (hl : SndL (outs n) p tl ul)
    {J : It} {σ : St} {e1 : VEnv} {Z1 : Set} {H1 : Hp} {φ1 : Nat → Set} {items : List D} {Q : α → VEnv → Prop} {R : VK} (O1 : Ok Z1 H1 e1 σ φ1) (w : Walk J Z1 H1 items) (q1 : loopU ug ut ul Q items acc0 (List.replicate n none ++ e1))
    (k : ∀ acc e' Z' H' φ' G, Q acc e' → Ok Z' H' (e'.drop n) σ φ' → Res Z1 H1 (Uφ φ1) Z' H' (Uφ φ') G → Own Z' H' (fin acc) (.ref p) G → R (.ref p) H') :
    ∀ H2, H1 p = none → Same H1 H2 → H2 p = some u0 → (∀ b, b ≠ p → H2 b = H1 b) → loopC J g tt tl (fun _ H' => R (.ref p) H') (List.replicate n none ++ σ) H2 := by
  intro H2 hn hs hp hat
  let φ2 : Nat → Set := fun i a => ∃ j, i = n + j ∧ φ1 j a
  have U2 : ∀ a, Uφ φ2 a ↔ Uφ φ1 a := fun a => ⟨fun ⟨i, j, _, z⟩ => ⟨j, z⟩, fun ⟨j, z⟩ => ⟨n + j, j, rfl, z⟩⟩
  have O2 : Ok Z1 H2 (List.replicate n none ++ e1) (List.replicate n none ++ σ) φ2 := by
    have g1 := O1.grow hs
    refine ⟨fun i d e => ?_, fun i j a ⟨i', e1, z1⟩ ⟨j', e2, z2⟩ => ?_, fun i a ⟨j, _, z⟩ => g1.fz j a z, fun i a ⟨j, _, z⟩ => g1.fm j a z, g1.zh, by simp [O1.len]⟩
    · have hi : n ≤ i := by
        refine Nat.le_of_not_lt fun hi => ?_
        rw [List.getElem?_append_left (by simpa using hi), List.getElem?_replicate] at e
        split at e <;> cases e
      rw [List.getElem?_append_right (by simpa using hi), List.length_replicate] at e
      obtain ⟨v, hv, ho⟩ := g1.own _ d e
      exact ⟨v, by rw [List.getElem?_append_right (by simpa using hi), List.length_replicate]; exact hv, ho.mono fun a z => ⟨i - n, by omega, z⟩⟩
    · rw [e1, e2, g1.dj i' j' a z1 z2]
  have c0 : CS (outs n) Z1 H1 (Uφ φ1) (List.replicate n none ++ σ) p acc0 (List.replicate n none ++ e1) (List.replicate n none ++ σ) H2 Z1 φ2 E0s [] := by
    refine ⟨O2, ⟨fun _ z => z, fun _ z => .inl z, fun a o e _ => hs a o e, fun a z => .inl ((U2 a).mp z), fun a z => ?_, fun a z y => ?_, fun a z y => ?_, fun a z => ?_⟩, ⟨u0, hp, a0⟩, by rw [e0]; exact ownL_nil.mpr rfl, fun z => z, Kp.refl⟩
    · rcases z with z | z
      · exact z.elim
      · rw [z]; exact .inr hn
    · rcases y with y | y
      · exact y
      · obtain ⟨j, z⟩ := (U2 a).mp z
        exact (O1.fm j a z).ne (by rw [y]; exact hn)
    · rcases z with z | z
      · exact z
      · exact O1.zh a y (by rw [z]; exact hn)
    · rcases z with z | z
      · exact z.elim
      · rw [z, hp]; exact Acc.isM a0
  have w2 : Walk J Z1 H2 items := ⟨fun Z3 H3 r => w.stop Z3 H3 (Kee.trans ⟨fun _ z => z, fun a o e _ => hs a o e, fun a vs e => hs a _ e⟩ r), fun i d Z3 H3 e r => w.go i d Z3 H3 e (Kee.trans ⟨fun _ z => z, fun a o e _ => hs a o e, fun a vs e => hs a _ e⟩ r)⟩
  refine snd_loopC hg ht hl c0 w2 q1 fun acc e' τ' H' Z' φ' A vs q' c _ => ?_
  have hτ : ∀ j : Nat, τ'[n + j]? = σ[j]? := fun j => by
    rw [c.kp (n + j) (decide_eq_true (Nat.le_add_right _ _)), List.getElem?_append_right (by simp), List.length_replicate]
    congr 1; omega
  have eτ : τ'.drop n = σ := List.ext_getElem? fun j => by rw [List.getElem?_drop]; exact hτ j
  have U3 : ∀ a, (∃ j, φ' (n + j) a) → Uφ φ' a := fun a ⟨j, z⟩ => ⟨n + j, z⟩
  have O3 : Ok Z' H' (e'.drop n) σ (fun j => φ' (n + j)) := by
    refine ⟨fun j d e => ?_, fun i j a z1 z2 => by have := c.ok.dj _ _ a z1 z2; omega, fun j a z => c.ok.fz _ a z, fun j a z => c.ok.fm _ a z, c.ok.zh, ?_⟩
    · rw [List.getElem?_drop] at e
      obtain ⟨v, hv, ho⟩ := c.ok.own _ d e
      exact ⟨v, by rw [← hτ]; exact hv, ho⟩
    · rw [List.length_drop, c.ok.len, ← eτ, List.length_drop]
  have rr : Res Z1 H1 (Uφ φ1) Z' H' (Uφ fun j => φ' (n + j)) (fun a => A a ∨ a = p) := ⟨c.res.z, c.res.zn, c.res.k, fun a z => c.res.f a (U3 a z), c.res.g, fun a z => c.res.d a (U3 a z), c.res.gz, c.res.gm⟩
  obtain ⟨u, hu, ha⟩ := c.at_
  exact k acc e' Z' H' _ _ q' O3 rr (hfin hu ha c.own c.np)
theorem snd_comp0 {α : Type} [Acc α] {X : Cx} {sc : Scope} {N : List Str} {tg : Expr} {ifs : List Expr} {inner : Value → PySem.Env → Sem Unit} {n : Nat} {wi : TI} {ui : UI} {ug : UG} {ut : UT} {ul : UL α} {acc0 : α} {u0 : HO} (e0 : Acc.vals acc0 = []) (a0 : Acc.is acc0 u0 []) (fin : α → D) (hfin : ∀ {acc u vs Z H A p}, H p = some u → Acc.is acc u vs → OwnL Z H (Acc.vals acc) vs A → ¬ A p → Own Z H (fin acc) (.ref p) (fun a => A a ∨ a = p)) (hi : SndI wi ui) (hb : ∀ C s H0 fp pins p, ∃ g tt tl, PG (blk X sc N C s H0 fp pins) tg g ∧ PTs (blk X sc N C s H0 fp pins) ifs tt ∧ PN (blk X sc N C s H0 fp pins) (inner (.ref p) (blk X sc N C s H0 fp pins).env) tl ∧ SndG (outs n) g ug ∧ SndT tt ut ∧ SndL (outs n) p tl ul) :
    SndB (tCompF X sc N tg ifs inner u0 n wi) (fun env Q => ui env fun items e => loopU ug ut ul (fun acc e' => Q (.tmp (fin acc)) (e'.drop n)) items acc0 (List.replicate n none ++ e)) := by
  intro σ env Z H φ Q R O q k
  refine hi σ env Z H φ _ _ O q fun items e1 Z1 H1 φ1 J q1 O1 r1 w => ?_
  intro p H2 hn hs hp hat C s H0 fp pins
  obtain ⟨g, tt, tl, a1, a2, a3, hg, ht, hl⟩ := hb C s H0 fp pins p
  exact ⟨g, tt, tl, a1, a2, a3, comp_core e0 a0 fin hfin hg ht hl O1 w q1 (fun acc e' Z' H' φ' G q' O' r' ho => k (.tmp (fin acc)) _ (.ref p) Z' H' φ' G q' O' (r1.trans r') ho) H2 hn hs hp hat⟩
theorem snd_comp {X : Cx} {sc : Scope} {N : List Str} {tg : Expr} {ifs : List Expr} {inner : Value → PySem.Env → Sem Unit} {n : Nat} {wi : TI} {ui : UI} {ug : UG} {ut : UT} {ul : UL (List D)} (hi : SndI wi ui) (hb : ∀ C s H0 fp pins p, ∃ g tt tl, PG (blk X sc N C s H0 fp pins) tg g ∧ PTs (blk X sc N C s H0 fp pins) ifs tt ∧ PN (blk X sc N C s H0 fp pins) (inner (.ref p) (blk X sc N C s H0 fp pins).env) tl ∧ SndG (outs n) g ug ∧ SndT tt ut ∧ SndL (outs n) p tl ul) : SndB (tCompF X sc N tg ifs inner (.lst []) n wi) (uComp n ui ug ut ul) :=
  snd_comp0 (acc0 := ([] : List D)) rfl rfl (fun acc => .lst true acc) (fun {acc u vs Z H A p} hu ha ho np => by
    obtain rfl : u = .lst vs := ha
    exact own_lstT.mpr ⟨p, vs, rfl, hu, .inr rfl, ho.mono fun a z => ⟨.inl z, fun y => np (by rw [← y]; exact z)⟩⟩) hi hb
end VS
end
section
namespace VS
open PySem L2
def dput {α : Type} : List DK → List α → DK → α → List DK × List α
  | k' :: ks, d :: ds, k, x => if k' = k then (k' :: ks, x :: ds) else ((k' :: (dput ks ds k x).1), (d :: (dput ks ds k x).2))
  | _, _, k, x => ([k], [x])
section
variable {Z : Set} {H H' : Hp}
theorem map_zip_no {κ : Type} [DecidableEq κ] (k : κ) (x : V) : ∀ (kl : List κ) (vs : List V), kl.contains k = false → ((kl.zip vs).map fun kv => if kv.1 = k then (kv.1, x) else kv) = kl.zip vs
  | [], _, _ => by simp
  | _ :: _, [], _ => by simp
  | k' :: kl, v :: vs, h => by
    rw [List.contains_cons, Bool.or_eq_false_iff] at h
    rw [List.zip_cons_cons, List.map_cons, map_zip_no k x kl vs h.2]
    have : ¬ k' = k := fun z => by simp [z] at h
    simp [this]
theorem putK_zip {κ : Type} [DecidableEq κ] (c : κ → DK) (ci : ∀ a b, c a = c b → a = b) (k : κ) (x : V) : ∀ (kl : List κ) (vs : List V), kl.length = vs.length → kl.Nodup → ∃ (kl' : List κ) (vs' : List V), putK (kl.zip vs) k x = kl'.zip vs' ∧ kl'.length = vs'.length ∧ kl'.Nodup ∧ (∀ y, y ∈ kl' → y ∈ kl ∨ y = k) ∧ (kl'.map c, vs') = dput (kl.map c) vs (c k) x
  | [], vs, h, _ => by
    cases vs with
    | nil => exact ⟨[k], [x], rfl, rfl, by simp, fun y hy => .inr (by simpa using hy), rfl⟩
    | cons => simp at h
  | k' :: kl, [], h, _ => by simp at h
  | k' :: kl, v :: vs, h, nd => by
    obtain ⟨n1, n2⟩ := List.nodup_cons.mp nd
    by_cases e : k' = k
    · subst e
      refine ⟨k' :: kl, x :: vs, ?_, by simpa using h, nd, fun y hy => .inl hy, by simp [dput]⟩
      have hc : kl.contains k' = false := by simpa using n1
      unfold putK
      rw [if_pos (by simp), List.zip_cons_cons, List.map_cons, map_zip_no k' x kl vs hc]
      simp
    · obtain ⟨kl', vs', h1, h2, hn, hm, h3⟩ := putK_zip c ci k x kl vs (by simpa using h) n2
      refine ⟨k' :: kl', v :: vs', ?_, by simp [h2], List.nodup_cons.mpr ⟨fun z => (hm _ z).elim n1 e, hn⟩, fun y hy => (List.mem_cons.mp hy).elim (fun z => .inl (by rw [z]; exact List.mem_cons_self)) fun z => (hm y z).imp (List.mem_cons_of_mem _) id, ?_⟩
      · rw [List.zip_cons_cons, List.zip_cons_cons, ← h1]
        unfold putK
        rw [List.any_cons]
        simp only [e, decide_false, Bool.false_or]
        by_cases ha : ((kl.zip vs).any fun kv => decide (kv.1 = k)) = true
        · rw [if_pos ha, if_pos ha, List.map_cons]; simp [e]
        · rw [if_neg ha, if_neg ha]; rfl
      · have ec : ¬ c k' = c k := fun z => e (ci _ _ z)
        have e1 := congrArg Prod.fst h3
        have e2 := congrArg Prod.snd h3
        simp only at e1 e2
        simp [dput, ec, ← e1, ← e2]
theorem OwnL.dput : ∀ {ks : List DK} {ds : List D} {vs : List V} {F G : Set} {k : DK} {d : D} {v : V}, ks.length = ds.length → OwnL Z H ds vs F → Own Z H d v G → (∀ a, F a → ¬ G a) → OwnL Z H (VS.dput ks ds k d).2 (VS.dput ks vs k v).2 (fun a => F a ∨ G a) ∧ (VS.dput ks ds k d).1 = (VS.dput ks vs k v).1
  | [], ds, vs, F, G, k, d, v, hl, h, h2, dj => by
    cases ds with
    | cons => simp at hl
    | nil =>
      rw [ownL_nil.mp h]
      exact ⟨ownL_cons.mpr ⟨v, [], G, E0s, rfl, h2, ownL_nil.mpr rfl, fun _ z => .inr z, fun _ z => z.elim, fun _ _ z => z⟩, rfl⟩
  | k' :: ks, [], vs, F, G, k, d, v, hl, h, h2, dj => by simp at hl
  | k' :: ks, e :: ds, vs, F, G, k, d, v, hl, h, h2, dj => by
    obtain ⟨w, r, F1, F2, rfl, h1, h3, s1, s2, dj'⟩ := ownL_cons.mp h
    unfold VS.dput
    by_cases ek : k' = k
    · rw [if_pos ek, if_pos ek]
      exact ⟨ownL_cons.mpr ⟨v, r, G, F2, rfl, h2, h3, fun _ z => .inr z, fun a z => .inl (s2 a z), fun a z y => dj a (s2 a y) z⟩, rfl⟩
    · rw [if_neg ek, if_neg ek]
      obtain ⟨q1, q2⟩ := OwnL.dput (k := k) (by simpa using hl) h3 h2 fun a z => dj a (s2 a z)
      exact ⟨ownL_cons.mpr ⟨w, _, F1, _, rfl, h1, q1, fun a z => .inl (s1 a z), fun a z => z.imp (s2 a) id, fun a z y => y.elim (dj' a z) fun y => dj a (s1 a z) y⟩, by simp only [q2]⟩
theorem dict_put {t : Bool} {ks : List DK} {a : Addr} {vs : List V} {u : HO} {kd : D} {k : DK} {y x : V} {F2 : Set} (hr : H a = some u) (hd : DictAt t u ks vs) (hk : keyOf t kd = some k) (hy : Own Z H kd y F2) (hz : vs.length ≤ 1000000) :
    ∃ u', DPut H a y x (upd H a u') ∧ DictAt t u' (VS.dput ks vs k x).1 (VS.dput ks vs k x).2 ∧ IsM (some u') := by
  cases t with
  | false =>
    obtain ⟨kl, rfl, hlen, ndk, rfl⟩ := hd
    cases e : scK kd with
    | none => simp [keyOf, e] at hk
    | some k' =>
      simp only [keyOf, e, Option.map_some, Option.some.injEq] at hk
      subst hk
      obtain ⟨kl', vs', h1, h2, hn, _, h3⟩ := putK_zip DK.s (fun a b z => DK.s.inj z) k' x kl vs hlen ndk
      refine ⟨_, .inl ⟨_, k', hr, own_scK e hy, ?_, rfl⟩, ⟨kl', ?_, ?_, hn, ?_⟩, trivial⟩
      · rw [List.length_zip, hlen, Nat.min_self]; exact line_big hz
      · rw [← h3]
      · rw [← h3]; exact h2
      · rw [← h3, h1]
  | true =>
    obtain ⟨kl, rfl, hlen, ndk, rfl⟩ := hd
    cases kd <;> simp only [keyOf, reduceCtorEq] at hk
    rename_i ds'
    cases e : scKs ds' with
    | none => simp [e] at hk
    | some k' =>
      simp only [e, Option.map_some, Option.some.injEq] at hk
      subst hk
      obtain ⟨b, ws, rfl, hb, hw⟩ := own_tup.mp hy
      rw [own_scKs e hw] at hb
      obtain ⟨kl', vs', h1, h2, hn, _, h3⟩ := putK_zip DK.t (fun a b z => DK.t.inj z) k' x kl vs hlen ndk
      refine ⟨_, .inr ⟨_, k', b, hr, rfl, hb, ?_, rfl⟩, ⟨kl', ?_, ?_, hn, ?_⟩, trivial⟩
      · rw [List.length_zip, hlen, Nat.min_self]; exact line_big hz
      · rw [← h3]
      · rw [← h3]; exact h2
      · rw [← h3, h1]
theorem dictAt_len {t : Bool} {u : HO} {ks : List DK} {vs : List V} (h : DictAt t u ks vs) : ks.length = vs.length := by
  cases t with
  | false => obtain ⟨kl, rfl, hl, _, _⟩ := h; simpa using hl
  | true => obtain ⟨kl, rfl, hl, _, _⟩ := h; simpa using hl
end
def uDPut (i : Nat) (uy uv : UB) : US := fun E env => uv env fun r1 e1 => (∃ d0, e1[i]? = some (some d0)) ∧ uy e1 fun r2 e2 => ∃ d kd t ks ds k, r1 = .tmp d ∧ r2.at e2 = some kd ∧ e2[i]? = some (some (.dic true t ks ds)) ∧ keyOf t kd = some k ∧ ds.length ≤ 1000000 ∧
  E.nx (e2.set i (some (.dic true t (dput ks ds k d).1 (dput ks ds k d).2)))
theorem snd_dput {I : Nat → Bool} {i : Nat} {ty tv : TE} {uy uv : UB} (hy : SndB ty uy) (hv : SndB tv uv) : SndS I (sDPut (tVar i) ty tv) (uDPut i uy uv) := by
  intro σ env Z H φ DE E O q k
  refine hv σ env Z H φ _ _ O q fun r1 env1 v1 Z1 H1 φ1 G1 ⟨⟨d0, e0⟩, q1⟩ O1 s1 ok1 => ?_
  obtain ⟨w0, hw0, _⟩ := O1.own i d0 e0
  refine ⟨w0, hw0, ?_⟩
  refine hy σ env1 Z1 H1 φ1 _ _ O1 q1 fun r2 env2 v2 Z2 H2 φ2 G2 ⟨d, kd, t, ks, ds, kk, er, ea, ei, ek, hz, q2⟩ O2 s2 ok2 => ?_
  subst er
  obtain ⟨s12, dj12⟩ := s1.seq s2
  have ok1 : Own Z1 H1 d v1 G1 := ok1
  have h1 : Own Z2 H2 d v1 G1 := s2.keep O1 s1.d ok1
  obtain ⟨F2, h2⟩ := tree_of O2 ok2 ea
  obtain ⟨w, hw, ho⟩ := O2.own i _ ei
  rw [hw0] at hw; cases hw
  obtain ⟨a, vs, u, rfl, hr, hd, ha, hl⟩ := own_dicT.mp ho
  obtain ⟨u', hp, hd', hm⟩ := dict_put (x := v1) hr hd ek h2 (by rw [hl.length]; exact hz)
  refine ⟨a, _, rfl, hp, ?_⟩
  have hdj : ∀ b, Uφ φ2 b → ¬ G1 b := fun b z y => s12.d b z (.inl y)
  have na : ¬ G1 a := hdj a ⟨i, ha⟩
  have st : ∀ {d : D} {v : V} {F : Set}, (∀ b, F b → b ≠ a) → Own Z2 H2 d v F → Own Z2 (upd H2 a u') d v F := fun {d v F} hF h => Own.step (fun b => b = a) (fun _ z => z) (fun b o e n => by rw [upd_ne n]; exact e) (fun b z => by rw [z]; exact O2.fz i a ha) (fun b vs z => by rw [z]; exact (O2.fm i a ha).notup) d (fun _ z => z) (fun b z y => hF b y z) h
  have stL : ∀ {d : List D} {v : List V} {F : Set}, (∀ b, F b → b ≠ a) → OwnL Z2 H2 d v F → OwnL Z2 (upd H2 a u') d v F := fun {d v F} hF h => OwnL.step (fun b => b = a) (fun _ z => z) (fun b o e n => by rw [upd_ne n]; exact e) (fun b z => by rw [z]; exact O2.fz i a ha) (fun b vs z => by rw [z]; exact (O2.fm i a ha).notup) d (fun _ z => z) (fun b z y => hF b y z) h
  have hW : ∀ b, (fun b => b = a) b → φ2 i b := fun b z => by rw [z]; exact ha
  have hk : ∀ b, ¬ (fun b => b = a) b → (upd H2 a u') b = H2 b := fun b n => upd_ne n
  obtain ⟨q3, q4⟩ := OwnL.dput (ks := ks) (k := kk) (by rw [dictAt_len hd, hl.length]) (stL (fun b z => z.2) hl) (st (fun b z y => na (by rw [← y]; exact z)) h1) fun b z y => hdj b ⟨i, z.1⟩ y
  refine k.nx _ σ Z2 _ _ q2 (O2.write (W := fun b => b = a) (G := G1) ei hw0 hW hk (fun b z => by rw [z, upd_same]; exact hm) (fun b z y => hdj b y z) (fun b z => s12.gz b (.inl z)) (fun b z => s12.gm b (.inl z)) (own_dicT.mpr ⟨a, _, u', rfl, upd_same, by rw [q4]; exact hd', .inl ha, ?_⟩)) (s12.write (i := i) hW hk fun b z => .inl z) Kp.refl
  refine q3.mono fun b z => ?_
  rcases z with z | z
  · exact ⟨.inl z.1, z.2⟩
  · exact ⟨.inr z, fun y => na (by rw [← y]; exact z)⟩
end VS
end
section
namespace VS
open PySem L2
structure Foc (Z : Set) (H : Hp) (v0 : V) (F : Set) (c : D) (v : V) (Fc : Set) (reb : D → D) : Prop where
  own : Own Z H c v Fc
  sub : ∀ a, Fc a → F a
  put : ∀ (H' : Hp) (c' : D) (G : Set), (∀ a, ¬ Fc a → H' a = H a) → Own Z H' c' v (fun a => Fc a ∨ G a) → (∀ a, G a → ¬ F a) → Own Z H' (reb c') v0 (fun a => F a ∨ G a)
section
variable {Z : Set} {H : Hp}
theorem OwnL.focus : ∀ {ds : List D} {vs : List V} {F : Set} {j : Nat} {c : D}, (∀ a, F a → ¬ Z a) → (∀ a, F a → IsM (H a)) → OwnL Z H ds vs F → ds[j]? = some c → ∃ v Fj, vs[j]? = some v ∧ Own Z H c v Fj ∧ (∀ a, Fj a → F a) ∧
    ∀ (H' : Hp) (c' : D) (G : Set), (∀ a, ¬ Fj a → H' a = H a) → Own Z H' c' v (fun a => Fj a ∨ G a) → (∀ a, G a → ¬ F a) → OwnL Z H' (ds.set j c') vs (fun a => F a ∨ G a)
  | [], vs, F, j, c, _, _, h, e => by simp at e
  | d :: ds, vs, F, 0, c, fz, fm, h, e => by
    obtain ⟨w, r, F1, F2, rfl, h1, h3, s1, s2, dj⟩ := ownL_cons.mp h
    cases (show some d = some c from e)
    refine ⟨w, F1, rfl, h1, s1, fun H' c' G k ho hG => ?_⟩
    refine ownL_cons.mpr ⟨w, r, fun a => F1 a ∨ G a, F2, rfl, ho, ?_, fun a z => z.imp (s1 a) id, fun a z => .inl (s2 a z), fun a z y => z.elim (fun z => dj a z y) fun z => hG a z (s2 a y)⟩
    exact OwnL.step F1 (fun _ z => z) (fun a o q n => by rw [k a n]; exact q) (fun a z => fz a (s1 a z)) (fun a vs z => (fm a (s1 a z)).notup) ds (fun _ z => z) (fun a z y => dj a z y) h3
  | d :: ds, vs, F, j + 1, c, fz, fm, h, e => by
    obtain ⟨w, r, F1, F2, rfl, h1, h3, s1, s2, dj⟩ := ownL_cons.mp h
    obtain ⟨v, Fj, e1, ho, sj, q⟩ := OwnL.focus (j := j) (c := c) (fun a z => fz a (s2 a z)) (fun a z => fm a (s2 a z)) h3 (by simpa using e)
    refine ⟨v, Fj, by simpa using e1, ho, fun a z => s2 a (sj a z), fun H' c' G k ho' hG => ?_⟩
    refine ownL_cons.mpr ⟨w, r, F1, fun a => F2 a ∨ G a, rfl, ?_, q H' c' G k ho' fun a z y => hG a z (s2 a y), fun a z => .inl (s1 a z), fun a z => z.imp (s2 a) id, fun a z y => y.elim (dj a z) fun y => hG a y (s1 a z)⟩
    exact Own.step Fj (fun _ z => z) (fun a o q n => by rw [k a n]; exact q) (fun a z => fz a (s2 a (sj a z))) (fun a vs z => (fm a (s2 a (sj a z))).notup) d (fun _ z => z) (fun a z y => dj a y (sj a z)) h1
end
def dix : List DK → DK → Option Nat
  | [], _ => none
  | k' :: ks, k => if k' = k then some 0 else (dix ks k).map (· + 1)
theorem dix_find {α : Type} : ∀ {ks : List DK} {ds : List α} {k : DK} {j : Nat} {c : α}, dix ks k = some j → ds[j]? = some c → dfind ks ds k = some c
  | [], ds, k, j, c, h, e => by simp [dix] at h
  | k' :: ks, [], k, j, c, h, e => by simp at e
  | k' :: ks, d :: ds, k, j, c, h, e => by
    unfold dix at h
    unfold dfind
    by_cases ek : k' = k
    · rw [if_pos ek] at h ⊢
      cases h
      exact e
    · rw [if_neg ek] at h ⊢
      cases q : dix ks k with
      | none => rw [q] at h; cases h
      | some j' =>
        rw [q] at h
        cases (show some (j' + 1) = some j from h)
        exact dix_find q (by simpa using e)
def child : D → D → Option (D × (D → D))
  | .dic true t ks ds, kd => (keyOf t kd).bind fun k => (dix ks k).bind fun j => (ds[j]?).map fun c => (c, fun c' => .dic true t ks (ds.set j c'))
  | .lst true ds, .int k => (ixN ds.length k).bind fun j => (ds[j]?).map fun c => (c, fun c' => .lst true (ds.set j c'))
  | .tup ds, .int k => (ixN ds.length k).bind fun j => (ds[j]?).map fun c => (c, fun c' => .tup (ds.set j c'))
  | _, _ => none
def SndC (tc : TE) (i : Nat) (ux : UX) : Prop := ∀ (σ : St) (env : VEnv) (Z : Set) (H : Hp) (φ : Nat → Set) (d0 kd c : D) (reb : D → D) (R : VK), Ok Z H env σ φ → env[i]? = some (some d0) → ux env kd → child d0 kd = some (c, reb) →
  (∀ v v0 Fc, σ[i]? = some (some v0) → Foc Z H v0 (φ i) c v Fc reb → R v H) → tc σ H R
theorem sc_dic {i : Nat} {tk : TE} {ux : UX} (hk : SndX tk ux) : ∀ (σ : St) (env : VEnv) (Z : Set) (H : Hp) (φ : Nat → Set) (d0 kd c : D) (reb : D → D) (R : VK), (∃ t ks ds, d0 = .dic true t ks ds) → Ok Z H env σ φ → env[i]? = some (some d0) → ux env kd → child d0 kd = some (c, reb) →
    (∀ v v0 Fc, σ[i]? = some (some v0) → Foc Z H v0 (φ i) c v Fc reb → R v H) → tDGet (tVar i) tk σ H R := by
  rintro σ env Z H φ _ kd c reb R ⟨t, ks, ds, rfl⟩ O e ex ec k
  obtain ⟨v0, hv, ho⟩ := O.own i _ e
  refine ⟨v0, hv, hk σ env Z H φ kd _ O ex fun y hy => ?_⟩
  simp only [child, Option.bind_eq_some_iff, Option.map_eq_some_iff, Prod.mk.injEq] at ec
  obtain ⟨kk, h1, j, h2, c', h3, rfl, rfl⟩ := ec
  obtain ⟨a, vs, u, rfl, hr, hd, ha, hl⟩ := own_dicT.mp ho
  obtain ⟨v, Fj, e1, hoc, sj, q⟩ := OwnL.focus (fun b z => O.fz i b z.1) (fun b z => O.fm i b z.1) hl h3
  have g := dict_get (.inl hr) hd hl h1 hy
  rw [dix_find h2 e1] at g
  refine ⟨a, v, rfl, g, k v _ Fj hv ⟨hoc, fun b z => (sj b z).1, fun H' c'' G kk' ho' hG => ?_⟩⟩
  have na : ¬ Fj a := fun z => (sj a z).2 rfl
  refine own_dicT.mpr ⟨a, vs, u, rfl, by rw [kk' a na]; exact hr, hd, .inl ha, (q H' c'' G kk' ho' fun b z y => hG b z y.1).mono fun b z => ?_⟩
  rcases z with z | z
  · exact ⟨.inl z.1, z.2⟩
  · exact ⟨.inr z, fun y => hG b z (by rw [y]; exact ha)⟩
theorem sc_lst {K : PySem.W.Frag} {i : Nat} {tk : TE} {ux : UX} (hk : SndX tk ux) : ∀ (σ : St) (env : VEnv) (Z : Set) (H : Hp) (φ : Nat → Set) (d0 kd c : D) (reb : D → D) (R : VK), (∃ ds, d0 = .lst true ds) → Ok Z H env σ φ → env[i]? = some (some d0) → ux env kd → child d0 kd = some (c, reb) →
    (∀ v v0 Fc, σ[i]? = some (some v0) → Foc Z H v0 (φ i) c v Fc reb → R v H) → tOp (rIxL K) (tVar i) tk σ H R := by
  rintro σ env Z H φ _ kd c reb R ⟨ds, rfl⟩ O e ex ec k
  obtain ⟨v0, hv, ho⟩ := O.own i _ e
  refine ⟨v0, hv, hk σ env Z H φ kd _ O ex fun y hy => ?_⟩
  cases kd <;> simp only [child, reduceCtorEq] at ec
  rw [own_int] at hy
  simp only [Option.bind_eq_some_iff, Option.map_eq_some_iff, Prod.mk.injEq] at ec
  obtain ⟨j, h2, c', h3, rfl, rfl⟩ := ec
  obtain ⟨a, vs, rfl, hr, ha, hl⟩ := own_lstT.mp ho
  obtain ⟨v, Fj, e1, hoc, sj, q⟩ := OwnL.focus (fun b z => O.fz i b z.1) (fun b z => O.fm i b z.1) hl h3
  refine ⟨a, vs, _, v, rfl, hy, SqL.of hr, by unfold atI; rw [hl.length, h2]; exact e1, k v _ Fj hv ⟨hoc, fun b z => (sj b z).1, fun H' c'' G kk' ho' hG => ?_⟩⟩
  have na : ¬ Fj a := fun z => (sj a z).2 rfl
  refine own_lstT.mpr ⟨a, vs, rfl, by rw [kk' a na]; exact hr, .inl ha, (q H' c'' G kk' ho' fun b z y => hG b z y.1).mono fun b z => ?_⟩
  rcases z with z | z
  · exact ⟨.inl z.1, z.2⟩
  · exact ⟨.inr z, fun y => hG b z (by rw [y]; exact ha)⟩
theorem sc_tup {K : PySem.W.Frag} {i : Nat} {tk : TE} {ux : UX} (hk : SndX tk ux) : ∀ (σ : St) (env : VEnv) (Z : Set) (H : Hp) (φ : Nat → Set) (d0 kd c : D) (reb : D → D) (R : VK), (∃ ds, d0 = .tup ds) → Ok Z H env σ φ → env[i]? = some (some d0) → ux env kd → child d0 kd = some (c, reb) →
    (∀ v v0 Fc, σ[i]? = some (some v0) → Foc Z H v0 (φ i) c v Fc reb → R v H) → tOp (rIxT K) (tVar i) tk σ H R := by
  rintro σ env Z H φ _ kd c reb R ⟨ds, rfl⟩ O e ex ec k
  obtain ⟨v0, hv, ho⟩ := O.own i _ e
  refine ⟨v0, hv, hk σ env Z H φ kd _ O ex fun y hy => ?_⟩
  cases kd <;> simp only [child, reduceCtorEq] at ec
  rw [own_int] at hy
  simp only [Option.bind_eq_some_iff, Option.map_eq_some_iff, Prod.mk.injEq] at ec
  obtain ⟨j, h2, c', h3, rfl, rfl⟩ := ec
  obtain ⟨a, vs, rfl, hr, hl⟩ := own_tup.mp ho
  obtain ⟨v, Fj, e1, hoc, sj, q⟩ := OwnL.focus (fun b z => O.fz i b z) (fun b z => O.fm i b z) hl h3
  refine ⟨a, vs, _, v, rfl, hy, SqT.of hr, by unfold atI; rw [hl.length, h2]; exact e1, k v _ Fj hv ⟨hoc, sj, fun H' c'' G kk' ho' hG => ?_⟩⟩
  have na : ¬ Fj a := fun z => (O.fm i a (sj a z)).notup hr
  exact own_tup.mpr ⟨a, vs, rfl, by rw [kk' a na]; exact hr, q H' c'' G kk' ho' hG⟩
inductive Sel where
  | dic | lst | tup
def Sel.ok : Sel → D → Prop
  | .dic, d => ∃ t ks ds, d = .dic true t ks ds
  | .lst, d => ∃ ds, d = .lst true ds
  | .tup, d => ∃ ds, d = .tup ds
def Sel.t (K : PySem.W.Frag) : Sel → TE → TE → TE
  | .dic => tDGet
  | .lst => tOp (rIxL K)
  | .tup => tOp (rIxT K)
theorem sc_sel {K : PySem.W.Frag} (s : Sel) {i : Nat} {tk : TE} {ux : UX} (hk : SndX tk ux) : ∀ (σ : St) (env : VEnv) (Z : Set) (H : Hp) (φ : Nat → Set) (d0 kd c : D) (reb : D → D) (R : VK), s.ok d0 → Ok Z H env σ φ → env[i]? = some (some d0) → ux env kd → child d0 kd = some (c, reb) →
    (∀ v v0 Fc, σ[i]? = some (some v0) → Foc Z H v0 (φ i) c v Fc reb → R v H) → s.t K (tVar i) tk σ H R := by
  cases s with
  | dic => exact sc_dic hk
  | lst => exact sc_lst hk
  | tup => exact sc_tup hk
def uAppendAt (s : Sel) (i : Nat) (uk uy : UX) : US := fun E env => ∃ d0 kd y cs reb, env[i]? = some (some d0) ∧ s.ok d0 ∧ uk env kd ∧ uy env y ∧ child d0 kd = some (.lst true cs, reb) ∧ cs.length ≤ 1000000 ∧ E.nx (env.set i (some (reb (.lst true (cs ++ [y])))))
theorem snd_appendAt {I : Nat → Bool} {K : PySem.W.Frag} (s : Sel) {i : Nat} {tk ty : TE} {uk uy : UX} (hk : SndX tk uk) (hy : SndX ty uy) : SndS I (tDrop (tBM K "list" rAppendG (s.t K (tVar i) tk) (tCons ty tNil))) (uAppendAt s i uk uy) := by
  intro σ env Z H φ DE E O ⟨d0, kd, y, cs, reb, e0, so, ek, ey, ec, hz, q⟩ k
  refine sc_sel s hk σ env Z H φ d0 kd _ reb _ so O e0 ek ec fun v v0 Fc hv f => ?_
  obtain ⟨a, vs, rfl, hr, ha, hl⟩ := own_lstT.mp f.own
  refine ⟨.inl ⟨rfl, vs, SqL.of hr⟩, hy σ env Z H φ y _ O ey fun w hw => ⟨a, vs, w, rfl, rfl, hr, by rw [hl.length]; exact hz, fun H3 at1 h3 => ?_⟩⟩
  have hW : ∀ b, (fun b => b = a) b → φ i b := fun b z => by rw [z]; exact f.sub a ha
  have hk' : ∀ b, ¬ (fun b => b = a) b → H3 b = H b := fun b n => at1 b n
  have fz := O.fz i a (f.sub a ha)
  have nt : ∀ vs, ¬ H a = some (.tup vs) := fun vs => (O.fm i a (f.sub a ha)).notup
  have stL : OwnL Z H3 cs vs (fun b => Fc b ∧ b ≠ a) := OwnL.step (fun b => b = a) (fun _ z => z) (fun b o e n => by rw [at1 b n]; exact e) (fun b z => by rw [z]; exact fz) (fun b vs z => by rw [z]; exact nt vs) cs (fun _ z => z) (fun b z y => y.2 z) hl
  have st : Own Z H3 y w E0s := Own.step (fun b => b = a) (fun _ z => z) (fun b o e n => by rw [at1 b n]; exact e) (fun b z => by rw [z]; exact fz) (fun b vs z => by rw [z]; exact nt vs) y (fun _ z => z) (fun _ _ z => z) hw
  have ho : Own Z H3 (reb (.lst true (cs ++ [y]))) v0 (fun b => φ i b ∨ E0s b) := by
    refine f.put H3 _ E0s (fun b n => at1 b fun z => n (by rw [z]; exact ha)) (own_lstT.mpr ⟨a, _, rfl, h3, .inl ha, ?_⟩) (fun _ z => z.elim)
    exact (ownL_snoc stL st fun _ _ z => z).mono fun b z => z.elim (fun z => ⟨.inl z.1, z.2⟩) fun z => z.elim
  exact k.nx _ σ Z H3 _ q (O.write (W := fun b => b = a) (G := E0s) e0 hv hW hk' (fun b z => by rw [z, h3]; exact trivial) (fun _ z => z.elim) (fun _ z => z.elim) (fun _ z => z.elim) ho) (Res.refl.write (i := i) hW hk' fun _ z => z) Kp.refl
def uDPutAt (s : Sel) (i : Nat) (uj uk uv : UX) : US := fun E env => ∃ d0 jd kd x t ks ds k reb, env[i]? = some (some d0) ∧ s.ok d0 ∧ uj env jd ∧ uk env kd ∧ uv env x ∧ child d0 jd = some (.dic true t ks ds, reb) ∧ keyOf t kd = some k ∧ ds.length ≤ 1000000 ∧ E.nx (env.set i (some (reb (.dic true t (dput ks ds k x).1 (dput ks ds k x).2))))
end VS
end
section
namespace VS
open PySem L2
section
variable {Z : Set} {H H' : Hp}
theorem OwnL.set : ∀ {ds : List D} {vs : List V} {F G : Set} {j : Nat} {d : D} {v : V}, OwnL Z H ds vs F → Own Z H d v G → (∀ a, F a → ¬ G a) → OwnL Z H (ds.set j d) (vs.set j v) (fun a => F a ∨ G a)
  | [], vs, F, G, j, d, v, h, h2, dj => by rw [ownL_nil.mp h]; exact ownL_nil.mpr rfl
  | e :: ds, vs, F, G, 0, d, v, h, h2, dj => by
    obtain ⟨w, r, F1, F2, rfl, h1, h3, s1, s2, dj'⟩ := ownL_cons.mp h
    exact ownL_cons.mpr ⟨v, r, G, F2, rfl, h2, h3, fun _ z => .inr z, fun a z => .inl (s2 a z), fun a z y => dj a (s2 a y) z⟩
  | e :: ds, vs, F, G, j + 1, d, v, h, h2, dj => by
    obtain ⟨w, r, F1, F2, rfl, h1, h3, s1, s2, dj'⟩ := ownL_cons.mp h
    exact ownL_cons.mpr ⟨w, r.set j v, F1, fun a => F2 a ∨ G a, rfl, h1, OwnL.set h3 h2 fun a z => dj a (s2 a z), fun a z => .inl (s1 a z), fun a z => z.imp (s2 a) id, fun a z y => y.elim (dj' a z) fun y => dj a (s1 a z) y⟩
theorem OwnL.take : ∀ {ds : List D} {vs : List V} {F : Set} (n : Nat), OwnL Z H ds vs F → OwnL Z H (ds.take n) (vs.take n) F
  | [], vs, F, n, h => by rw [ownL_nil.mp h]; simp [OwnL]
  | e :: ds, vs, F, 0, h => by simp [OwnL]
  | e :: ds, vs, F, n + 1, h => by
    obtain ⟨w, r, F1, F2, rfl, h1, h3, s1, s2, dj'⟩ := ownL_cons.mp h
    exact ownL_cons.mpr ⟨w, r.take n, F1, F2, rfl, h1, OwnL.take n h3, s1, s2, dj'⟩
theorem OwnL.drop : ∀ {ds : List D} {vs : List V} {F : Set} (n : Nat), OwnL Z H ds vs F → OwnL Z H (ds.drop n) (vs.drop n) F
  | [], vs, F, n, h => by rw [ownL_nil.mp h]; simp [OwnL]
  | e :: ds, vs, F, 0, h => by simpa using h
  | e :: ds, vs, F, n + 1, h => by
    obtain ⟨w, r, F1, F2, rfl, h1, h3, s1, s2, dj'⟩ := ownL_cons.mp h
    exact (OwnL.drop n h3).mono s2
theorem OwnL.append : ∀ {ds es : List D} {vs ws : List V} {F G : Set}, OwnL Z H ds vs F → OwnL Z H es ws G → (∀ a, F a → ¬ G a) → OwnL Z H (ds ++ es) (vs ++ ws) (fun a => F a ∨ G a)
  | [], es, vs, ws, F, G, h, h2, dj => by rw [ownL_nil.mp h]; exact h2.mono fun _ z => .inr z
  | e :: ds, es, vs, ws, F, G, h, h2, dj => by
    obtain ⟨w, r, F1, F2, rfl, h1, h3, s1, s2, dj'⟩ := ownL_cons.mp h
    exact ownL_cons.mpr ⟨w, r ++ ws, F1, fun a => F2 a ∨ G a, rfl, h1, OwnL.append h3 h2 fun a z => dj a (s2 a z), fun a z => .inl (s1 a z), fun a z => z.imp (s2 a) id, fun a z y => y.elim (dj' a z) fun y => dj a (s1 a z) y⟩
theorem OwnL.reverse : ∀ {ds : List D} {vs : List V} {F : Set}, OwnL Z H ds vs F → OwnL Z H ds.reverse vs.reverse F
  | [], vs, F, h => by rw [ownL_nil.mp h]; simp [OwnL]
  | e :: ds, vs, F, h => by
    obtain ⟨w, r, F1, F2, rfl, h1, h3, s1, s2, dj⟩ := ownL_cons.mp h
    rw [List.reverse_cons, List.reverse_cons]
    exact (ownL_snoc (OwnL.reverse h3) h1 fun a z y => dj a y z).mono fun a z => z.elim (s2 a) (s1 a)
end
theorem beside {Z : Set} {H H3 : Hp} {a : Addr} (hz : ¬ Z a) (hm : IsM (H a)) (at1 : ∀ b, b ≠ a → H3 b = H b) {ds : List D} {vs : List V} {F : Set} (hF : ∀ b, F b → b ≠ a) (h : OwnL Z H ds vs F) : OwnL Z H3 ds vs F :=
  OwnL.step (fun b => b = a) (fun _ z => z) (fun b o e n => by rw [at1 b n]; exact e) (fun b z => by rw [z]; exact hz) (fun b vs z => by rw [z]; exact hm.notup) ds (fun _ z => z) (fun b z y => hF b y z) h
theorem beside1 {Z : Set} {H H3 : Hp} {a : Addr} (hz : ¬ Z a) (hm : IsM (H a)) (at1 : ∀ b, b ≠ a → H3 b = H b) {d : D} {v : V} {F : Set} (hF : ∀ b, F b → b ≠ a) (h : Own Z H d v F) : Own Z H3 d v F :=
  Own.step (fun b => b = a) (fun _ z => z) (fun b o e n => by rw [at1 b n]; exact e) (fun b z => by rw [z]; exact hz) (fun b vs z => by rw [z]; exact hm.notup) d (fun _ z => z) (fun b z y => hF b y z) h
def uSetL (i : Nat) (uk uv : UB) : US := fun E env => uv env fun r1 e1 => (∃ d0, e1[i]? = some (some d0)) ∧ uk e1 fun r2 e2 => ∃ d k j ds, r1 = .tmp d ∧ r2 = .tmp (.int k) ∧ e2[i]? = some (some (.lst true ds)) ∧ ixN ds.length k = some j ∧ E.nx (e2.set i (some (.lst true (ds.set j d))))
theorem snd_setL {I : Nat → Bool} {i : Nat} {tk tv : TE} {uk uv : UB} (hk : SndB tk uk) (hv : SndB tv uv) : SndS I (tAsg tv (gSub (tVar i) tk rSetL)) (uSetL i uk uv) := by
  intro σ env Z H φ DE E O q k
  refine hv σ env Z H φ _ _ O q fun r1 env1 v1 Z1 H1 φ1 G1 ⟨⟨d0, e0⟩, q1⟩ O1 s1 ok1 => ?_
  obtain ⟨w0, hw0, _⟩ := O1.own i d0 e0
  refine ⟨w0, hw0, hk σ env1 Z1 H1 φ1 _ _ O1 q1 fun r2 env2 v2 Z2 H2 φ2 G2 ⟨d, kk, j, ds, er, er2, ei, ej, q2⟩ O2 s2 ok2 => ?_⟩
  subst er er2
  obtain ⟨s12, dj12⟩ := s1.seq s2
  have ok1 : Own Z1 H1 d v1 G1 := ok1
  have h1 : Own Z2 H2 d v1 G1 := s2.keep O1 s1.d ok1
  obtain ⟨w, hw, ho⟩ := O2.own i _ ei
  rw [hw0] at hw; cases hw
  obtain ⟨a, vs, rfl, hr, ha, hl⟩ := own_lstT.mp ho
  refine ⟨a, vs, kk, j, rfl, own_int.mp (show Own Z2 H2 (.int kk) v2 G2 from ok2), hr, by rw [hl.length]; exact ej, ?_⟩
  have hdj : ∀ b, Uφ φ2 b → ¬ G1 b := fun b z y => s12.d b z (.inl y)
  have na : ¬ G1 a := hdj a ⟨i, ha⟩
  have at1 : ∀ b, b ≠ a → upd H2 a (.lst (vs.set j v1)) b = H2 b := fun b n => upd_ne n
  have hW : ∀ b, (fun b => b = a) b → φ2 i b := fun b z => by rw [z]; exact ha
  have fz := O2.fz i a ha
  have fm := O2.fm i a ha
  refine k.nx _ σ Z2 _ _ q2 (O2.write (W := fun b => b = a) (G := G1) ei hw0 hW (fun b n => at1 b n) (fun b z => by rw [z, upd_same]; exact trivial) (fun b z y => hdj b y z) (fun b z => s12.gz b (.inl z)) (fun b z => s12.gm b (.inl z)) (own_lstT.mpr ⟨a, _, rfl, upd_same, .inl ha, ?_⟩)) (s12.write (i := i) hW (fun b n => at1 b n) fun b z => .inl z) Kp.refl
  refine (OwnL.set (beside fz fm at1 (fun b z => z.2) hl) (beside1 fz fm at1 (fun b z y => na (by rw [← y]; exact z)) h1) fun b z y => hdj b ⟨i, z.1⟩ y).mono fun b z => ?_
  rcases z with z | z
  · exact ⟨.inl z.1, z.2⟩
  · exact ⟨.inr z, fun y => na (by rw [← y]; exact z)⟩
def uPop (i : Nat) : UB := fun env Q => ∃ ds d, env[i]? = some (some (.lst true ds)) ∧ ds[ds.length - 1]? = some d ∧ bare d = true ∧ Q (.tmp d) (env.set i (some (.lst true ds.dropLast)))
def uReverse (i : Nat) : US := fun E env => ∃ ds, env[i]? = some (some (.lst true ds)) ∧ E.nx (env.set i (some (.lst true ds.reverse)))
def uExtend (i : Nat) (ua : UA) : US := fun E env => (∃ ds, env[i]? = some (some (.lst true ds))) ∧ ua env fun rs e => ∃ xs ds, rs = [.tmp (.lst true xs)] ∧ bareL xs = true ∧ e[i]? = some (some (.lst true ds)) ∧ ds.length + xs.length ≤ 1000000 ∧ E.nx (e.set i (some (.lst true (ds ++ xs))))
end VS
end
section
namespace L2
open PySem PySem.Spec PyProof.Rows
def rMulS : R2 := fun x y H Q => ∃ (z : Str) (n : Int), x = .str z ∧ y = .int n ∧ 0 ≤ n ∧ n ≤ 1000 ∧ z.length ≤ 1000 ∧ Q (.str (Txt.mul z n)) H
theorem op_mulS {X : Cx} : OpR X (binaryOp .Mult) rMulS := by
  intro pins s σ H x y v u Q I rx ry ⟨z, n, e1, e2, h0, h1, hz, q⟩
  subst e1 e2
  obtain ⟨t, rfl⟩ := rx
  obtain ⟨t', rfl⟩ := ry
  refine SB.mul (A := X.A) ⟨?_, ?_, ?_⟩ fun t2 k => ⟨.str (Txt.mul z n), H, I.tok _, ⟨_, rfl⟩, q⟩
  · have a : ¬ n < -(2 ^ 63 : Int) := by omega
    have b : ¬ n ≥ 2 ^ 63 := by omega
    rw [decide_eq_false a, decide_eq_false b]; rfl
  · intro h2 _ h3
    have h4 : (2 ^ 63 - 1 : Int) / 1000 ≤ (2 ^ 63 - 1) / n := by
      have : (0 : Int) < n := by omega
      rw [Int.le_ediv_iff_mul_le this]
      have := Int.ediv_mul_le (2 ^ 63 - 1 : Int) (show (1000 : Int) ≠ 0 by decide)
      calc (2 ^ 63 - 1 : Int) / 1000 * n ≤ (2 ^ 63 - 1) / 1000 * 1000 := Int.mul_le_mul_of_nonneg_left h1 (by decide)
        _ ≤ _ := this
    have h5 : (2 ^ 63 - 1 : Int) / 1000 = 9223372036854775 := by decide
    omega
  · intro _ _
    have : z.length * n.toNat ≤ 1000 * 1000 := Nat.mul_le_mul hz (by omega)
    exact decide_eq_false (Nat.not_lt.mpr (Nat.le_trans this (by decide)))
end L2
namespace VS
open PySem L2
def fMulS : D → D → (D → Prop) → Prop
  | .str x, .int n, P => 0 ≤ n ∧ n ≤ 1000 ∧ x.length ≤ 1000 ∧ P (.str (Txt.mul x n))
  | _, _, _ => False
theorem fn_mulS : FnV2 rMulS fMulS := by
  intro Z H d1 d2 v1 v2 F1 F2 P R h1 h2 hf k
  cases d1 <;> try exact hf.elim
  cases d2 <;> try exact hf.elim
  rw [own_int] at h2; rw [own_str] at h1
  exact ⟨_, _, h1, h2, hf.1, hf.2.1, hf.2.2.1, k _ _ _ _ hf.2.2.2 (New.refl (own_str.mpr rfl))⟩
def fAddS : D → D → (D → Prop) → Prop
  | .str x, .str y, P => x.length + y.length ≤ 1000000 ∧ P (.str (x ++ y))
  | _, _, _ => False
theorem fn_addS : FnV2 (fun x y H Q => ∃ i j : Str, x = .str i ∧ y = .str j ∧ i.length + j.length ≤ sizeLine ∧ Q (.str (i ++ j)) H) fAddS := by
  intro Z H d1 d2 v1 v2 F1 F2 P R h1 h2 hf k
  cases d1 <;> try exact hf.elim
  cases d2 <;> try exact hf.elim
  rw [own_str] at h1 h2
  exact ⟨_, _, h1, h2, Nat.le_of_lt (line_big hf.1), k _ _ _ _ hf.2 (New.refl (own_str.mpr rfl))⟩
theorem New.lst {Z : Set} {H H' : Hp} {ds : List D} {vs : List V} {p : Addr} (hn : H p = none) (hs : Same H H') (hp : H' p = some (.lst vs)) (ho : OwnL Z H ds vs E0s) : New Z H H' (.lst true ds) (.ref p) (fun a => a = p) :=
  ⟨hs, own_lstT.mpr ⟨p, vs, rfl, hp, rfl, (ho.grow hs).mono fun _ z => z.elim⟩, fun a z => by subst z; exact ⟨hn, by rw [hp]; exact trivial⟩⟩
def fCat : D → D → (D → Prop) → Prop
  | .lst true xs, .lst true ys, P => bareL xs = true ∧ bareL ys = true ∧ xs.length + ys.length ≤ 1000000 ∧ P (.lst true (xs ++ ys))
  | _, _, _ => False
theorem fn_cat : FnV2 rCatG fCat := by
  intro Z H d1 d2 v1 v2 F1 F2 P R h1 h2 hf k
  cases d1 <;> try exact hf.elim
  rename_i o1 xs
  cases d2 <;> try (cases o1 <;> exact hf.elim)
  rename_i o2 ys
  cases o1 <;> cases o2 <;> try exact hf.elim
  obtain ⟨b1, b2, hz, p⟩ := hf
  obtain ⟨a, vs, rfl, hr, ha, hl⟩ := own_lstT.mp h1
  obtain ⟨b, ws, rfl, hrb, hb, hlb⟩ := own_lstT.mp h2
  refine ⟨a, b, vs, ws, rfl, rfl, hr, hrb, by rw [hl.length, hlb.length]; exact hz, fun q H2 hn hs hq => ?_⟩
  exact k _ _ _ _ p (New.lst hn hs hq ((OwnL.append (hl.bare xs b1) (hlb.bare ys b2) fun _ z => z.elim).mono fun _ z => z.elim id id))
def cutL {α : Type} (xs : List α) (lo hi : Option Int) : List α := (xs.drop (HT.sIx xs.length 0 lo)).take (HT.sIx xs.length xs.length hi - HT.sIx xs.length 0 lo)
abbrev UO := VEnv → (Option Int → VEnv → Prop) → Prop
def SndO (t : TO) (u : UO) : Prop := ∀ (σ : St) (env : VEnv) (Z : Set) (H : Hp) (φ : Nat → Set) (Q : Option Int → VEnv → Prop) (R : Option Int → Hp → Prop), Ok Z H env σ φ → u env Q →
  (∀ o env' Z' H' φ', Q o env' → Ok Z' H' env' σ φ' → Res Z H (Uφ φ) Z' H' (Uφ φ') E0s → R o H') → t σ H R
def uNoPart : UO := fun env Q => Q none env
def uPart (u : UB) : UO := fun env Q => u env fun r e => ∃ i, r = .tmp (.int i) ∧ Q (some i) e
theorem snd_nopart : SndO tNoPart uNoPart := fun σ env Z H φ Q R O q k => k none env Z H φ q O Res.refl
theorem snd_part {t : TE} {u : UB} (h : SndB t u) : SndO (tPart t) (uPart u) := fun σ env Z H φ Q R O q k =>
  h σ env Z H φ _ _ O q fun r env1 v Z1 H1 φ1 G ⟨i, e, q1⟩ O1 r1 ok => ⟨i, by subst e; exact own_int.mp (show Own Z1 H1 (.int i) v G from ok), k (some i) env1 Z1 H1 φ1 q1 O1 r1.drop⟩
def uSl (ua : UB) (ul uh : UO) : UB := fun env Q => ua env fun r e1 => ul e1 fun lo e2 => uh e2 fun hi e3 => ∃ o ds, r.at e3 = some (.lst o ds) ∧ bareL ds = true ∧ Q (.tmp (.lst true (cutL ds lo hi))) e3
theorem snd_sl {K : PySem.W.Frag} {t : TE} {u : UB} {tl th : TO} {ul uh : UO} (h : SndB t u) (hl : SndO tl ul) (hh : SndO th uh) : SndB (tSl (rSlG K) t tl th) (uSl u ul uh) := by
  intro σ env Z H φ Q R O q k
  refine h σ env Z H φ _ _ O q fun x1 env1 v1 Z1 H1 φ1 G1 q1 O1 r1 ok1 => ?_
  refine hl σ env1 Z1 H1 φ1 _ _ O1 q1 fun lo env2 Z2 H2 φ2 q2 O2 r2 => ?_
  refine hh σ env2 Z2 H2 φ2 _ _ O2 q2 fun hi env3 Z3 H3 φ3 ⟨o, ds, ea, hb, q3⟩ O3 r3 => ?_
  obtain ⟨r12, _⟩ := r1.seq r2
  have ok2 := (ok1.keep O1 r2 r1.d)
  have ok3 := ok2.keep O2 r3 fun a z y => r12.d a z (.inl y)
  obtain ⟨F, ho⟩ := tree_of O3 ok3 ea
  obtain ⟨a, vs, rfl, hr, hl'⟩ := own_lst ho
  refine ⟨a, vs, rfl, .inl hr, fun p H4 hn hs hp => ?_⟩
  have hc : OwnL Z3 H3 (cutL ds lo hi) (cutV vs lo hi) E0s := by
    unfold cutL cutV
    rw [hl'.length]
    exact ((hl'.bare ds hb).drop _).take _
  have n := New.lst hn hs hp hc
  exact k (.tmp _) env3 _ Z3 H4 φ3 _ q3 (O3.grow hs) (n.res O3 (r12.drop.trans r3)) n.own
def fListOf : List D → (D → Prop) → Prop
  | [.lst _ ds], P => bareL ds = true ∧ P (.lst true ds)
  | [.tup ds], P => bareL ds = true ∧ P (.lst true ds)
  | _, _ => False
theorem fn_listOf {K : PySem.W.Frag} : FnV (fun xs H Q => ∃ p ys, xs = [V.ref p] ∧ (SqL K H p ys ∨ SqT K H p ys) ∧ ∀ l, H l = none → Q (.ref l) (upd H l (.lst ys))) fListOf := by
  intro Z H ds vs P R s f k
  cases s with
  | nil => exact f.elim
  | cons h t =>
    obtain ⟨F, h⟩ := h
    cases t with
    | cons h2 t2 => rename_i d _ _ _ _ _; cases d <;> exact f.elim
    | nil =>
      rename_i d v
      cases d <;> try exact f.elim
      · obtain ⟨a, vs, rfl, hr, hl⟩ := own_tup.mp h
        exact ⟨a, vs, rfl, .inr (.inl (.inl hr)), fun l hn => k _ _ _ _ f.2 (New.lst hn (Same.upd hn) upd_same (hl.bare _ f.1))⟩
      · obtain ⟨a, vs, rfl, hr, hl⟩ := own_lst h
        exact ⟨a, vs, rfl, .inl (.inl hr), fun l hn => k _ _ _ _ f.2 (New.lst hn (Same.upd hn) upd_same (hl.bare _ f.1))⟩
def flat : D → Bool
  | .non => true | .bl _ => true | .int _ => true | .str _ => true | _ => false
def eqFl : D → D → Bool
  | .non, .non => true
  | .bl a, .bl b => a == b
  | .bl a, .int b => (if a then 1 else 0) == b
  | .int a, .bl b => a == (if b then 1 else 0)
  | .int a, .int b => a == b
  | .str a, .str b => a == b
  | _, _ => false
def flV : D → V
  | .non => .non | .bl b => .bl b | .int i => .int i | .str x => .str x | _ => .non
theorem flat_of {Z : Set} {H : Hp} {d : D} {v : V} {F : Set} (h : Own Z H d v F) (e : flat d = true) : flatV v = true ∧ v = flV d := by
  cases d <;> simp only [flat, Bool.false_eq_true] at e
  · rw [own_non.mp h]; exact ⟨rfl, rfl⟩
  · rw [own_bl.mp h]; exact ⟨rfl, rfl⟩
  · rw [own_int.mp h]; exact ⟨rfl, rfl⟩
  · rw [own_str.mp h]; exact ⟨rfl, rfl⟩
theorem eqFl_of {Z : Set} {H : Hp} {d e : D} {v w : V} {F G : Set} (h : Own Z H d v F) (h' : Own Z H e w G) (fd : flat d = true) (fe : flat e = true) : eqV v w = eqFl d e := by
  rw [(flat_of h fd).2, (flat_of h' fe).2]
  cases d <;> (try (simp [flat] at fd; done)) <;> cases e <;> first | rfl | (simp [flat] at fe; done)
theorem inV_of {Z : Set} {H : Hp} {d : D} {v : V} {F : Set} (h : Own Z H d v F) (fd : flat d = true) : ∀ {ds : List D} {vs : List V} {G : Set}, OwnL Z H ds vs G → ds.all flat = true → vs.all flatV = true ∧ inV v vs = ds.any fun x => eqFl x d
  | [], vs, G, hl, _ => by rw [ownL_nil.mp hl]; exact ⟨rfl, rfl⟩
  | e :: ds, vs, G, hl, fl => by
    obtain ⟨w, r, F1, F2, rfl, h1, h3, s1, s2, dj⟩ := ownL_cons.mp hl
    rw [List.all_cons, Bool.and_eq_true] at fl
    obtain ⟨i1, i2⟩ := inV_of h fd h3 fl.2
    refine ⟨by rw [List.all_cons, (flat_of h1 fl.1).1, i1]; rfl, ?_⟩
    show (eqV w v || inV v r) = _
    rw [List.any_cons, i2, eqFl_of h1 h fl.1 fd]
def fIn (neg : Bool) : D → D → (D → Prop) → Prop
  | d, .lst _ ds, P => flat d = true ∧ ds.all flat = true ∧ P (.bl (if neg then !(ds.any fun x => eqFl x d) else ds.any fun x => eqFl x d))
  | d, .tup ds, P => flat d = true ∧ ds.all flat = true ∧ P (.bl (if neg then !(ds.any fun x => eqFl x d) else ds.any fun x => eqFl x d))
  | _, _, _ => False
theorem fn_in {K : PySem.W.Frag} {neg : Bool} : FnV2 (rIn K neg) (fIn neg) := by
  intro Z H d1 d2 v1 v2 F1 F2 P R h1 h2 hf k
  cases d2 <;> try exact hf.elim
  · obtain ⟨f1, f2, p⟩ := hf
    obtain ⟨a, vs, rfl, hr, hl⟩ := own_tup.mp h2
    obtain ⟨i1, i2⟩ := inV_of h1 f1 hl f2
    refine ⟨a, vs, rfl, .inr (.inl (.inl hr)), (flat_of h1 f1).1, i1, ?_⟩
    rw [i2]
    exact k _ _ _ _ p (New.refl (own_bl.mpr rfl))
  · obtain ⟨f1, f2, p⟩ := hf
    obtain ⟨a, vs, rfl, hr, hl⟩ := own_lst h2
    obtain ⟨i1, i2⟩ := inV_of h1 f1 hl f2
    refine ⟨a, vs, rfl, .inl (.inl hr), (flat_of h1 f1).1, i1, ?_⟩
    rw [i2]
    exact k _ _ _ _ p (New.refl (own_bl.mpr rfl))
def fInt : List D → (D → Prop) → Prop
  | [.int i], P => P (.int i)
  | [.bl b], P => P (.int (if b then 1 else 0))
  | _, _ => False
theorem fn_intOf : FnV (fun xs H Q => (∃ i, xs = [V.int i] ∧ Q (.int i) H) ∨ ∃ k, xs = [V.bl k] ∧ Q (.int (if k then 1 else 0)) H) fInt := by
  intro Z H ds vs P R s f k
  cases s with
  | nil => exact f.elim
  | cons h t =>
    obtain ⟨F, h⟩ := h
    cases t with
    | cons h2 t2 => rename_i d _ _ _ _ _; cases d <;> exact f.elim
    | nil =>
      rename_i d v
      cases d <;> try exact f.elim
      · rw [own_bl.mp h]; exact .inr ⟨_, rfl, k _ _ _ _ f (New.refl (own_int.mpr rfl))⟩
      · rw [own_int.mp h]; exact .inl ⟨_, rfl, k _ _ _ _ f (New.refl (own_int.mpr rfl))⟩
def uDNew (t : Bool) : UB := fun env Q => Q (.tmp (.dic true t [] [])) env
end VS
end
section
namespace VS
open PySem L2
section
variable {Z : Set} {H H' : Hp} {env : VEnv} {σ : St} {φ : Nat → Set} {p : Addr}
theorem Ok.at1 (O : Ok Z H env σ φ) (np : ¬ Uφ φ p) (nz : ¬ Z p) (hp : IsM (H p)) (at1 : ∀ b, b ≠ p → H' b = H b) : Ok Z H' env σ φ := by
  refine ⟨fun i d e => let ⟨w, hw, h⟩ := O.own i d e; ⟨w, hw, beside1 nz hp at1 (fun b z y => np ⟨i, by rw [← y]; exact z⟩) h⟩, O.dj, O.fz, fun i a h => ?_, fun a z => ?_, O.len⟩
  · rw [at1 a fun y => np ⟨i, by rw [← y]; exact h⟩]; exact O.fm i a h
  · rw [at1 a fun y => nz (by rw [← y]; exact z)]; exact O.zh a z
theorem Res.atG {Z0 : Set} {H0 : Hp} {F0 F2 G G' : Set} (r : Res Z0 H0 F0 Z H F2 G) (gp : G p) (at1 : ∀ b, b ≠ p → H' b = H b) (hm : IsM (H' p)) (hG : ∀ a, G' a → G a) : Res Z0 H0 F0 Z H' F2 G' := by
  refine ⟨r.z, r.zn, fun a o e n => ?_, r.f, fun a z => r.g a (hG a z), fun a z y => r.d a z (hG a y), fun a z => r.gz a (hG a z), fun a z => ?_⟩
  · have : a ≠ p := fun y => by
      rcases r.g a (by rw [y]; exact gp) with z | z
      · exact n z
      · rw [z] at e; cases e
    rw [at1 a this]; exact r.k a o e n
  · by_cases y : a = p
    · rw [y]; exact hm
    · rw [at1 a y]; exact r.gm a (hG a z)
end
def uDisp1 (uk uv : UB) : UB := fun env Q => uk env fun r1 e1 => uv e1 fun r2 e2 => ∃ kd k d, r1 = .tmp kd ∧ scK kd = some k ∧ r2 = .tmp d ∧ Q (.tmp (.dic true false [.s k] [d])) e2
theorem snd_disp1 {tk tv : TE} {uk uv : UB} (hk : SndB tk uk) (hv : SndB tv uv) : SndB (tDisp [(tk, tv)]) (uDisp1 uk uv) := by
  intro σ env Z H φ Q R O q k p hn
  have r0 : Res Z H (Uφ φ) Z (upd H p (.dK [])) (Uφ φ) (fun a => a = p) := ⟨fun _ z => z, fun _ z => .inl z, fun a o e _ => Same.upd hn a o e, fun _ z => .inl z, fun a z => .inr (by rw [z]; exact hn), fun a ⟨i, z⟩ y => (O.fm i a z).ne (by rw [y]; exact hn), fun a z y => O.zh a y (by rw [z]; exact hn), fun a z => by rw [z, upd_same]; exact trivial⟩
  refine hk σ env Z _ φ _ _ (O.grow (Same.upd hn)) q fun r1 env1 v1 Z1 H1 φ1 G1 q1 O1 s1 ok1 => ?_
  refine hv σ env1 Z1 H1 φ1 _ _ O1 q1 fun r2 env2 v2 Z2 H2 φ2 G2 ⟨kd, kk, d, e1, ek, e2, q2⟩ O2 s2 ok2 => ?_
  subst e1 e2
  obtain ⟨s01, dj01⟩ := r0.seq s1
  obtain ⟨s012, dj012⟩ := s01.seq s2
  have ok1 : Own Z1 H1 kd v1 G1 := ok1
  have ok2 : Own Z2 H2 d v2 G2 := ok2
  have gp : ((fun a => a = p ∨ G1 a) p ∨ G2 p) := .inl (.inl rfl)
  have np : ¬ Uφ φ2 p := fun z => s012.d p z gp
  have nz : ¬ Z2 p := s012.gz p gp
  have h1 : H1 p = some (.dK []) := s1.k p _ upd_same fun ⟨i, z⟩ => (O.fm i p z).ne hn
  have h2 : H2 p = some (.dK []) := s2.k p _ h1 fun z => s01.d p z (.inl rfl)
  have hm : IsM (H2 p) := by rw [h2]; exact trivial
  refine ⟨h2, [(kk, v2)], by rw [own_scK ek ok1]; rfl, by simp, ?_⟩
  have at1 : ∀ b, b ≠ p → upd H2 p (.dK (mergeK [] [(kk, v2)])) b = H2 b := fun b n => upd_ne n
  have ng : ¬ G2 p := dj012 p (.inl rfl)
  refine k (.tmp _) env2 (.ref p) Z2 _ φ2 (fun a => G2 a ∨ a = p) q2 (O2.at1 np nz hm at1) (s012.atG (p := p) gp at1 (by rw [upd_same]; exact trivial) fun a z => z.elim .inr fun z => .inl (.inl z)) ?_
  show Own Z2 _ (.dic true false [.s kk] [d]) (.ref p) _
  refine own_dicT.mpr ⟨p, [v2], _, rfl, upd_same, ⟨[kk], rfl, rfl, by simp, rfl⟩, .inr rfl, ?_⟩
  exact ownL_cons.mpr ⟨v2, [], G2, E0s, rfl, beside1 nz hm at1 (fun b z y => ng (by rw [← y]; exact z)) ok2, ownL_nil.mpr rfl, fun a z => ⟨.inl z, fun y => ng (by rw [← y]; exact z)⟩, fun _ z => z.elim, fun _ _ z => z⟩
def fDictOf : List D → (D → Prop) → Prop
  | [.dic _ false ks ds], P => bareL ds = true ∧ P (.dic true false ks ds)
  | _, _ => False
theorem fn_dictOf : FnV (fun xs H Q => ∃ a kvs, xs = [V.ref a] ∧ Rd H a (.dK kvs) ∧ ∀ q, H q = none → Q (.ref q) (upd H q (.dK kvs))) fDictOf := by
  intro Z H ds vs P R s f k
  cases s with
  | nil => exact f.elim
  | cons h t =>
    obtain ⟨F, h⟩ := h
    cases t with
    | cons h2 t2 =>
      rename_i d _ _ _ _ _
      cases d <;> try exact f.elim
      rename_i t _ _
      cases t <;> exact f.elim
    | nil =>
      rename_i d v
      cases d <;> try exact f.elim
      rename_i o t ks ds
      cases t <;> try exact f.elim
      obtain ⟨a, vs, u, rfl, hr, ⟨kl, rfl, hl1, hnd, rfl⟩, hl⟩ := own_dic h
      refine ⟨a, _, rfl, hr, fun q hn => k _ _ _ (fun a => a = q) f.2 ⟨Same.upd hn, own_dicT.mpr ⟨q, vs, _, rfl, upd_same, ⟨kl, rfl, hl1, hnd, rfl⟩, rfl, ((hl.bare _ f.1).grow (Same.upd hn)).mono fun _ z => z.elim⟩, fun b z => by subst z; exact ⟨hn, by rw [upd_same]; exact trivial⟩⟩⟩
structure DAcc (t : Bool) where
  ks : List DK
  ds : List D
instance {t : Bool} : Acc (DAcc t) := ⟨(·.ds), fun a u vs => DictAt t u a.ks vs, fun {a u vs} h => by
  cases t with
  | false => obtain ⟨_, _, _, _, rfl⟩ := h; exact trivial
  | true => obtain ⟨_, _, _, _, rfl⟩ := h; exact trivial⟩
def emitDU {t : Bool} (uk uv : UB) : UL (DAcc t) := fun acc e k => uk e fun r1 e1 => uv e1 fun r2 e2 => ∃ kd kk d, r1 = .tmp kd ∧ keyOf t kd = some kk ∧ r2 = .tmp d ∧ acc.ds.length ≤ 1000000 ∧ k ⟨(dput acc.ks acc.ds kk d).1, (dput acc.ks acc.ds kk d).2⟩ e2
def uCompD (t : Bool) (n : Nat) (ui : UI) (ug : UG) (ut : UT) (ul : UL (DAcc t)) : UB := fun env Q => ui env fun items e => loopU ug ut ul (fun acc e' => Q (.tmp (.dic true t acc.ks acc.ds)) (e'.drop n)) items ⟨[], []⟩ (List.replicate n none ++ e)
end VS
end
section
namespace L2
open PySem PySem.Spec PyProof.Rows
def Ite (K : PySem.W.Frag) (a : Addr) : It :=
  ⟨fun i H => ∃ xs x, SqL K H a xs ∧ xs[i]? = some x, fun i H x H' => ∃ T y, x = .ref T ∧ H T = none ∧ H' = upd H T (.tup [.int i, y]) ∧ ∀ xs, SqL K H a xs → xs[i]? = some y, fun i H => ∃ xs, SqL K H a xs ∧ xs.length ≤ i⟩
def iEnum (K : PySem.W.Frag) (ta : TA) : TI := fun σ H R => ta σ H fun vs H1 => ∃ a, vs = [.ref a] ∧ (∃ xs, SqL K H1 a xs) ∧ R (Ite K a) H1
def NoFz (X : Cx) (a : Addr) : Prop := ∀ o v, X.H₀ a ≠ some (.frz o v)
theorem Inv.thaw {X : Cx} {pins : List (Addr × Obj)} {σ : St} {H : Hp} {s : Shared} {a : Addr} {ob : Obj} {kvs : List (Key × V)} (I : Inv X pins σ H s) (n : NoFz X a) (e : H a = some (.frz ob (.dK kvs))) : Inv X pins σ (upd H a (.dK kvs)) s := by
  have hne : ∀ b u, H b = some u → u ≠ .frz ob (.dK kvs) → b ≠ a := fun b u q n z => n (by rw [z, e] at q; exact (Option.some.inj q).symm)
  have nn : ∀ b, H b = none → b ≠ a := fun b q z => by rw [z, e] at q; cases q
  have st : ∀ {c : Addr} {w : HO}, ObjOk X.prog X.w H s.heap c w → ObjOk X.prog X.w (upd H a (.dK kvs)) s.heap c w := fun y => y.stay (fun _ _ _ q => q) (fun c q => by rw [upd_ne (hne c _ q (by intro z; cases z))]; exact q) fun c ys q => by rw [upd_ne (hne c _ q (by intro z; cases z))]; exact q
  have hok : HOk X.prog X.w (upd H a (.dK kvs)) s.heap := fun b u q => by
    by_cases hb : b = a
    · subst hb; rw [upd_same] at q; cases q; exact st (I.hok b _ e).2
    · rw [upd_ne hb] at q; exact st (I.hok b u q)
  refine ⟨I.ok, I.os, I.bare, ⟨I.base.keep, I.base.slot, fun b o q n' hx => ?_, I.base.there, fun b ys q => ?_, fun b o u q => ?_, fun b ps q => ?_⟩, I.loc, I.cell, ?_, fun x c q => ?_, fun p hp => ?_, hok, I.len⟩
  · have := I.base.free b o q n' hx
    rw [upd_ne (nn b this)]; exact this
  · have := I.base.tups b ys q
    rw [upd_ne (hne b _ this (by intro z; cases z))]; exact this
  · have h1 := I.base.frzs b o u q
    have hb : b ≠ a := fun z => by rw [z] at q; exact n o u q
    rw [upd_ne hb]; exact h1
  · obtain ⟨more, h1⟩ := I.base.tbls b ps q
    exact ⟨more, by rw [upd_ne (hne b _ h1 (by intro z; cases z))]; exact h1⟩
  · rw [upd_ne (nn _ I.free)]; exact I.free
  · rw [upd_ne (nn _ (I.freeC x c q))]; exact I.freeC x c q
  · obtain ⟨h1, h2, h3, h4, h5⟩ := I.pin p hp
    exact ⟨h1, by rw [upd_ne (nn _ h2)]; exact h2, h3, h4, h5⟩
def Thw (X : Cx) (H H' : Hp) : Prop := ∃ a ob kvs, H a = some (.frz ob (.dK kvs)) ∧ ((H' = H) ∨ (NoFz X a ∧ H' = upd H a (.dK kvs)))
theorem Inv.thw {X : Cx} {pins : List (Addr × Obj)} {σ : St} {H H' : Hp} {s : Shared} (I : Inv X pins σ H s) (t : Thw X H H') : Inv X pins σ H' s := by
  obtain ⟨a, ob, kvs, e, h | ⟨n, h⟩⟩ := t
  · rw [h]; exact I
  · rw [h]; exact I.thaw n e
def thwE (X : Cx) (D : Ends) : Ends := ⟨fun σ H => ∃ H', Thw X H H' ∧ D.nx σ H', fun v H => ∃ H', Thw X H H' ∧ D.rt v H', fun σ H => ∃ H', Thw X H H' ∧ D.bk σ H', fun σ H => ∃ H', Thw X H H' ∧ D.ct σ H'⟩
def tThwS (X : Cx) (t : TS) : TS := fun D σ H => t (thwE X D) σ H
def tThwE (X : Cx) (t : TE) : TE := fun σ H Q => t σ H fun v H1 => ∃ H2, Thw X H1 H2 ∧ Q v H2
def Itd (a : Addr) (ob : Obj) (kvs : List (Key × V)) : It := ⟨fun i H => H a = some (.frz ob (.dK kvs)) ∧ i < kvs.length, fun i H x H' => H' = H ∧ ∃ kv, kvs[i]? = some kv ∧ x = kV kv.1, fun i H => H a = some (.frz ob (.dK kvs)) ∧ kvs.length ≤ i⟩
def iDict (X : Cx) (td : TE) : TI := fun σ H R => td σ H fun x H1 => ∃ a kvs, x = .ref a ∧ Rd H1 a (.dK kvs) ∧ ∀ ob H2, (∀ b, b ≠ a → H2 b = H1 b) → H2 a = some (.frz ob (.dK kvs)) → ((H1 a = some (.dK kvs) ∧ NoFz X a) ∨ H2 = H1) → R (Itd a ob kvs) H2
end L2
end
section
namespace VS
open PySem L2
def pairsD : Nat → List D → List D
  | _, [] => []
  | i, d :: ds => .tup [.int i, d] :: pairsD (i + 1) ds
def uEnum (f : VEnv → Ref → Option (List D)) (ua : UB) : UI := fun env Q => ua env fun r e => ∃ ds, f e r = some ds ∧ Q (pairsD 0 ds) e
section
variable {Z : Set} {H H' : Hp} {a : Addr} {kvs : List (Key × V)}
structure Sw (Z : Set) (H H' : Hp) (a : Addr) (kvs : List (Key × V)) : Prop where
  z : Z a
  r : Rd H a (.dK kvs)
  r' : Rd H' a (.dK kvs)
  k : ∀ b, b ≠ a → H' b = H b
theorem Sw.symm (s : Sw Z H H' a kvs) : Sw Z H' H a kvs := ⟨s.z, s.r', s.r, fun b n => (s.k b n).symm⟩
theorem rd_not {H : Hp} {a : Addr} {x : List (Key × V)} {u : HO} (h : Rd H a (.dK x)) (h' : Rd H a u) (hu : ∀ o w, u ≠ .frz o w) : u = .dK x := by
  rcases h with h | ⟨o, h⟩ <;> rcases h' with h' | ⟨o', h'⟩
  · rw [h] at h'; cases h'; rfl
  · rw [h] at h'; cases h'
  · rw [h] at h'; cases h'; exact absurd rfl (hu _ _)
  · rw [h] at h'; cases h'; rfl
theorem Sw.rd (s : Sw Z H H' a kvs) {b : Addr} {u : HO} (hu : ∀ o w, u ≠ .frz o w) (h : Rd H b u) : Rd H' b u := by
  by_cases e : b = a
  · subst e
    rw [rd_not s.r h hu]; exact s.r'
  · rcases h with h | ⟨o, h⟩
    · exact .inl (by rw [s.k b e]; exact h)
    · exact .inr ⟨o, by rw [s.k b e]; exact h⟩
theorem Sw.tup (s : Sw Z H H' a kvs) {b : Addr} {vs : List V} (h : H b = some (.tup vs)) : H' b = some (.tup vs) := by
  rw [s.k b fun e => ?_]
  · exact h
  · subst e
    rcases s.r with q | ⟨o, q⟩ <;> (rw [h] at q; cases q)
theorem dictAt_nofz {t : Bool} {u : HO} {ks : List DK} {vs : List V} (h : DictAt t u ks vs) : ∀ o w, u ≠ .frz o w := by
  cases t with
  | false => obtain ⟨_, _, _, _, rfl⟩ := h; intro o w z; cases z
  | true => obtain ⟨_, _, _, _, rfl⟩ := h; intro o w z; cases z
mutual
theorem Own.sw (s : Sw Z H H' a kvs) : ∀ (d : D) {v : V} {F : Set}, ¬ F a → Own Z H d v F → Own Z H' d v F
  | .non, v, F, _, h => by simpa only [Own] using h
  | .bl b, v, F, _, h => by simpa only [Own] using h
  | .int i, v, F, _, h => by simpa only [Own] using h
  | .str x, v, F, _, h => by simpa only [Own] using h
  | .fn b, v, F, _, h => by simpa only [Own] using h
  | .tup ds, v, F, nf, h => by
    simp only [Own] at h ⊢
    obtain ⟨b, vs, e, hr, hl⟩ := h
    exact ⟨b, vs, e, s.tup hr, OwnL.sw s ds nf hl⟩
  | .lst true ds, v, F, nf, h => by
    simp only [Own] at h ⊢
    obtain ⟨b, vs, e, hr, ha, hl⟩ := h
    exact ⟨b, vs, e, by rw [s.k b fun z => nf (by rw [← z]; exact ha)]; exact hr, ha, OwnL.sw s ds (fun z => nf z.1) hl⟩
  | .lst false ds, v, F, nf, h => by
    simp only [Own] at h ⊢
    obtain ⟨b, vs, e, hr, ha, hl⟩ := h
    exact ⟨b, vs, e, s.rd (by intro o w z; cases z) hr, ha, OwnL.sw s ds (fun z => z) hl⟩
  | .dic true t ks ds, v, F, nf, h => by
    simp only [Own] at h ⊢
    obtain ⟨b, vs, u, e, hr, hd, ha, hl⟩ := h
    exact ⟨b, vs, u, e, by rw [s.k b fun z => nf (by rw [← z]; exact ha)]; exact hr, hd, ha, OwnL.sw s ds (fun z => nf z.1) hl⟩
  | .dic false t ks ds, v, F, nf, h => by
    simp only [Own] at h ⊢
    obtain ⟨b, vs, u, e, hr, hd, ha, hl⟩ := h
    exact ⟨b, vs, u, e, s.rd (dictAt_nofz hd) hr, hd, ha, OwnL.sw s ds (fun z => z) hl⟩
theorem OwnL.sw (s : Sw Z H H' a kvs) : ∀ (ds : List D) {vs : List V} {F : Set}, ¬ F a → OwnL Z H ds vs F → OwnL Z H' ds vs F
  | [], vs, F, _, h => by simpa only [OwnL] using h
  | d :: ds, vs, F, nf, h => by
    simp only [OwnL] at h ⊢
    obtain ⟨v, r, F1, F2, e, h1, h2, s1, s2, dj⟩ := h
    exact ⟨v, r, F1, F2, e, Own.sw s d (fun z => nf (s1 a z)) h1, OwnL.sw s ds (fun z => nf (s2 a z)) h2, s1, s2, dj⟩
end
theorem Ok.sw {env : VEnv} {σ : St} {φ : Nat → Set} (O : Ok Z H env σ φ) (s : Sw Z H H' a kvs) : Ok Z H' env σ φ := by
  have na : ∀ i, ¬ φ i a := fun i z => O.fz i a z s.z
  refine ⟨fun i d e => let ⟨w, hw, h⟩ := O.own i d e; ⟨w, hw, Own.sw s d (na i) h⟩, O.dj, O.fz, fun i b h => ?_, fun b z y => ?_, O.len⟩
  · rw [s.k b fun z => na i (by rw [← z]; exact h)]; exact O.fm i b h
  · by_cases e : b = a
    · subst e
      rcases s.r' with q | ⟨o, q⟩ <;> (rw [q] at y; cases y)
    · rw [s.k b e] at y; exact O.zh b z y
end
def keyD : DK → D
  | .s (.inl n) => .int n
  | .s (.inr x) => .str x
  | .t _ => .non
def itemsDk (e : VEnv) : Ref → Option (List D)
  | .var i => match e[i]? with
    | some (some (.dic false false ks _)) => some (ks.map keyD)
    | _ => none
  | .tmp (.dic _ false ks _) => some (ks.map keyD)
  | _ => none
theorem Res.sw {Z1 Z' : Set} {H1 H2 H' H'' : Hp} {F1 F' G : Set} {a : Addr} {kvs : List (Key × V)} (s1 : Sw Z1 H1 H2 a kvs) (nf : ¬ F1 a) (r : Res Z1 H2 F1 Z' H' F' G) (s2 : Sw Z' H' H'' a kvs) (ea : H'' a = H1 a) : Res Z1 H1 F1 Z' H'' F' G := by
  have nn : ∀ b, H2 b = none → H1 b = none := fun b q => by
    by_cases e : b = a
    · subst e
      rcases s1.r' with z | ⟨o, z⟩ <;> (rw [z] at q; cases q)
    · rw [← s1.k b e]; exact q
  refine ⟨r.z, fun b z => (r.zn b z).imp id fun z => z.imp id (nn b), fun b o e n => ?_, fun b z => (r.f b z).imp id (nn b), fun b z => (r.g b z).imp id (nn b), r.d, r.gz, fun b z => ?_⟩
  · by_cases y : b = a
    · subst y; rw [ea]; exact e
    · rw [s2.k b y]; exact r.k b o (by rw [s1.k b y]; exact e) n
  · rw [s2.k b fun y => r.gz b z (by rw [y]; exact s2.z)]; exact r.gm b z
theorem thw_of {X : Cx} {Z1 Z' : Set} {H1 H2 H' : Hp} {F1 F' G : Set} {a : Addr} {ob : Obj} {kvs : List (Key × V)} (s1 : Sw Z1 H1 H2 a kvs) (nf : ¬ F1 a) (h2 : H2 a = some (.frz ob (.dK kvs))) (c : (H1 a = some (.dK kvs) ∧ NoFz X a) ∨ H2 = H1) (r : Res Z1 H2 F1 Z' H' F' G) :
    ∃ H'', Thw X H' H'' ∧ Sw Z' H' H'' a kvs ∧ H'' a = H1 a := by
  have h' : H' a = some (.frz ob (.dK kvs)) := r.k a _ h2 nf
  rcases c with ⟨h1, n⟩ | e
  · exact ⟨upd H' a (.dK kvs), ⟨a, ob, kvs, h', .inr ⟨n, rfl⟩⟩, ⟨r.z a s1.z, .inr ⟨ob, h'⟩, .inl upd_same, fun b n => upd_ne n⟩, by rw [upd_same, h1]⟩
  · exact ⟨H', ⟨a, ob, kvs, h', .inl rfl⟩, ⟨r.z a s1.z, .inr ⟨ob, h'⟩, .inr ⟨ob, h'⟩, fun _ _ => rfl⟩, by rw [h', ← e, h2]⟩
theorem KEs.thw {I : Nat → Bool} {X : Cx} {Z1 : Set} {H1 H2 : Hp} {F1 : Set} {σ : St} {D : UEnds} {E : Ends} {a : Addr} {ob : Obj} {kvs : List (Key × V)} (k : KEs I Z1 H1 F1 σ D E) (s1 : Sw Z1 H1 H2 a kvs) (nf : ¬ F1 a) (h2 : H2 a = some (.frz ob (.dK kvs))) (c : (H1 a = some (.dK kvs) ∧ NoFz X a) ∨ H2 = H1) : KEs I Z1 H2 F1 σ D (thwE X E) := by
  have kn : ∀ {P : VEnv → Prop} {K : St → Hp → Prop}, KN I Z1 H1 F1 σ P K → KN I Z1 H2 F1 σ P (fun σ H => ∃ H', Thw X H H' ∧ K σ H') := fun k env' σ' Z' H' φ' p O r kp => by
    obtain ⟨H'', t, s2, ea⟩ := thw_of s1 nf h2 c r
    exact ⟨H'', t, k env' σ' Z' H'' φ' p (O.sw s2) (r.sw s1 nf s2 ea) kp⟩
  refine ⟨kn k.nx, fun d env' v σ' Z' H' φ' G p O r ho kp => ?_, kn k.bk, kn k.ct⟩
  obtain ⟨H'', t, s2, ea⟩ := thw_of s1 nf h2 c r
  exact ⟨H'', t, k.rt d env' v σ' Z' H'' φ' G p (O.sw s2) (r.sw s1 nf s2 ea) (Own.sw s2 d (fun z => r.gz a z s2.z) ho) kp⟩
end VS
end
section
namespace VS
open PySem L2
structure VE (X : Cx) (e : Expr) (u : UB) : Prop where
  ex : ∃ t, PE X e t ∧ SndB t u
structure VX (X : Cx) (e : Expr) (u : UX) : Prop where
  ex : ∃ t, PE X e t ∧ SndX t u
structure VT (X : Cx) (e : Expr) (u : UT) : Prop where
  ex : ∃ t, PT X e t ∧ SndT t u
structure VW (X : Cx) (e : Expr) (u : UT) : Prop where
  ex : ∃ t, PW X e t ∧ SndT t u
structure VA (X : Cx) (es : List Expr) (u : UA) : Prop where
  ex : ∃ t, PA X es t ∧ SndA t u
structure VO (X : Cx) (e : Option Expr) (u : UO) : Prop where
  ex : ∃ t, PO X e t ∧ SndO t u
structure VG (I : Nat → Bool) (X : Cx) (e : Expr) (u : UG) : Prop where
  ex : ∃ t, PG X e t ∧ SndG I t u
structure VGs (I : Nat → Bool) (X : Cx) (es : List Expr) (u : UGs) : Prop where
  ex : ∃ t, PGs X es t ∧ SndGs I t u
structure VI (X : Cx) (tg e : Expr) (u : UI) : Prop where
  ex : ∃ t, PI X tg e t ∧ SndI t u
structure VTs (X : Cx) (es : List Expr) (u : UT) : Prop where
  ex : ∃ t, PTs X es t ∧ SndT t u
structure VL {α : Type} [Acc α] (I : Nat → Bool) (X : Cx) (inner : Value → PySem.Env → Sem Unit) (u : UL α) : Prop where
  ex : ∀ p, ∃ tl, PN X (inner (.ref p) X.env) tl ∧ SndL I p tl u
structure VSt (I : Nat → Bool) (X : Cx) (s : Stmt) (u : US) : Prop where
  ex : ∃ t, PS X s t ∧ SndS I t u
structure VSs (I : Nat → Bool) (X : Cx) (ss : List Stmt) (u : US) : Prop where
  ex : ∃ t, PSs X ss t ∧ SndS I t u
section
variable {I : Nat → Bool} {X : Cx} {a b c e o l v : Expr} {es : List Expr} {ua ub uc ue uk uv uy : UB} {wa : UA} {ut ut' : UT} {x name : Str} {p pos pos' apos cpos : Pos} {r r' : R2} {f f' : D → D → (D → Prop) → Prop} {i n k : Nat} {T id : String} {ss sa sb : List Stmt} {s : Stmt} {w w' : US}
theorem ve_place (hN : X.N[i]? = some x) (hv : Vis X.env.scope x) (hd : (x == ("__debug__" : Str)) = false := by decide) (hcd : (x == ("__classdict__" : Str)) = false := by decide) : VE X (.Name x pos) (uPlace' i) := ⟨_, pe_var hN hv hd hcd, snd_place⟩
theorem ve_copy (hN : X.N[i]? = some x) (hv : Vis X.env.scope x) (hd : (x == ("__debug__" : Str)) = false := by decide) (hcd : (x == ("__classdict__" : Str)) = false := by decide) : VE X (.Name x pos) (uCopy i) := ⟨_, pe_var hN hv hd hcd, snd_copy⟩
theorem ve_move (hN : X.N[i]? = some x) (hv : Vis X.env.scope x) (hd : (x == ("__debug__" : Str)) = false := by decide) (hcd : (x == ("__classdict__" : Str)) = false := by decide) : VE X (.Name x pos) (uMove i) := ⟨_, pe_var hN hv hd hcd, snd_move⟩
theorem ve_int {j m} : VE X (.Constant (.int j) m pos) (uC (.int j)) := ⟨_, pe_int, snd_c⟩
theorem ve_bl {j m} : VE X (.Constant (.bool j) m pos) (uC (.bl j)) := ⟨_, pe_bl, snd_c⟩
theorem ve_str {j m} : VE X (.Constant (.str j) m pos) (uC (.str j)) := ⟨_, pe_str, snd_c⟩
theorem vx_int {j m} : VX X (.Constant (.int j) m pos) (xC (.int j)) := ⟨_, pe_int, sx_c⟩
theorem ve_op2 {op : Operator} (ho : OpR X (binaryOp op) r) (hf : FnV2 r f) (ha : VE X a ua) (hb : VE X b ub) : VE X (.BinOp a op b pos) (uFn2 f ua ub) := let ⟨_, h1, s1⟩ := ha.ex; let ⟨_, h2, s2⟩ := hb.ex; ⟨_, pe_op ho h1 h2, snd_fn2 s1 s2 hf⟩
theorem ve_neg (ha : VE X a ua) : VE X (.UnaryOp .USub a pos) (uFn1 (fU fun i => .int (-i)) ua) := let ⟨_, h1, s1⟩ := ha.ex; ⟨_, pe_un un_neg h1, snd_fn1 s1 fn_neg⟩
theorem ve_cmp2 {op : CmpOp} (ho : OpR X (compareOp op) r) (hf : FnV2 r f) (ha : VE X a ua) (hb : VE X b ub) (hm : behindInMarks op b = false) : VE X (.Compare a [op] [b] pos) (uFn2 f ua ub) := let ⟨_, h1, s1⟩ := ha.ex; let ⟨_, h2, s2⟩ := hb.ex; ⟨_, pe_cmpR ho h1 h2 hm, snd_fn2 s1 s2 hf⟩
theorem vt_cmp2 {op : CmpOp} (ho : OpR X (compareOp op) r) (hf : FnV2 r f) (ha : VE X a ua) (hb : VE X b ub) (hm : behindInMarks op b = false) : VT X (.Compare a [op] [b] pos) (uTest (uFn2 f ua ub)) := let ⟨_, h1, s1⟩ := ha.ex; let ⟨_, h2, s2⟩ := hb.ex; ⟨_, pt_cmpR ho h1 h2 hm, snd_test (snd_fn2 s1 s2 hf)⟩
structure VC (X : Cx) (op : CmpOp) (a b : Expr) (u : UB) : Prop where
  ex : ∃ t, PC X op a b t ∧ SndB t u
theorem vt_cmp {op : CmpOp} (h : VC X op a b ue) (h1 : behindInMarks op b = false := by first | exact nobehind _ (by decide) (by decide) | rfl) : VT X (.Compare a [op] [b] pos) (uTest ue) := let ⟨_, q, s⟩ := h.ex; ⟨_, pt_cmp q h1, snd_testB s⟩
theorem vc_isN {j pos'} (ha : VE X a ua) : VC X .Is a (.Constant .none j pos') (uFn1 (fIsN false) ua) := let ⟨_, h1, s1⟩ := ha.ex; ⟨_, pc_isN h1, snd_isN s1⟩
theorem vt_not (h : VT X a ut) : VT X (.UnaryOp .Not a pos) (uNot ut) := let ⟨_, q, s⟩ := h.ex; ⟨_, pt_not q, snd_not s⟩
theorem VW.vt (h : VW X e ut) : VT X e ut := let ⟨_, q, s⟩ := h.ex; ⟨_, q.pt, s⟩
theorem vw_and1 (h : VT X a ut) : VW X (.BoolOp .And [a] pos) ut := let ⟨_, q, s⟩ := h.ex; ⟨_, pw_and1 q, s⟩
theorem vw_or1 (h : VT X a ut) : VW X (.BoolOp .Or [a] pos) ut := let ⟨_, q, s⟩ := h.ex; ⟨_, pw_or1 q, s⟩
theorem vw_and (h : VT X a ut) (h' : VW X (.BoolOp .And (b :: es) pos) ut') : VW X (.BoolOp .And (a :: b :: es) pos) (uAnd ut ut') := let ⟨_, q, s⟩ := h.ex; let ⟨_, q', s'⟩ := h'.ex; ⟨_, pw_and q q', snd_and s s'⟩
theorem vw_or (h : VT X a ut) (h' : VW X (.BoolOp .Or (b :: es) pos) ut') : VW X (.BoolOp .Or (a :: b :: es) pos) (uOr ut ut') := let ⟨_, q, s⟩ := h.ex; let ⟨_, q', s'⟩ := h'.ex; ⟨_, pw_or q q', snd_or s s'⟩
theorem vt_truth (h : VE X a ua) (he : ∀ whole, isTrue a X.env whole = (do let v ← whole; standAt a.pos; holding [v] (truthy v))) : VT X a (uTruth ua) := let ⟨_, q, s⟩ := h.ex; ⟨_, pt_truth q he, snd_truth s⟩
theorem ve_one {op} (h : VE X a ua) : VE X (.BoolOp op [a] pos) ua := let ⟨_, q, s⟩ := h.ex; ⟨_, pe_one q, s⟩
theorem ve_and (h : VE X a ua) (h' : VE X (.BoolOp .And (b :: es) pos) ub) : VE X (.BoolOp .And (a :: b :: es) pos) (uAndV ua ub) := let ⟨_, q, s⟩ := h.ex; let ⟨_, q', s'⟩ := h'.ex; ⟨_, pe_and q q', snd_andV s s'⟩
theorem ve_not (h : VE X a ua) : VE X (.UnaryOp .Not a pos) (uNotV ua) := let ⟨_, q, s⟩ := h.ex; ⟨_, pe_not q, snd_notV s⟩
theorem ve_if (hc : VT X c ut) (h : VE X a ua) (h' : VE X b ub) : VE X (.IfExp c a b pos) (uIf ut ua ub) := let ⟨_, q0, s0⟩ := hc.ex; let ⟨_, q, s⟩ := h.ex; let ⟨_, q', s'⟩ := h'.ex; ⟨_, pe_ifExp q0 q q', snd_ifE s0 s s'⟩
theorem va_nil : VA X [] uNil := ⟨_, pa_nil, snd_nil⟩
theorem va_cons (ha : VE X e ue) (hr : VA X es wa) (h : plainE e = true := by rfl) : VA X (e :: es) (uCons ue wa) := let ⟨_, q, s⟩ := ha.ex; let ⟨_, q', s'⟩ := hr.ex; ⟨_, pa1 q q' h, snd_cons s s'⟩
theorem ve_tup {m} (h : VA X es wa) : VE X (.Tuple es m pos) (uTup wa) := let ⟨_, q, s⟩ := h.ex; ⟨_, pe_tupG q, snd_tup s⟩
theorem ve_lst (h : VA X es wa) : VE X (.List es pos) (uLst wa) := let ⟨_, q, s⟩ := h.ex; ⟨_, pe_lstG q, snd_lst s⟩
theorem ve_ix (hr : IxR X r) (hf : FnV2 r f) (ha : VE X a ua) (hb : VE X b ub) (hs : PlainIx b) : VE X (.Subscript a b pos) (uFn2 f ua ub) := let ⟨_, h1, s1⟩ := ha.ex; let ⟨_, h2, s2⟩ := hb.ex; ⟨_, pe_ix hr h1 h2 hs, snd_fn2 s1 s2 hf⟩
theorem ve_get2 (hu : X.A.units + 1 < cLine) (ho : VE X o ua) (ha : VE X a ub) (hb : VE X b uc) (m : M2 X o "get" apos a b cpos) : VE X (.Call (.Attribute o "get" apos) [a, b] [] cpos) (uGet2 ua ub uc) := let ⟨_, h1, s1⟩ := ho.ex; let ⟨_, h2, s2⟩ := ha.ex; let ⟨_, h3, s3⟩ := hb.ex; ⟨_, pe_dget2 hu h1 h2 h3 m, snd_get2 s1 s2 s3⟩
theorem vo_none : VO X none uNoPart := ⟨_, po_none, snd_nopart⟩
theorem vo_some (h : VE X e ue) : VO X (some e) (uPart ue) := let ⟨_, q, s⟩ := h.ex; ⟨_, po_some q, snd_part s⟩
theorem ve_slice {lo hi : Option Expr} {ul uh : UO} {p2 : Pos} (h : VE X e ue) (hl : VO X lo ul) (hh : VO X hi uh) : VE X (.Subscript e (.Slice lo hi none p2) pos) (uSl ue ul uh) := let ⟨_, q, s⟩ := h.ex; let ⟨_, q1, s1⟩ := hl.ex; let ⟨_, q2, s2⟩ := hh.ex; ⟨_, pe_slice sl_listG q q1 q2, snd_sl s s1 s2⟩
theorem ve_call {ms : List Bool} {m : USp} (O : L2.Own X.prog X.w X.K X.mg X.base x k (spU ms m)) (hr : Room k X.A) (ha : VA X (e :: es) wa) (hg : Gl X x) (hdb : (x == ("__debug__" : Str)) = false := by decide) (h1 : plainE e = true := by rfl) (h2 : es.all plainE = true := by rfl) : VE X (.Call (.Name x p) (e :: es) [] pos) (uCall ms m wa) :=
  let ⟨_, q, s⟩ := ha.ex; ⟨_, own1 O hr q hg hdb h1 h2, snd_call s⟩
theorem ve_callB {r : List V → Hp → VK → Prop} {f : List D → (D → Prop) → Prop} (hc : CallR X (.builtin id) r) (hf : FnV r f) (hg : Gl X x) (hm : X.mg x = none) (hv : bootBuiltins x = some (.builtin id)) (ha : VA X (e :: es) wa) (hn : x ≠ "__name__" := by decide) (hdb : (x == ("__debug__" : Str)) = false := by decide) (h1 : plainE e = true := by rfl) (h2 : es.all plainE = true := by rfl) : VE X (.Call (.Name x p) (e :: es) [] pos) (uFn f wa) :=
  let ⟨_, q, s⟩ := ha.ex; ⟨_, callB1 hc hg hm hv q hn hdb h1 h2, snd_fn s hf⟩
theorem ve_callTy {r : List V → Hp → VK → Prop} {f : List D → (D → Prop) → Prop} (hc : CallR X (.type T) r) (hf : FnV r f) (hg : Gl X x) (hm : X.mg x = none) (hv : bootBuiltins x = some (.type T)) (ha : VA X (e :: es) wa) (hn : x ≠ "__name__" := by decide) (hdb : (x == ("__debug__" : Str)) = false := by decide) (h1 : plainE e = true := by rfl) (h2 : es.all plainE = true := by rfl) : VE X (.Call (.Name x p) (e :: es) [] pos) (uFn f wa) :=
  let ⟨_, q, s⟩ := ha.ex; ⟨_, callTy1 hc hg hm hv q hn hdb h1 h2, snd_fn s hf⟩
theorem ve_disp1 (ha : VE X a ua) (hb : VE X b ub) : VE X (.Dict [some a] [b] pos) (uDisp1 ua ub) := let ⟨_, h1, s1⟩ := ha.ex; let ⟨_, h2, s2⟩ := hb.ex; ⟨_, pe_disp (pps_cons h1 h2 pps_nil) rfl rfl (by simp) (by simp), snd_disp1 s1 s2⟩
theorem vg_name (hI : I i = false) (hN : X.N.Nodup) (hi : X.N[i]? = some x) (hx : Loc X.env.scope x) (hf : X.fn x = true ∨ X.env.scope.names.lookup x = some .local) : VG I X (.Name x pos) (uName i) := ⟨_, pg_name hN hi hx hf, snd_gname hI⟩
theorem vg_nameF (hI : I i = false) (hN : X.N.Nodup) (hi : X.N[i]? = some x) (hx : Loc X.env.scope x) (hf : X.fn x = true ∨ X.env.scope.names.lookup x = some .local) : VG I X (.Name x pos) (uNameF i) := ⟨_, pg_name hN hi hx hf, snd_gnameF hI⟩
theorem vgs_nil : VGs I X [] uGNil := ⟨_, pgs_nil, snd_gnil⟩
theorem vgs_cons {g : UG} {gs : UGs} (h : VG I X e g) (h' : VGs I X es gs) (hs : (assignEach (e :: es) X.env).map (·.2) = assign e X.env :: (assignEach es X.env).map (·.2) := by rfl) : VGs I X (e :: es) (uGCons g gs) := let ⟨_, q, s⟩ := h.ex; let ⟨_, q', s'⟩ := h'.ex; ⟨_, pgs_cons q q' hs, snd_gcons s s'⟩
theorem vg_tup {m : Nat} {gs : UGs} (hc : X.calm = true) (h : VGs I X es gs) (hn : (assignEach es X.env).length = n := by rfl) (hst : (assignEach es X.env).findIdx? (·.1) = none := by rfl) : VG I X (.Tuple es m pos) (uGTup n gs) := let ⟨_, q, s⟩ := h.ex; ⟨_, pg_tup hc q hn hst, snd_gtup s⟩
theorem vi_list {tg : Expr} (h : VE X l ue) : VI X tg l (uSrc itemsL ue) := let ⟨_, q, s⟩ := h.ex; ⟨_, pi_list q, snd_iList s⟩
theorem vi_tup {tg : Expr} (h : VE X l ue) : VI X tg l (uSrc itemsT ue) := let ⟨_, q, s⟩ := h.ex; ⟨_, pi_tup q, snd_iTup s⟩
theorem vi_rng1 {tg : Expr} (hg : Gl X "range") (hm : X.mg "range" = none) (h : VA X [a] wa) (hp : plainE a = true := by rfl) : VI X tg (.Call (.Name "range" p) [a] [] pos) (uRng1 wa) := let ⟨_, q, s⟩ := h.ex; ⟨_, pi_range1 hg hm q (by rw [starEach_plain hp]; rfl), snd_rng1 s⟩
theorem vss_nil : VSs I X [] uNext := ⟨_, pss_nil, snd_next⟩
theorem vss_one (h : VSt I X s w) : VSs I X [s] w := let ⟨_, q, s⟩ := h.ex; ⟨_, pss_one q, s⟩
theorem vss_cons (h : VSt I X s w) (h' : VSs I X ss w') : VSs I X (s :: ss) (uSeq w w') := let ⟨_, q, s⟩ := h.ex; let ⟨_, q', s'⟩ := h'.ex; ⟨_, pss_cons q q', snd_seq s s'⟩
theorem vs_ret (h : VE X e ue) : VSt I X (.Return (some e) pos) (uRet ue) := let ⟨_, q, s⟩ := h.ex; ⟨_, ps_ret q, snd_ret s⟩
theorem vs_expr (h : VE X e ue) (hs : swapsWith e none pos.line X.env = pure false := by rfl) : VSt I X (.Expr e pos) (uDrop ue) := let ⟨_, q, s⟩ := h.ex; ⟨_, ps_expr q hs, snd_drop s⟩
theorem vs_if (hc : VT X c ut) (ha : VSs I X sa w) (hb : VSs I X sb w') : VSt I X (.If c sa sb pos) (uIfS ut w w') := let ⟨_, q0, s0⟩ := hc.ex; let ⟨_, q, s⟩ := ha.ex; let ⟨_, q', s'⟩ := hb.ex; ⟨_, ps_if q0 q q', snd_if s0 s s'⟩
theorem vs_set (hI : I i = false) (hN : X.N.Nodup) (hi : X.N[i]? = some x) (hx : Loc X.env.scope x) (he : VE X e ue) (hf : X.fn x = true ∨ X.env.scope.names.lookup x = some .local) (hs : swapsWith e (some (.Name x pos')) pos.line X.env = pure false := by rfl) : VSt I X (.Assign [.Name x pos'] e pos) (uAsg ue (uName i)) := let ⟨_, q, s⟩ := he.ex; ⟨_, ps_set hN hi hx q hs hf, snd_asg s (snd_gname hI)⟩
theorem vs_setF (hI : I i = false) (hN : X.N.Nodup) (hi : X.N[i]? = some x) (hx : Loc X.env.scope x) (he : VE X e ue) (hf : X.fn x = true ∨ X.env.scope.names.lookup x = some .local) (hs : swapsWith e (some (.Name x pos')) pos.line X.env = pure false := by rfl) : VSt I X (.Assign [.Name x pos'] e pos) (uAsg ue (uNameF i)) := let ⟨_, q, s⟩ := he.ex; ⟨_, ps_set hN hi hx q hs hf, snd_asg s (snd_gnameF hI)⟩
theorem vs_asg {tg : Expr} {ug : UG} (he : VE X e ue) (hg : VG I X tg ug) (hs : swapsWithSole [tg] e pos.line X.env = pure false := by rfl) (hw : swappedStores [tg] e X.env = pure none := by rfl) (h1 : (assignEach [tg] X.env).map (·.2) = [assign tg X.env] := by rfl) : VSt I X (.Assign [tg] e pos) (uAsg ue ug) := let ⟨_, q, s⟩ := he.ex; let ⟨_, q', s'⟩ := hg.ex; ⟨_, ps_asg q q' hs hw h1, snd_asg s s'⟩
theorem vs_append (hN : X.N[i]? = some x) (hv : Vis X.env.scope x) (ha : VA X (e :: es) wa) (hd : (x == ("__debug__" : Str)) = false := by decide) (hcd : (x == ("__classdict__" : Str)) = false := by decide)
    (hbase : attributeBase (.Name x p) "append" X.env (eval (.Name x p) X.env) = eval (.Name x p) X.env := by rfl) (hlen : (e :: es).length < 30 := by simp) (hline : (apos.endLine == cpos.line) = true := by rfl) (h1 : plainE e = true := by rfl) (h2 : es.all plainE = true := by rfl) (hs : swapsWith (.Call (.Attribute (.Name x p) "append" apos) (e :: es) [] cpos) none pos.line X.env = pure false := by rfl) :
    VSt I X (.Expr (.Call (.Attribute (.Name x p) "append" apos) (e :: es) [] cpos) pos) (uAppend i wa) := let ⟨_, q, s⟩ := ha.ex; ⟨_, ps_expr (bm1 PySem.F.plainAttrs_list PySem.F.slot_list_append PySem.F.type_list_append mt_appendG (pe_var hN hv hd hcd) q hbase hlen hline h1 h2) hs, snd_append s⟩
structure VCt (X : Cx) (s : Sel) (i : Nat) (e : Expr) (u : UX) : Prop where
  ex : ∃ tk, PE X e (s.t X.K (tVar i) tk) ∧ SndX tk u
theorem vct_tup (hN : X.N[i]? = some x) (hv : Vis X.env.scope x) {uk : UX} (hk : VX X b uk) (hs : PlainIx b) (hd : (x == ("__debug__" : Str)) = false := by decide) (hcd : (x == ("__classdict__" : Str)) = false := by decide) : VCt X .tup i (.Subscript (.Name x p) b pos) uk := let ⟨_, q, s⟩ := hk.ex; ⟨_, pe_ix ix_tup (pe_var hN hv hd hcd) q hs, s⟩
theorem vs_appendAt {sl : Sel} {uk uy : UX} (hc : VCt X sl i o uk) (hy : VX X e uy) (hbase : attributeBase o "append" X.env (eval o X.env) = eval o X.env := by rfl) (hline : (apos.endLine == cpos.line) = true := by rfl) (h1 : plainE e = true := by rfl) (hs : swapsWith (.Call (.Attribute o "append" apos) [e] [] cpos) none pos.line X.env = pure false := by rfl) :
    VSt I X (.Expr (.Call (.Attribute o "append" apos) [e] [] cpos) pos) (uAppendAt sl i uk uy) := let ⟨_, q, s⟩ := hc.ex; let ⟨_, q', s'⟩ := hy.ex; ⟨_, ps_expr (bm1 PySem.F.plainAttrs_list PySem.F.slot_list_append PySem.F.type_list_append mt_appendG q (pa1 q' pa_nil h1) hbase (by simp) hline h1 rfl) hs, snd_appendAt sl s s'⟩
theorem vs_dput (hu : X.A.units + 1 < cLine) (hN : X.N[i]? = some x) (hvis : Vis X.env.scope x) (hk : VE X b uk) (hv : VE X v uv) (hd : (x == ("__debug__" : Str)) = false := by decide) (hcd : (x == ("__classdict__" : Str)) = false := by decide) (hs : swapsWith v (some (.Subscript (.Name x p) b pos')) pos.line X.env = pure false := by rfl) : VSt I X (.Assign [.Subscript (.Name x p) b pos'] v pos) (uDPut i uk uv) :=
  let ⟨_, q, s⟩ := hk.ex; let ⟨_, q', s'⟩ := hv.ex; ⟨_, ps_dput hu (pe_var hN hvis hd hcd) q q' hs, snd_dput s s'⟩
theorem vs_setL (hN : X.N[i]? = some x) (hvis : Vis X.env.scope x) (hk : VE X b uk) (hv : VE X v uv) (hd : (x == ("__debug__" : Str)) = false := by decide) (hcd : (x == ("__classdict__" : Str)) = false := by decide) (ha : ∀ v, assign (.Subscript (.Name x p) b pos') X.env v = (do let ov ← holding [v] (eval (.Name x p) X.env); let iv ← holding [v, ov] (eval b X.env); standAt pos'; holding [v, ov, iv] (setItem ov iv v); release [v, ov, iv] []) := by intro _; rfl)
    (hs : swapsWithSole [.Subscript (.Name x p) b pos'] v pos.line X.env = pure false := by rfl) (hw : swappedStores [.Subscript (.Name x p) b pos'] v X.env = pure none := by rfl) (h1 : (assignEach [.Subscript (.Name x p) b pos'] X.env).map (·.2) = [assign (.Subscript (.Name x p) b pos') X.env] := by rfl) : VSt I X (.Assign [.Subscript (.Name x p) b pos'] v pos) (uSetL i uk uv) :=
  let ⟨_, q, s⟩ := hk.ex; let ⟨_, q', s'⟩ := hv.ex; ⟨_, ps_asg q' (pg_sub (pe_var hN hvis hd hcd) q set_list ha) hs hw h1, snd_setL s s'⟩
theorem vs_for {tg iter : Expr} {ui : UI} {ug : UG} (hp : PassesOwn (model X.prog X.w) X.A X.env X.xe) (hc : X.calm = true) (hi : VI X tg iter ui) (hg : VG I X tg ug) (hb : VSs I X ss w) (hs : ∀ x, foldedSetIterable iter X.env x = pure x := by intro _; rfl) : VSt I X (.For tg iter ss [] pos) (uFor ui ug w) := let ⟨_, q0, s0⟩ := hi.ex; let ⟨_, q, s⟩ := hg.ex; let ⟨_, q', s'⟩ := hb.ex; ⟨_, ps_for hp hc q0 q q' hs, snd_for s0 s s'⟩
end
def nodupS : List Str → Bool
  | [] => true
  | x :: r => !r.contains x && nodupS r
theorem nodupS_ok : ∀ {l : List Str}, nodupS l = true → l.Nodup
  | [], _ => .nil
  | x :: r, h => by
    simp only [nodupS, Bool.and_eq_true, Bool.not_eq_true', List.contains_eq_mem, decide_eq_false_iff_not] at h
    exact List.nodup_cons.mpr ⟨h.1, nodupS_ok h.2⟩
def cscB (sc sc0 : Scope) (ks N2 N0 : List Str) : Bool :=
  (match sc.kind with | .function => true | _ => false) && sc.names.all (fun y => decide (y.2 ≠ .cell)) && sc.names.all (fun y => decide (y.2 = .local → sc.names.lookup y.1 = some .local)) && sc.names.all (fun y => decide (y.2 = .free → sc0.names.lookup y.1 = some .cell ∨ sc0.names.lookup y.1 = some .free)) &&
  decide (N2.length = N0.length) && nodupS (ks ++ N2) && (List.range N2.length).all fun j => match N2[j]? with
    | some x => decide (sc.names.lookup x = none) || (decide (sc.names.lookup x = some .free) && decide (N0[j]? = some x))
    | none => true
theorem csc_of {X : Cx} {sc sc0 : Scope} {ks N2 N0 : List Str} (h0 : X.env.scope = sc0) (hN : X.N = N0) (h : cscB sc sc0 ks N2 N0 = true) : CSc X sc ks N2 := by
  simp only [cscB, Bool.and_eq_true, List.all_eq_true, decide_eq_true_eq] at h
  obtain ⟨⟨⟨⟨⟨⟨h1, h2⟩, h3⟩, h4⟩, h5⟩, h6⟩, h7⟩ := h
  refine ⟨?_, fun y hy => h2 y hy, fun y hy => h3 y hy, fun y hy e => ?_, by rw [hN]; exact h5, nodupS_ok h6, fun j x e => ?_⟩
  · revert h1
    cases sc.kind <;> intro h1 <;> first | rfl | (cases h1)
  · show X.env.scope.names.lookup y.1 = some .cell ∨ X.env.scope.names.lookup y.1 = some .free
    rw [h0]; exact h4 y hy e
  · have hj : j < N2.length := (List.getElem?_eq_some_iff.mp e).1
    have q := h7 j (List.mem_range.mpr hj)
    rw [e] at q
    simp only [Bool.or_eq_true, Bool.and_eq_true, decide_eq_true_eq] at q
    rw [hN]; exact q
section
variable {I : Nat → Bool} {X : Cx} {sc : Scope} {N : List Str} {C : Addr} {sh : Shared} {H0 : Hp} {fp : List Addr} {pins : List (Addr × Obj)} {x : Str}
theorem blk_lookup (x : Str) : (blk X sc N C sh H0 fp pins).env.scope.names.lookup x = (sc.names.lookup x).map fun k => if (k == NameKind.free && X.env.scope.kind == .function && X.env.kindOf x == some .cell) then NameKind.cell else k := lookup_relabel (env := X.env) sc.names x
theorem blk_loc (h : sc.names.lookup x = some .local) : (blk X sc N C sh H0 fp pins).env.scope.names.lookup x = some .local := by rw [blk_lookup, h]; rfl
theorem blk_locL (h : sc.names.lookup x = some .local) : Loc (blk X sc N C sh H0 fp pins).env.scope x := .inl (blk_loc h)
theorem blk_visL (h : sc.names.lookup x = some .local) : Vis (blk X sc N C sh H0 fp pins).env.scope x := .inl (blk_loc h)
theorem blk_visF (h : sc.names.lookup x = some .free) : Vis (blk X sc N C sh H0 fp pins).env.scope x := by
  have e := blk_lookup (X := X) (sc := sc) (N := N) (C := C) (sh := sh) (H0 := H0) (fp := fp) (pins := pins) x
  rw [h] at e
  by_cases q : (NameKind.free == NameKind.free && X.env.scope.kind == .function && X.env.kindOf x == some .cell) = true
  · exact .inr (.inl (e.trans (by show some (if _ then _ else _) = _; rw [if_pos q])))
  · exact .inr (.inr (e.trans (by show some (if _ then _ else _) = _; rw [if_neg q])))
theorem blk_gl (h : sc.names.lookup x = some .globalImplicit) : Gl (blk X sc N C sh H0 fp pins) x := by
  show (blk X sc N C sh H0 fp pins).env.scope.names.lookup x = some .globalImplicit
  rw [blk_lookup, h]; rfl
end
theorem vts_nil {X : Cx} : VTs X [] uYes := ⟨_, pts_nil, snd_yes⟩
theorem vts_one {X : Cx} {c : Expr} {u : UT} (h : VT X c u) : VTs X [c] u := let ⟨_, q, s⟩ := h.ex; ⟨_, pts_one q, s⟩
theorem vl_emit {I : Nat → Bool} {X : Cx} {elt : Expr} {u : UB} (h : VE X elt u) : VL I X (fun acc env => do let _ ← call (.builtin "list.append") [acc, ← eval elt env]) (emitU u) := ⟨fun p => let ⟨_, q, s⟩ := h.ex; ⟨_, pn_emit q, snd_emit s⟩⟩
section
variable {I : Nat → Bool} {X : Cx} {elt kx vx iter tg : Expr} {ifs : List Expr} {sc sc0 : Scope} {pos spos py : Pos} {y : Str} {ks N2 N0 : List Str} {ui : UI} {ug ugy : UG} {ut : UT} {ue uk uv : UB}
theorem fam_of {α : Type} [Acc α] {N : List Str} {n : Nat} {inner : Value → PySem.Env → Sem Unit} {ul : UL α} (hg : ∀ C s H fp pins, VG (outs n) (blk X sc N C s H fp pins) tg ug) (ht : ∀ C s H fp pins, VTs (blk X sc N C s H fp pins) ifs ut) (hl : ∀ C s H fp pins, VL (outs n) (blk X sc N C s H fp pins) inner ul) :
    ∀ C s H0 fp pins p, ∃ g tt tl, PG (blk X sc N C s H0 fp pins) tg g ∧ PTs (blk X sc N C s H0 fp pins) ifs tt ∧ PN (blk X sc N C s H0 fp pins) (inner (.ref p) (blk X sc N C s H0 fp pins).env) tl ∧ SndG (outs n) g ug ∧ SndT tt ut ∧ SndL (outs n) p tl ul := fun C s H0 fp pins p =>
  let ⟨_, q1, s1⟩ := (hg C s H0 fp pins).ex; let ⟨_, q2, s2⟩ := (ht C s H0 fp pins).ex; let ⟨_, q3, s3⟩ := (hl C s H0 fp pins).ex p; ⟨_, _, _, q1, q2, q3, s1, s2, s3⟩
theorem ve_comp (S : CSc X sc ks N2) (hc : X.calm = true) (hi : VI X tg iter ui) (hg : ∀ C s H fp pins, VG (outs ks.length) (blk X sc (ks ++ N2) C s H fp pins) tg ug) (ht : ∀ C s H fp pins, VTs (blk X sc (ks ++ N2) C s H fp pins) ifs ut) (he : ∀ C s H fp pins, VE (blk X sc (ks ++ N2) C s H fp pins) elt ue) (hs : ∀ x, foldedSetIterable iter X.env x = pure x := by intro _; rfl) :
    VE X (.ListComp elt [⟨tg, iter, ifs, 0⟩] sc pos) (uComp ks.length ui ug ut (emitU ue)) := let ⟨_, q, s⟩ := hi.ex; ⟨_, pe_comp (inner := fun acc env => do let _ ← call (.builtin "list.append") [acc, ← eval elt env]) S hc q (fun _ _ _ => rfl) hs, snd_comp s (fam_of hg ht fun C s H fp pins => vl_emit (he C s H fp pins))⟩
end
end VS
end
section
namespace VS
open PySem L2
section
variable {g : Int → Int → D} {C : Int → Int → Prop} {h : Int → D}
end
theorem q_frz1 {o : Bool} {ds : List D} : frz (.lst o ds) = .lst false (frzL ds) := by simp only [frz]
theorem q_frz2 {ds : List D} : frz (.tup ds) = .tup (frzL ds) := by simp only [frz]
theorem q_frz3 {o t : Bool} {ks : List DK} {ds : List D} : frz (.dic o t ks ds) = .dic false t ks (frzL ds) := by simp only [frz]
theorem q_frz4 {i : Int} : frz (.int i) = .int i := by simp only [frz]
theorem q_frz5 {x : Str} : frz (.str x) = .str x := by simp only [frz]
theorem q_frz6 {x : Bool} : frz (.bl x) = .bl x := by simp only [frz]
theorem q_b1 {o : Bool} {ds : List D} : bare (.lst o ds) = (!o && bareL ds) := by simp only [bare]
theorem q_b2 {ds : List D} : bare (.tup ds) = bareL ds := by simp only [bare]
theorem q_b3 {o t : Bool} {ks : List DK} {ds : List D} : bare (.dic o t ks ds) = (!o && bareL ds) := by simp only [bare]
theorem q_b4 {i : Int} : bare (.int i) = true := by simp only [bare]
theorem q_b5 {x : Str} : bare (.str x) = true := by simp only [bare]
theorem q_b6 {x : Bool} : bare (.bl x) = true := by simp only [bare]
theorem q_b7 : bare .non = true := by simp only [bare]
theorem q_n1 {o : Bool} {ds : List D} : noF (.lst o ds) = (o && noFL ds) := by simp only [noF]
theorem q_n2 {ds : List D} : noF (.tup ds) = noFL ds := by simp only [noF]
theorem q_n3 {o t : Bool} {ks : List DK} {ds : List D} : noF (.dic o t ks ds) = (o && noFL ds) := by simp only [noF]
theorem q_n4 {i : Int} : noF (.int i) = true := by simp only [noF]
theorem q_n5 {x : Str} : noF (.str x) = true := by simp only [noF]
theorem q_n6 {x : Bool} : noF (.bl x) = true := by simp only [noF]
theorem q_n7 : noF .non = true := by simp only [noF]
theorem bareL_cons {d : D} {ds : List D} : bareL (d :: ds) = (bare d && bareL ds) := by simp only [bareL]
theorem bareL_nil : bareL [] = true := by simp only [bareL]
theorem noFL_cons {d : D} {ds : List D} : noFL (d :: ds) = (noF d && noFL ds) := by simp only [noFL]
theorem noFL_nil : noFL [] = true := by simp only [noFL]
theorem frzL_cons {d : D} {ds : List D} : frzL (d :: ds) = frz d :: frzL ds := by simp only [frzL]
theorem frzL_nil : frzL [] = [] := by simp only [frzL]
theorem bareL_iff : ∀ {ds : List D}, bareL ds = true ↔ ∀ d ∈ ds, bare d = true
  | [] => by simp [bareL]
  | d :: ds => by simp [bareL, bareL_iff (ds := ds)]
theorem noFL_iff : ∀ {ds : List D}, noFL ds = true ↔ ∀ d ∈ ds, noF d = true
  | [] => by simp [noFL]
  | d :: ds => by simp [noFL, noFL_iff (ds := ds)]
theorem frzL_map : ∀ {ds : List D}, frzL ds = ds.map frz
  | [] => by simp [frzL]
  | d :: ds => by simp [frzL, frzL_map (ds := ds)]
theorem atI_lit {α : Type} {xs : List α} {n : Nat} : atI xs ((n : Nat) : Int) = xs[n]? := by
  unfold atI ixN
  by_cases h : n < xs.length
  · rw [if_pos (by omega), if_pos (by omega)]; simp
  · rw [if_pos (by omega), if_neg (by omega)]; simp; omega
theorem atI_0 {α : Type} {xs : List α} : atI xs 0 = xs[0]? := atI_lit (n := 0)
end VS
end
section
namespace VS
open PySem L2
theorem i_Nil {env : VEnv} {Q : List Ref → VEnv → Prop} (h : Q [] env) : uNil  env Q := h
theorem i_Cons {u : UB} {w : UA} {env : VEnv} {Q : List Ref → VEnv → Prop} (h : u env fun r e => w e fun rs e2 => Q (r :: rs) e2) : uCons u w env Q := h
theorem i_Copy {i : Nat} {env : VEnv} {Q : Ref → VEnv → Prop} (h : ∃ d, env[i]? = some (some d) ∧ bare d = true ∧ Q (.tmp d) env) : uCopy i env Q := h
theorem i_Move {i : Nat} {env : VEnv} {Q : Ref → VEnv → Prop} (h : ∃ d, env[i]? = some (some d) ∧ Q (.tmp d) (env.set i none)) : uMove i env Q := h
theorem i_C {d : D} {env : VEnv} {Q : Ref → VEnv → Prop} (h : Q (.tmp d) env) : uC d env Q := h
theorem i_Place_ {i : Nat} {env : VEnv} {Q : Ref → VEnv → Prop} (h : ∃ d, env[i]? = some (some d) ∧ Q (.var i) env) : uPlace' i env Q := h
theorem i_Get2 {ua ub uc : UB} {env : VEnv} {Q : Ref → VEnv → Prop} (h : ua env fun r1 e1 => (∃ o t ks ds, r1.at e1 = some (.dic o t ks ds)) ∧ ub e1 fun r2 e2 => uc e2 fun r3 e3 => ∃ d1 d2 d3, r1.at e3 = some d1 ∧ r2.at e3 = some d2 ∧ r3.at e3 = some d3 ∧ fDGet2 [d1, d2, d3] fun d => Q (.tmp d) e3) : uGet2 ua ub uc env Q := h
theorem i_Tup {ua : UA} {env : VEnv} {Q : Ref → VEnv → Prop} (h : ua env fun rs e => ∃ ds, tmps rs = some ds ∧ ds.length ≤ 1000000 ∧ Q (.tmp (.tup ds)) e) : uTup ua env Q := h
theorem i_Lst {ua : UA} {env : VEnv} {Q : Ref → VEnv → Prop} (h : ua env fun rs e => ∃ ds, tmps rs = some ds ∧ ds.length ≤ 1000000 ∧ Q (.tmp (.lst true ds)) e) : uLst ua env Q := h
theorem i_Test {ua : UB} {env : VEnv} {Q : Bool → VEnv → Prop} (h : ua env fun r e => ∃ b, r = .tmp (.bl b) ∧ Q b e) : uTest ua env Q := h
theorem i_Not {t : UT} {env : VEnv} {Q : Bool → VEnv → Prop} (h : t env fun b e => Q (!b) e) : uNot t env Q := h
theorem i_And {t u : UT} {env : VEnv} {Q : Bool → VEnv → Prop} (h : t env fun b e => if b = true then u e Q else Q false e) : uAnd t u env Q := h
theorem i_Or {t u : UT} {env : VEnv} {Q : Bool → VEnv → Prop} (h : t env fun b e => if b = true then Q true e else u e Q) : uOr t u env Q := h
theorem i_Truth {ua : UB} {env : VEnv} {Q : Bool → VEnv → Prop} (h : ua env fun r e => ∃ d b, r.at e = some d ∧ tru d = some b ∧ Q b e) : uTruth ua env Q := h
theorem i_AndV {ua ub : UB} {env : VEnv} {Q : Ref → VEnv → Prop} (h : ua env fun r e => ∃ c, r = .tmp (.bl c) ∧ if c = true then ub e Q else Q (.tmp (.bl false)) e) : uAndV ua ub env Q := h
theorem i_OrV {ua ub : UB} {env : VEnv} {Q : Ref → VEnv → Prop} (h : ua env fun r e => ∃ c, r = .tmp (.bl c) ∧ if c = true then Q (.tmp (.bl true)) e else ub e Q) : uOrV ua ub env Q := h
theorem i_NotV {ua : UB} {env : VEnv} {Q : Ref → VEnv → Prop} (h : ua env fun r e => ∃ c, r = .tmp (.bl c) ∧ Q (.tmp (.bl (!c))) e) : uNotV ua env Q := h
theorem i_If {t : UT} {ua ub : UB} {env : VEnv} {Q : Ref → VEnv → Prop} (h : t env fun b e => if b = true then ua e Q else ub e Q) : uIf t ua ub env Q := h
theorem i_Seq {a b : US} {D : UEnds} {env : VEnv} (h : a { D with nx := b D } env) : uSeq a b D env := h
theorem i_Next {D : UEnds} {env : VEnv} (h : D.nx env) : uNext  D env := h
theorem i_Brk {D : UEnds} {env : VEnv} (h : D.bk env) : uBrk  D env := h
theorem i_Cont {D : UEnds} {env : VEnv} (h : D.ct env) : uCont  D env := h
theorem i_Ret {ua : UB} {D : UEnds} {env : VEnv} (h : ua env fun r e => ∃ d, r = .tmp d ∧ D.rt d e) : uRet ua D env := h
theorem i_RetN {D : UEnds} {env : VEnv} (h : D.rt .non env) : uRetN  D env := h
theorem i_Drop {ua : UB} {D : UEnds} {env : VEnv} (h : ua env fun _ e => D.nx e) : uDrop ua D env := h
theorem i_IfS {t : UT} {a b : US} {D : UEnds} {env : VEnv} (h : t env fun c e => if c = true then a D e else b D e) : uIfS t a b D env := h
theorem i_Name {i : Nat} {d : D} {env : VEnv} {k : VEnv → Prop} (h : i < env.length ∧ k (env.set i (some d))) : uName i d env k := h
theorem i_NameF {i : Nat} {d : D} {env : VEnv} {k : VEnv → Prop} (h : i < env.length ∧ k (env.set i (some (frz d)))) : uNameF i d env k := h
theorem i_GNil {ds : List D} {env : VEnv} {k : VEnv → Prop} (h : ds = [] ∧ k env) : uGNil  ds env k := h
theorem i_GCons {g : UG} {gs : UGs} {ds : List D} {env : VEnv} {k : VEnv → Prop} (h : ∃ d r, ds = d :: r ∧ g d env fun e => gs r e k) : uGCons g gs ds env k := h
theorem i_GTup {n : Nat} {gs : UGs} {d : D} {env : VEnv} {k : VEnv → Prop} (h : ∃ ds, d = .tup ds ∧ ds.length = n ∧ gs ds env k) : uGTup n gs d env k := h
theorem i_Asg {ua : UB} {g : UG} {E : UEnds} {env : VEnv} (h : ua env fun r e => ∃ d, r = .tmp d ∧ g d e E.nx) : uAsg ua g E env := h
theorem i_Aug {i : Nat} {f : Int → Int → Int} {ua : UB} {E : UEnds} {env : VEnv} (h : ∃ a, env[i]? = some (some (.int a)) ∧ ua env fun r e => ∃ b, r = .tmp (.int b) ∧ i < e.length ∧ E.nx (e.set i (some (.int (f a b))))) : uAug i f ua E env := h
theorem i_Chain {p q : Int → Int → Bool} {ua ub uc : UB} {env : VEnv} {Q : Ref → VEnv → Prop} (h : ua env fun r1 e1 => ub e1 fun r2 e2 => ∃ i j, r1 = .tmp (.int i) ∧ r2 = .tmp (.int j) ∧ if p i j = true then uc e2 fun r3 e3 => ∃ k, r3 = .tmp (.int k) ∧ Q (.tmp (.bl (q j k))) e3 else Q (.tmp (.bl false)) e2) : uChain p q ua ub uc env Q := h
theorem i_For {ui : UI} {ug : UG} {ub : US} {E : UEnds} {env : VEnv} (h : ui env fun items e => forU ug ub E items e) : uFor ui ug ub E env := h
theorem i_Rng1 {ua : UA} {env : VEnv} {Q : List D → VEnv → Prop} (h : ua env fun rs e => ∃ n : Int, rs = [.tmp (.int n)] ∧ -(2 ^ 62) ≤ n ∧ n < 2 ^ 62 ∧ Q (intsD 0 n.toNat) e) : uRng1 ua env Q := h
theorem i_Append {i : Nat} {ua : UA} {E : UEnds} {env : VEnv} (h : (∃ ds, env[i]? = some (some (.lst true ds))) ∧ ua env fun rs e => ∃ d ds, rs = [.tmp d] ∧ e[i]? = some (some (.lst true ds)) ∧ ds.length ≤ 1000000 ∧ E.nx (e.set i (some (.lst true (ds ++ [d]))))) : uAppend i ua E env := h
theorem i_Call {ms : List Bool} {m : USp} {ua : UA} {env : VEnv} {Q : Ref → VEnv → Prop} (h : ua env fun rs e => ∃ ds, pass ms e rs = some ds ∧ nodupB (inouts ms rs) = true ∧ apart (inouts ms rs) ms rs = true ∧ m ds fun d es => noF d = true ∧ noFE es = true ∧ Q (.tmp d) (backs ms rs es e)) : uCall ms m ua env Q := h
theorem i_Yes {env : VEnv} {Q : Bool → VEnv → Prop} (h : Q true env) : uYes  env Q := h
theorem i_DPut {i : Nat} {uy uv : UB} {E : UEnds} {env : VEnv} (h : uv env fun r1 e1 => (∃ d0, e1[i]? = some (some d0)) ∧ uy e1 fun r2 e2 => ∃ d kd t ks ds k, r1 = .tmp d ∧ r2.at e2 = some kd ∧ e2[i]? = some (some (.dic true t ks ds)) ∧ keyOf t kd = some k ∧ ds.length ≤ 1000000 ∧
  E.nx (e2.set i (some (.dic true t (dput ks ds k d).1 (dput ks ds k d).2)))) : uDPut i uy uv E env := h
theorem i_AppendAt {s : Sel} {i : Nat} {uk uy : UX} {E : UEnds} {env : VEnv} (h : ∃ d0 kd y cs reb, env[i]? = some (some d0) ∧ s.ok d0 ∧ uk env kd ∧ uy env y ∧ child d0 kd = some (.lst true cs, reb) ∧ cs.length ≤ 1000000 ∧ E.nx (env.set i (some (reb (.lst true (cs ++ [y])))))) : uAppendAt s i uk uy E env := h
theorem i_SetL {i : Nat} {uk uv : UB} {E : UEnds} {env : VEnv} (h : uv env fun r1 e1 => (∃ d0, e1[i]? = some (some d0)) ∧ uk e1 fun r2 e2 => ∃ d k j ds, r1 = .tmp d ∧ r2 = .tmp (.int k) ∧ e2[i]? = some (some (.lst true ds)) ∧ ixN ds.length k = some j ∧ E.nx (e2.set i (some (.lst true (ds.set j d))))) : uSetL i uk uv E env := h
theorem i_Pop {i : Nat} {env : VEnv} {Q : Ref → VEnv → Prop} (h : ∃ ds d, env[i]? = some (some (.lst true ds)) ∧ ds[ds.length - 1]? = some d ∧ bare d = true ∧ Q (.tmp d) (env.set i (some (.lst true ds.dropLast)))) : uPop i env Q := h
theorem i_Reverse {i : Nat} {E : UEnds} {env : VEnv} (h : ∃ ds, env[i]? = some (some (.lst true ds)) ∧ E.nx (env.set i (some (.lst true ds.reverse)))) : uReverse i E env := h
theorem i_Extend {i : Nat} {ua : UA} {E : UEnds} {env : VEnv} (h : (∃ ds, env[i]? = some (some (.lst true ds))) ∧ ua env fun rs e => ∃ xs ds, rs = [.tmp (.lst true xs)] ∧ bareL xs = true ∧ e[i]? = some (some (.lst true ds)) ∧ ds.length + xs.length ≤ 1000000 ∧ E.nx (e.set i (some (.lst true (ds ++ xs))))) : uExtend i ua E env := h
theorem i_NoPart {env : VEnv} {Q : Option Int → VEnv → Prop} (h : Q none env) : uNoPart  env Q := h
theorem i_Part {u : UB} {env : VEnv} {Q : Option Int → VEnv → Prop} (h : u env fun r e => ∃ i, r = .tmp (.int i) ∧ Q (some i) e) : uPart u env Q := h
theorem i_Sl {ua : UB} {ul uh : UO} {env : VEnv} {Q : Ref → VEnv → Prop} (h : ua env fun r e1 => ul e1 fun lo e2 => uh e2 fun hi e3 => ∃ o ds, r.at e3 = some (.lst o ds) ∧ bareL ds = true ∧ Q (.tmp (.lst true (cutL ds lo hi))) e3) : uSl ua ul uh env Q := h
theorem i_DNew {t : Bool} {env : VEnv} {Q : Ref → VEnv → Prop} (h : Q (.tmp (.dic true t [] [])) env) : uDNew t env Q := h
theorem i_Disp1 {uk uv : UB} {env : VEnv} {Q : Ref → VEnv → Prop} (h : uk env fun r1 e1 => uv e1 fun r2 e2 => ∃ kd k d, r1 = .tmp kd ∧ scK kd = some k ∧ r2 = .tmp d ∧ Q (.tmp (.dic true false [.s k] [d])) e2) : uDisp1 uk uv env Q := h
theorem i_Fn {f : List D → (D → Prop) → Prop} {ua : UA} {env : VEnv} {Q : Ref → VEnv → Prop} (h : ua env fun rs e => ∃ ds, ats e rs = some ds ∧ f ds fun d => Q (.tmp d) e) : uFn f ua env Q := h
theorem i_Fn1 {f : D → (D → Prop) → Prop} {ua : UB} {env : VEnv} {Q : Ref → VEnv → Prop} (h : ua env fun r1 e1 => ∃ d1, r1.at e1 = some d1 ∧ f d1 fun d => Q (.tmp d) e1) : uFn1 f ua env Q := h
theorem i_Fn2 {f : D → D → (D → Prop) → Prop} {ua ub : UB} {env : VEnv} {Q : Ref → VEnv → Prop} (h : ua env fun r1 e1 => ub e1 fun r2 e2 => ∃ d1 d2, r1.at e2 = some d1 ∧ r2.at e2 = some d2 ∧ f d1 d2 fun d => Q (.tmp d) e2) : uFn2 f ua ub env Q := h
theorem i_Src {f : VEnv → Ref → Option (List D)} {ua : UB} {env : VEnv} {Q : List D → VEnv → Prop} (h : ua env fun r e => ∃ ds, f e r = some ds ∧ Q ds e) : uSrc f ua env Q := h
theorem i_Enum {f : VEnv → Ref → Option (List D)} {ua : UB} {env : VEnv} {Q : List D → VEnv → Prop} (h : ua env fun r e => ∃ ds, f e r = some ds ∧ Q (pairsD 0 ds) e) : uEnum f ua env Q := h
theorem i_Comp {n : Nat} {ui : UI} {ug : UG} {ut : UT} {ul : UL (List D)} {env : VEnv} {Q : Ref → VEnv → Prop} (h : ui env fun items e => loopU ug ut ul (fun acc e' => Q (.tmp (.lst true acc)) (e'.drop n)) items [] (List.replicate n none ++ e)) : uComp n ui ug ut ul env Q := h
theorem i_CompD {t : Bool} {n : Nat} {ui : UI} {ug : UG} {ut : UT} {ul : UL (DAcc t)} {env : VEnv} {Q : Ref → VEnv → Prop} (h : ui env fun items e => loopU ug ut ul (fun acc e' => Q (.tmp (.dic true t acc.ks acc.ds)) (e'.drop n)) items ⟨[], []⟩ (List.replicate n none ++ e)) : uCompD t n ui ug ut ul env Q := h
section
variable {o o' t : Bool} {ds xs ys : List D} {ks : List DK} {i j k : Int} {x y : Str} {b c : Bool} {P : D → Prop} {d d1 d2 : D} {a : Addr} {g : Int → Int → D} {C : Int → Int → Prop} {h1 : Int → D}
theorem i_f_fI (h : (C i j ∧ P (g i j))) : fI C g (.int i) (.int j) P := h
theorem i_f_fI0 (h : P (g i j)) : fI0 g (.int i) (.int j) P := h
theorem i_f_fU (h : P (h1 i)) : fU h1 (.int i) P := h
theorem i_f_fEq (h : (∃ k, eqS d d1 = some k ∧ P (.bl (if b then !k else k)))) : fEq b d d1 P := h
theorem i_f_fIsN (h : P (.bl (if b then !isNon d else isNon d))) : fIsN b d P := h
theorem i_f_ixL (h : (∃ d, atI ds k = some d ∧ bare d = true ∧ P d)) : fIxL (.lst o ds) (.int k) P := h
theorem i_f_ixT (h : (∃ d, atI ds k = some d ∧ bare d = true ∧ P d)) : fIxT (.tup ds) (.int k) P := h
theorem i_f_ixS (h : (x.length ≤ 1000000 ∧ ∃ c, atI x.cps.toList k = some c ∧ P (.str ⟨#[c]⟩))) : fIxS (.str x) (.int k) P := h
theorem i_f_dget (h : (∃ k d', keyOf t d = some k ∧ dfind ks ds k = some d' ∧ bare d' = true ∧ P d')) : fDGet (.dic o t ks ds) d P := h
theorem i_f_din (h : (∃ k, keyOf t d = some k ∧ P (.bl (if b then !(dfind ks ds k).isSome else (dfind ks ds k).isSome)))) : fDIn b d (.dic o t ks ds) P := h
theorem i_f_dget2 (h : (∃ k, keyOf t d = some k ∧ bare ((dfind ks ds k).getD d1) = true ∧ P ((dfind ks ds k).getD d1))) : fDGet2 [.dic o t ks ds, d, d1] P := h
theorem i_f_len1 (h : P (.int ds.length)) : fLen [.lst o ds] P := h
theorem i_f_len2 (h : P (.int ds.length)) : fLen [.tup ds] P := h
theorem i_f_lenS (h : (x.length ≤ 1000000 ∧ P (.int x.length))) : fLenS [.str x] P := h
theorem i_f_mulS (h : (0 ≤ k ∧ k ≤ 1000 ∧ x.length ≤ 1000 ∧ P (.str (Txt.mul x k)))) : fMulS (.str x) (.int k) P := h
theorem i_f_addS (h : (x.length + y.length ≤ 1000000 ∧ P (.str (x ++ y)))) : fAddS (.str x) (.str y) P := h
theorem i_f_cat (h : (bareL xs = true ∧ bareL ys = true ∧ xs.length + ys.length ≤ 1000000 ∧ P (.lst true (xs ++ ys)))) : fCat (.lst true xs) (.lst true ys) P := h
theorem i_f_lo1 (h : (bareL ds = true ∧ P (.lst true ds))) : fListOf [.lst o ds] P := h
theorem i_f_lo2 (h : (bareL ds = true ∧ P (.lst true ds))) : fListOf [.tup ds] P := h
theorem i_f_in1 (h : (flat d = true ∧ ds.all flat = true ∧ P (.bl (if b then !(ds.any fun x => eqFl x d) else ds.any fun x => eqFl x d)))) : fIn b d (.lst o ds) P := h
theorem i_f_in2 (h : (flat d = true ∧ ds.all flat = true ∧ P (.bl (if b then !(ds.any fun x => eqFl x d) else ds.any fun x => eqFl x d)))) : fIn b d (.tup ds) P := h
theorem i_f_int1 (h : P (.int i)) : fInt [.int i] P := h
theorem i_f_int2 (h : P (.int (if b then 1 else 0))) : fInt [.bl b] P := h
theorem i_f_do (h : (bareL ds = true ∧ P (.dic true false ks ds))) : fDictOf [.dic o false ks ds] P := h
end
theorem i_nx0 {ms : List Bool} {P : D → VEnv → Prop} {e : VEnv} (h : P .non (fin ms e)) : UEnds.nx (ends0 ms P) e := h
theorem i_rt0 {ms : List Bool} {P : D → VEnv → Prop} {d : D} {e : VEnv} (h : P d (fin ms e)) : UEnds.rt (ends0 ms P) d e := h
theorem i_emit {ue : UB} {acc : List D} {e : VEnv} {k : List D → VEnv → Prop} (h : ue e fun r e4 => ∃ d, r = .tmp d ∧ acc.length ≤ 1000000 ∧ k (acc ++ [d]) e4) : emitU ue acc e k := h
theorem i_emitD {t : Bool} {uk uv : UB} {acc : DAcc t} {e : VEnv} {k : DAcc t → VEnv → Prop} (h : uk e fun r1 e1 => uv e1 fun r2 e2 => ∃ kd kk d, r1 = .tmp kd ∧ keyOf t kd = some kk ∧ r2 = .tmp d ∧ acc.ds.length ≤ 1000000 ∧ k ⟨(dput acc.ks acc.ds kk d).1, (dput acc.ks acc.ds kk d).2⟩ e2) : emitDU uk uv acc e k := h
theorem i_itT {c : Bool} {A B : Prop} (h : c = true) (k : A) : (if c = true then A else B) := by rw [if_pos h]; exact k
theorem i_itF {c : Bool} {A B : Prop} (h : c = false) (k : B) : (if c = true then A else B) := by rw [if_neg (by rw [h]; exact Bool.false_ne_true)]; exact k
theorem i_ite {c : Bool} {A B : Prop} (h : c = true → A) (k : c = false → B) : (if c = true then A else B) := by
  cases e : c with
  | true => exact h e
  | false => exact k e
theorem for_ind {ug : UG} {ub : US} {E : UEnds} (W : List D → VEnv → Prop) (hn : ∀ e, W [] e → E.nx e) (hs : ∀ x xs e, (∀ e', W xs e' → forU ug ub E xs e') → W (x :: xs) e → ug x e fun e2 => ub ⟨forU ug ub E xs, E.rt, E.nx, forU ug ub E xs⟩ e2) : ∀ xs e, W xs e → forU ug ub E xs e
  | [], e, h => hn e h
  | x :: xs, e, h => hs x xs e (fun e' => for_ind W hn hs xs e') h
theorem loop_ind {α : Type} {ug : UG} {ut : UT} {inner : UL α} {k : α → VEnv → Prop} (W : List D → α → VEnv → Prop) (hn : ∀ a e, W [] a e → k a e) (hs : ∀ x xs a e, (∀ a' e', W xs a' e' → loopU ug ut inner k xs a' e') → W (x :: xs) a e → ug x e fun e2 => ut e2 fun b e3 => if b = true then inner a e3 (loopU ug ut inner k xs) else loopU ug ut inner k xs a e3) : ∀ xs a e, W xs a e → loopU ug ut inner k xs a e
  | [], a, e, h => hn a e h
  | x :: xs, a, e, h => hs x xs a e (fun a' e' => loop_ind W hn hs xs a' e') h
theorem atI_at {α : Type} {xs : List α} {k : Int} (h : 0 ≤ k) (h2 : k < xs.length) : atI xs k = some (xs[k.toNat]'(by omega)) := by
  obtain ⟨m, rfl⟩ := Int.eq_ofNat_of_zero_le h
  rw [atI_lit, List.getElem?_eq_getElem (by omega)]; rfl
theorem atI_map {α : Type} {f : α → D} {xs : List α} {k : Int} (h : 0 ≤ k) (h2 : k < xs.length) : atI (xs.map f) k = some (f (xs[k.toNat]'(by omega))) := by
  rw [atI_at h (by simpa using h2)]; simp
theorem atI_ex {α : Type} {xs : List α} {k : Int} (h : 0 ≤ k) (h2 : k < xs.length) : ∃ x ∈ xs, atI xs k = some x := ⟨_, List.getElem_mem _, atI_at h h2⟩
theorem atI_mapx {α : Type} {f : α → D} {xs : List α} {k : Int} (h : 0 ≤ k) (h2 : k < xs.length) : ∃ x ∈ xs, atI (xs.map f) k = some (f x) := ⟨_, List.getElem_mem _, atI_map h h2⟩
end VS
end
section
namespace VS
open PySem L2
def passZ (e : VEnv) : List Ref → Option (List D)
  | [] => some []
  | .tmp d :: rs => (passZ e rs).map (frz d :: ·)
  | .var i :: rs => match e[i]?, passZ e rs with
    | some (some d), some ds => if bare d = true then some (frz d :: ds) else none
    | _, _ => none
def uCallZ (ms : List Bool) (m : USp) (ua : UA) : UB := fun env Q => ua env fun rs e => ∃ ds, passZ e rs = some ds ∧ ds.length = ms.length ∧ m ds fun d es => Q (.tmp d) e
section
variable {X : Cx} {e : Expr} {es : List Expr} {wa : UA} {x : Str} {k : Nat} {p pos : Pos}
end
theorem i_CallZ {ms : List Bool} {m : USp} {ua : UA} {env : VEnv} {Q : Ref → VEnv → Prop} (h : ua env fun rs e => ∃ ds, passZ e rs = some ds ∧ ds.length = ms.length ∧ m ds fun d es => Q (.tmp d) e) : uCallZ ms m ua env Q := h
end VS
end
section
namespace VS
open PySem L2
def KL (K : PySem.W.Frag) (a : Addr) (ns : List Int) : Prop := ∃ (o : Obj) (its : Array Value) (n : Nat), K.lookup a = some o ∧ o.cls = .type "list" ∧ o.dict = none ∧ o.data = .seq its n ∧ its.size ≤ sizeLine ∧ Vals (ns.map V.int) its.toList
theorem ownL_ints {Z : Set} {H : Hp} : ∀ {ns : List Int}, OwnL Z H (ns.map D.int) (ns.map V.int) E0s
  | [] => by simp [OwnL]
  | n :: ns => by
    simp only [List.map_cons, OwnL]
    exact ⟨_, _, E0s, E0s, rfl, own_int.mpr rfl, ownL_ints, fun _ z => z, fun _ z => z, fun _ z => z.elim⟩
def uSlS (L : Addr → List Int → Prop) (ua : UB) (ul uh : UO) : UB := fun env Q => ua env fun r e1 => ul e1 fun lo e2 => uh e2 fun hi e3 => (∃ o ds, r.at e3 = some (.lst o ds) ∧ bareL ds = true ∧ Q (.tmp (.lst true (cutL ds lo hi))) e3) ∨ ∃ a ns, r.at e3 = some (.fn a) ∧ L a ns ∧ Q (.tmp (.lst true (cutL (ns.map .int) lo hi))) e3
theorem snd_slS {K : PySem.W.Frag} {t : TE} {u : UB} {tl th : TO} {ul uh : UO} (h : SndB t u) (hl : SndO tl ul) (hh : SndO th uh) : SndB (tSl (rSlG K) t tl th) (uSlS (KL K) u ul uh) := by
  intro σ env Z H φ Q R O q k
  refine h σ env Z H φ _ _ O q fun x1 env1 v1 Z1 H1 φ1 G1 q1 O1 r1 ok1 => ?_
  refine hl σ env1 Z1 H1 φ1 _ _ O1 q1 fun lo env2 Z2 H2 φ2 q2 O2 r2 => ?_
  refine hh σ env2 Z2 H2 φ2 _ _ O2 q2 fun hi env3 Z3 H3 φ3 q3 O3 r3 => ?_
  obtain ⟨r12, _⟩ := r1.seq r2
  have ok2 := (ok1.keep O1 r2 r1.d)
  have ok3 := ok2.keep O2 r3 fun a z y => r12.d a z (.inl y)
  rcases q3 with ⟨o, ds, ea, hb, q3⟩ | ⟨a, ns, ea, hL, q3⟩
  · obtain ⟨F, ho⟩ := tree_of O3 ok3 ea
    obtain ⟨a, vs, rfl, hr, hl'⟩ := own_lst ho
    refine ⟨a, vs, rfl, .inl hr, fun p H4 hn hs hp => ?_⟩
    have hc : OwnL Z3 H3 (cutL ds lo hi) (cutV vs lo hi) E0s := by
      unfold cutL cutV
      rw [hl'.length]
      exact ((hl'.bare ds hb).drop _).take _
    have n := New.lst hn hs hp hc
    exact k (.tmp _) env3 _ Z3 H4 φ3 _ q3 (O3.grow hs) (n.res O3 (r12.drop.trans r3)) n.own
  · obtain ⟨F, ho⟩ := tree_of O3 ok3 ea
    have ho : v1 = .ref a := by simpa only [Own] using ho
    subst ho
    refine ⟨a, ns.map V.int, rfl, .inr hL, fun p H4 hn hs hp => ?_⟩
    have hc : OwnL Z3 H3 (cutL (ns.map D.int) lo hi) (cutV (ns.map V.int) lo hi) E0s := by
      unfold cutL cutV
      rw [List.length_map, List.length_map]
      exact (ownL_ints.drop _).take _
    have n := New.lst hn hs hp hc
    exact k (.tmp _) env3 _ Z3 H4 φ3 _ q3 (O3.grow hs) (n.res O3 (r12.drop.trans r3)) n.own
section
variable {X : Cx} {e : Expr} {ue : UB} {pos : Pos}
theorem ve_sliceS {lo hi : Option Expr} {ul uh : UO} {p2 : Pos} (h : VE X e ue) (hl : VO X lo ul) (hh : VO X hi uh) : VE X (.Subscript e (.Slice lo hi none p2) pos) (uSlS (KL X.K) ue ul uh) := let ⟨_, q, s⟩ := h.ex; let ⟨_, q1, s1⟩ := hl.ex; let ⟨_, q2, s2⟩ := hh.ex; ⟨_, pe_slice sl_listG q q1 q2, snd_slS s s1 s2⟩
end
theorem i_SlS {L : Addr → List Int → Prop} {ua : UB} {ul uh : UO} {env : VEnv} {Q : Ref → VEnv → Prop} (h : ua env fun r e1 => ul e1 fun lo e2 => uh e2 fun hi e3 => (∃ o ds, r.at e3 = some (.lst o ds) ∧ bareL ds = true ∧ Q (.tmp (.lst true (cutL ds lo hi))) e3) ∨ ∃ a ns, r.at e3 = some (.fn a) ∧ L a ns ∧ Q (.tmp (.lst true (cutL (ns.map .int) lo hi))) e3) : uSlS L ua ul uh env Q := h
theorem sp_script {K : PySem.W.Frag} {m : USp} {H : Hp} {a : Addr} {ns : List Int} {E : XK} (hS : SqL K H a (ns.map V.int)) (h : ∀ d : D, (d = .lst false (ns.map .int) ∨ (d = .fn a ∧ KL K a ns)) → m [d] fun r _ => r = .bl true) : spU [false] m [.ref a] H (fun v _ => v = .bl true) E := by
  refine ⟨rfl, ?_⟩
  rcases hS with hS | hS
  · refine ⟨[.lst false (ns.map .int)], fun b => b = a, fun _ _ => False, fun r _ => r = .bl true, rfl, ⟨fun i d e => ?_, fun _ _ _ z => z.elim, fun _ _ z => z.elim, fun _ _ z => z.elim, fun b z => ?_, rfl⟩, fun _ _ z => z.elim, h _ (.inl rfl), ?_⟩
    · cases i with
      | zero =>
        cases (show some (some (D.lst false (ns.map .int))) = some (some d) from e)
        refine ⟨.ref a, rfl, ?_⟩
        simp only [Own]
        exact ⟨a, _, rfl, hS, rfl, ownL_ints⟩
      | succ i => simp at e
    · subst z
      rcases hS with e | ⟨_, e⟩ <;> rw [e] <;> simp
    · rintro d es v Z' H' φ' G rfl _ _ _ _ ho
      exact own_bl.mp ho
  · refine ⟨[.fn a], fun _ => False, fun _ _ => False, fun r _ => r = .bl true, rfl, ⟨fun i d e => ?_, fun _ _ _ z => z.elim, fun _ _ z => z.elim, fun _ _ z => z.elim, fun b z => z.elim, rfl⟩, fun _ _ z => z.elim, h _ (.inr ⟨rfl, hS⟩), ?_⟩
    · cases i with
      | zero =>
        cases (show some (some (D.fn a)) = some (some d) from e)
        exact ⟨.ref a, rfl, by simp only [Own]⟩
      | succ i => simp at e
    · rintro d es v Z' H' φ' G rfl _ _ _ _ ho
      exact own_bl.mp ho
end VS
end
section
namespace L2
open PySem PySem.Spec PyProof.Rows
inductive Ty5 where
  | str | tup | lst | int | bool
  deriving DecidableEq
def Ty5.nm : Ty5 → String
  | .str => "str" | .tup => "tuple" | .lst => "list" | .int => "int" | .bool => "bool"
def IsI (H : Hp) : V → Ty5 → Bool → Prop
  | .int _, t, b => b = decide (t = .int)
  | .bl _, t, b => b = (decide (t = .int) || decide (t = .bool))
  | .str _, t, b => b = decide (t = .str)
  | .non, _, b => b = false
  | .ref a, t, b => ((∃ xs, Rd H a (.lst xs)) ∧ b = decide (t = .lst)) ∨ ((∃ xs, Rd H a (.tup xs)) ∧ b = decide (t = .tup)) ∨ (IsD H a ∧ b = false)
  | _, _, _ => False
def rIsi (t : Ty5) : List V → Hp → VK → Prop := fun xs H Q => ∃ x b, xs = [x, .ty t.nm] ∧ IsI H x t b ∧ Q (.bl b) H
theorem call_isi {X : Cx} {t : Ty5} : CallR X (.builtin "isinstance") (rIsi t) := by
  intro pins s σ H xs us Q I r h
  obtain ⟨x, b, rfl, hi, q⟩ := h
  cases r with
  | cons r1 r2 =>
    cases r2 with
    | cons r2 r3 =>
      cases r3
      obtain rfl : _ = Value.type t.nm := r2
      have f0 : EP X pins σ Q (.bool b) s := ⟨.bl b, H, I, rfl, q⟩
      have f1 : EP X pins σ Q (.bool b) { s with toks := s.toks + 1 } := ⟨.bl b, H, I.tok _, rfl, q⟩
      cases x with
      | int i =>
        obtain ⟨tk, rfl⟩ := r1
        cases t <;> cases hi
        · exact IsiPair.int_str f1
        · exact IsiPair.int_tuple f1
        · exact IsiPair.int_list f1
        · exact IsiPair.int_int f0
        · exact IsiPair.int_bool f1
      | bl i =>
        cases r1
        cases t <;> cases hi
        · exact IsiPair.bool_str f1
        · exact IsiPair.bool_tuple f1
        · exact IsiPair.bool_list f1
        · exact IsiPair.bool_int f0
        · exact IsiPair.bool_bool f0
      | str i =>
        obtain ⟨tk, rfl⟩ := r1
        cases t <;> cases hi
        · exact IsiPair.str_str f0
        · exact IsiPair.str_tuple f1
        · exact IsiPair.str_list f1
        · exact IsiPair.str_int f1
        · exact IsiPair.str_bool f1
      | non =>
        cases r1
        cases t <;> cases hi
        · exact IsiPair.NoneType_str f1
        · exact IsiPair.NoneType_tuple f1
        · exact IsiPair.NoneType_list f1
        · exact IsiPair.NoneType_int f1
        · exact IsiPair.NoneType_bool f1
      | ref a =>
        cases r1
        rcases hi with ⟨⟨ys, hr⟩, e⟩ | ⟨⟨ys, hr⟩, e⟩ | ⟨hd, e⟩
        · obtain ⟨its, _, pl, _⟩ := I.list (.inl hr)
          obtain ⟨o, h1, h2, _⟩ := pl.isList
          cases t <;> cases e
          · exact IsiPair.list_str h1 h2 f1
          · exact IsiPair.list_tuple h1 h2 f1
          · exact IsiPair.list_list h1 h2 f0
          · exact IsiPair.list_int h1 h2 f1
          · exact IsiPair.list_bool h1 h2 f1
        · obtain ⟨its, _, ⟨o, h1, h2, _⟩, _⟩ := I.tuple (.inl hr)
          cases t <;> cases e
          · exact IsiPair.tuple_str h1 h2 f1
          · exact IsiPair.tuple_tuple h1 h2 f0
          · exact IsiPair.tuple_list h1 h2 f1
          · exact IsiPair.tuple_int h1 h2 f1
          · exact IsiPair.tuple_bool h1 h2 f1
        · obtain ⟨⟨o, h1, h2⟩, _⟩ := isD_at I hd
          cases e
          cases t
          · exact IsiPair.dict_str h1 h2 f1
          · exact IsiPair.dict_tuple h1 h2 f1
          · exact IsiPair.dict_list h1 h2 f1
          · exact IsiPair.dict_int h1 h2 f1
          · exact IsiPair.dict_bool h1 h2 f1
      | byt _ => exact hi.elim
      | flt _ => exact hi.elim
      | ty _ => exact hi.elim
theorem mt_dcopy {X : Cx} : MtR X "dict.copy" (fun x xs H Q => ∃ a kvs, x = .ref a ∧ xs = [] ∧ Rd H a (.dK kvs) ∧ ∀ q, H q = none → Q (.ref q) (upd H q (.dK kvs))) := by
  intro pins s σ H x xs v us Q I rx rv h
  obtain ⟨a, kvs, rfl, rfl, e, q⟩ := h
  cases rx
  have hus := rv.zero
  subst hus
  obtain ⟨z, hd, vs, rel, dd⟩ := dk_rd I.hok e
  refine call_meetsIn F.slot_dict_copy dd.typeIs F.entry_dict_copy (F.args_dict_copy_1 _) (meets_dict_copy _ a hd) ⟨vs, dd, by rw [← rel.length]; exact z, fun h' d1 d2 kp => ?_⟩
  exact ⟨.ref s.heap.objs.size, _, I.laid (a := s.heap.objs.size) (o := .dK kvs) (t' := s.toks) kp (Nat.le_refl _) (dk_new z (beq_eq_false_iff_ne.mpr (Ne.symm (Nat.ne_of_lt I.big))) rel d1), rfl, q _ (I.hok.fresh (Nat.le_refl _))⟩
end L2
namespace L2
open PySem PySem.Spec PyProof.Rows
def tDCopy (td : TE) : TE := fun σ H Q => td σ H fun x H1 => ∃ a kvs, x = .ref a ∧ Rd H1 a (.dK kvs) ∧ ∀ q, H1 q = none → Q (.ref q) (upd H1 q (.dK kvs))
theorem pe_dcopy {X : Cx} {o : Expr} {td : TE} {apos cpos : Pos} (ho : PE X o td) (hbase : attributeBase o "copy" X.env (eval o X.env) = eval o X.env := by rfl) (hline : (apos.endLine == cpos.line) = true := by rfl) : PE X (.Call (.Attribute o "copy" apos) [] [] cpos) (tDCopy td) := by
  intro pins s σ H Q I h
  refine wpAny_Call_method0_late hbase hline (thn (ho pins s σ H _ I h) fun v s1 ⟨x, H1, I1, r1, a, kvs, ex, e, q1⟩ => ?_)
  subst ex
  obtain rfl : v = Value.ref a := r1
  obtain ⟨t1, t2, _⟩ := isD_at I1 (.inl ⟨kvs, e⟩)
  exact ⟨"dict", "dict.copy", F.plainAttrs_dict, F.slot_dict_copy, F.type_dict_copy, t1, t2, Calls.callWith_builtin rfl (PySem.evalArgs_none (mt_dcopy pins s1 σ H1 (.ref a) [] _ [] Q I1 rfl .nil ⟨a, kvs, rfl, rfl, e, q1⟩))⟩
end L2
end
section
namespace VS
open PySem L2
def isiD (t : Ty5) : D → Option Bool
  | .int _ => some (decide (t = .int))
  | .bl _ => some (decide (t = .int) || decide (t = .bool))
  | .str _ => some (decide (t = .str))
  | .tup _ => some (decide (t = .tup))
  | .lst _ _ => some (decide (t = .lst))
  | .dic _ _ _ _ => some false
  | .non => some false
  | .fn _ => none
def uIsi (t : Ty5) (ua : UB) : UB := fun env Q => ua env fun r e => ∃ d b, r.at e = some d ∧ isiD t d = some b ∧ Q (.tmp (.bl b)) e
theorem isi_of {Z : Set} {H : Hp} {d : D} {v : V} {F : Set} {t : Ty5} {b : Bool} (h : Own Z H d v F) (e : isiD t d = some b) : IsI H v t b := by
  cases d with
  | int i => cases own_int.mp h; cases e; rfl
  | bl i => cases own_bl.mp h; cases e; rfl
  | str i => cases own_str.mp h; cases e; rfl
  | non => cases own_non.mp h; cases e; rfl
  | fn a => cases e
  | tup ds => obtain ⟨a, vs, rfl, hr, _⟩ := own_tup.mp h; cases e; exact .inr (.inl ⟨⟨_, .inl hr⟩, rfl⟩)
  | lst o ds => obtain ⟨a, vs, rfl, hr, _⟩ := own_lst h; cases e; exact .inl ⟨⟨_, hr⟩, rfl⟩
  | dic o t ks ds => obtain ⟨a, vs, u, rfl, hr, hd, _⟩ := own_dic h; cases e; exact .inr (.inr ⟨isD_of (Z := Z) hr hd, rfl⟩)
theorem snd_isi {t : Ty5} {te : TE} {ua : UB} (h : SndB te ua) : SndB (tCB (rIsi t) (tCons te (tCons (tC (.ty t.nm)) tNil))) (uIsi t ua) := by
  intro σ env Z H φ Q R O q k
  refine h σ env Z H φ _ _ O q fun r env1 v Z1 H1 φ1 G1 q1 O1 r1 ok1 => ?_
  obtain ⟨d, b, e1, e2, q2⟩ := q1
  obtain ⟨F, ho⟩ := tree_of O1 ok1 e1
  exact ⟨v, b, rfl, isi_of ho e2, k (.tmp (.bl b)) env1 (.bl b) Z1 H1 φ1 E0s q2 O1 r1.drop (show Own Z1 H1 (.bl b) (.bl b) E0s from own_bl.mpr rfl)⟩
section
variable {I : Nat → Bool} {X : Cx} {a b e o : Expr} {es : List Expr} {ua ub ue uk uv : UB} {wa : UA} {x : Str} {i n k : Nat} {p p2 pos pos' apos cpos : Pos}
theorem ve_isi {t : Ty5} {c : Str} (hg : Gl X "isinstance") (hm : X.mg "isinstance" = none) (hc : Gl X c) (hcm : X.mg c = none) (hb : bootBuiltins c = some (.type t.nm)) (h : VE X e ua) (hn : c ≠ "__name__" := by decide) (hd : (c == ("__debug__" : Str)) = false := by decide) (h1 : plainE e = true := by rfl) :
    VE X (.Call (.Name "isinstance" p) [e, .Name c p2] [] pos) (uIsi t ua) :=
  let ⟨_, q, s⟩ := h.ex; ⟨_, callB1 call_isi hg hm PyProof.Rows.boot_isinstance (pa1 q (pa1 (pe_bltn (v := .ty t.nm) hc hcm hb rfl hn hd) pa_nil rfl) h1) (by decide) (by decide) h1 rfl, snd_isi s⟩
def fDCopy : D → (D → Prop) → Prop
  | .dic _ false ks ds, P => bareL ds = true ∧ P (.dic true false ks ds)
  | _, _ => False
theorem snd_dcopy {t : TE} {u : UB} (h : SndB t u) : SndB (tDCopy t) (uFn1 fDCopy u) := snd_fn1 (r := fun x H1 Q => ∃ a kvs, x = .ref a ∧ Rd H1 a (.dK kvs) ∧ ∀ q, H1 q = none → Q (.ref q) (upd H1 q (.dK kvs))) h fun Z H d v F P R ho hf kk => by
  cases d <;> try exact hf.elim
  rename_i o t ks ds
  cases t <;> try exact hf.elim
  obtain ⟨a, vs, u, rfl, hr, ⟨kl, rfl, hl1, hnd, rfl⟩, hl⟩ := own_dic ho
  exact ⟨a, _, rfl, hr, fun q hn => kk _ _ _ (fun a => a = q) hf.2 ⟨Same.upd hn, own_dicT.mpr ⟨q, vs, _, rfl, upd_same, ⟨kl, rfl, hl1, hnd, rfl⟩, rfl, ((hl.bare _ hf.1).grow (Same.upd hn)).mono fun _ z => z.elim⟩, fun b z => by subst z; exact ⟨hn, by rw [upd_same]; exact trivial⟩⟩⟩
theorem ve_dcopy (h : VE X o ua) (hbase : attributeBase o "copy" X.env (eval o X.env) = eval o X.env := by rfl) (hline : (apos.endLine == cpos.line) = true := by rfl) : VE X (.Call (.Attribute o "copy" apos) [] [] cpos) (uFn1 fDCopy ua) := let ⟨_, q, s⟩ := h.ex; ⟨_, pe_dcopy q hbase hline, snd_dcopy s⟩
def uSlT (ua : UB) (ul uh : UO) : UB := fun env Q => ua env fun r e1 => ul e1 fun lo e2 => uh e2 fun hi e3 => ∃ ds, r.at e3 = some (.tup ds) ∧ bareL ds = true ∧ ¬ (HT.sIx ds.length 0 lo = 0 ∧ HT.sIx ds.length ds.length hi = ds.length) ∧ Q (.tmp (.tup (cutL ds lo hi))) e3
theorem snd_slT {K : PySem.W.Frag} {t : TE} {u : UB} {tl th : TO} {ul uh : UO} (h : SndB t u) (hl : SndO tl ul) (hh : SndO th uh) : SndB (tSl (rSlT K) t tl th) (uSlT u ul uh) := by
  intro σ env Z H φ Q R O q k
  refine h σ env Z H φ _ _ O q fun x1 env1 v1 Z1 H1 φ1 G1 q1 O1 r1 ok1 => ?_
  refine hl σ env1 Z1 H1 φ1 _ _ O1 q1 fun lo env2 Z2 H2 φ2 q2 O2 r2 => ?_
  refine hh σ env2 Z2 H2 φ2 _ _ O2 q2 fun hi env3 Z3 H3 φ3 q3 O3 r3 => ?_
  obtain ⟨r12, _⟩ := r1.seq r2
  have ok2 := (ok1.keep O1 r2 r1.d)
  have ok3 := ok2.keep O2 r3 fun a z y => r12.d a z (.inl y)
  obtain ⟨ds, ea, hb, hw, q3⟩ := q3
  obtain ⟨F, ho⟩ := tree_of O3 ok3 ea
  obtain ⟨a, vs, rfl, hr, hl'⟩ := own_tup.mp ho
  refine ⟨a, vs, rfl, .inl (.inl hr), by rw [hl'.length]; exact hw, fun p hn => ?_⟩
  have hc : OwnL Z3 H3 (cutL ds lo hi) (cutV vs lo hi) E0s := by
    unfold cutL cutV
    rw [hl'.length]
    exact ((hl'.bare ds hb).drop _).take _
  have hs := Same.upd (H := H3) (o := .tup (cutV vs lo hi)) hn
  have n : New Z3 H3 (upd H3 p (.tup (cutV vs lo hi))) (.tup (cutL ds lo hi)) (.ref p) E0s := ⟨hs, own_tup.mpr ⟨p, _, rfl, upd_same, hc.grow hs⟩, fun _ z => z.elim⟩
  exact k (.tmp _) env3 _ Z3 _ φ3 _ q3 (O3.grow hs) (n.res O3 (r12.drop.trans r3)) n.own
theorem ve_sliceT {lo hi : Option Expr} {ul uh : UO} (h : VE X e ue) (hl : VO X lo ul) (hh : VO X hi uh) : VE X (.Subscript e (.Slice lo hi none p2) pos) (uSlT ue ul uh) := let ⟨_, q, s⟩ := h.ex; let ⟨_, q1, s1⟩ := hl.ex; let ⟨_, q2, s2⟩ := hh.ex; ⟨_, pe_slice sl_tup q q1 q2, snd_slT s s1 s2⟩
def uRng2 (ua : UA) : UI := fun env Q => ua env fun rs e => ∃ i j : Int, rs = [.tmp (.int i), .tmp (.int j)] ∧ -(2 ^ 62) ≤ i ∧ i < 2 ^ 62 ∧ -(2 ^ 62) ≤ j ∧ j < 2 ^ 62 ∧ Q (intsD i (j - i).toNat) e
end
end VS
end
section
namespace VS
open PySem L2
def opsK (A : List (Str × Addr)) : List (Key × V) := A.map fun p => (.inr p.1, .ref p.2)
theorem valV_ops (x : Str) : ∀ A : List (Str × Addr), valV (opsK A) (.inr x) = (A.lookup x).map V.ref
  | [] => rfl
  | (y, a) :: A => by
    show valV ((Sum.inr y, V.ref a) :: opsK A) (.inr x) = _
    by_cases e : y = x
    · rw [valV_pos (by rw [e]), List.lookup_cons, e]; simp
    · rw [valV_neg (fun z => e (Sum.inr.inj z)), List.lookup_cons, valV_ops x A]
      have : (x == y) = false := by simpa using Ne.symm e
      rw [this]
theorem lookup_some_ops (x : Str) : ∀ A : List (Str × Addr), (A.lookup x).isSome = (A.map (·.1)).contains x
  | [] => rfl
  | (y, a) :: A => by
    rw [List.lookup_cons, List.map_cons, List.contains_cons, ← lookup_some_ops x A]
    cases e : x == y <;> simp
def uMIn (neg : Bool) (ks : List Str) (ua : UB) : UB := fun env Q => ua env fun r e => ∃ x, r.at e = some (.str x) ∧ Q (.tmp (.bl (if neg then !ks.contains x else ks.contains x))) e
def uMGet (A : List (Str × Addr)) (ua : UB) : UB := fun env Q => ua env fun r e => ∃ x a, r.at e = some (.str x) ∧ A.lookup x = some a ∧ Q (.tmp (.fn a)) e
theorem snd_min {X : Cx} {neg : Bool} {aO : Addr} {A : List (Str × Addr)} {t : TE} {u : UB} (hD : ModD X.prog X.w X.base aO (opsK A)) (h : SndB t u) : SndB (tMIn X neg t (tC (.ref aO))) (uMIn neg (A.map (·.1)) u) := by
  intro σ env Z H φ Q R O q k
  refine h σ env Z H φ _ _ O q fun r env1 v Z1 H1 φ1 G1 q1 O1 r1 ok1 => ?_
  obtain ⟨x, e1, q2⟩ := q1
  obtain ⟨F, ho⟩ := tree_of O1 ok1 e1
  have ho : v = .str x := own_str.mp ho
  subst ho
  refine ⟨aO, _, .inr x, rfl, hD, rfl, ?_⟩
  have e : (valV (opsK A) (.inr x)).isSome = (A.map (·.1)).contains x := by rw [valV_ops, Option.isSome_map, lookup_some_ops]
  rw [e]
  exact k (.tmp (.bl _)) env1 (.bl _) Z1 H1 φ1 E0s q2 O1 r1.drop (show Own Z1 H1 (.bl _) (.bl _) E0s from own_bl.mpr rfl)
theorem snd_mget {X : Cx} {aO : Addr} {A : List (Str × Addr)} {t : TE} {u : UB} (hD : ModD X.prog X.w X.base aO (opsK A)) (h : SndB t u) : SndB (tMGet X (tC (.ref aO)) t) (uMGet A u) := by
  intro σ env Z H φ Q R O q k
  refine h σ env Z H φ _ _ O q fun r env1 v Z1 H1 φ1 G1 q1 O1 r1 ok1 => ?_
  obtain ⟨x, a, e1, e2, q2⟩ := q1
  obtain ⟨F, ho⟩ := tree_of O1 ok1 e1
  have ho : v = .str x := own_str.mp ho
  subst ho
  refine ⟨aO, _, .inr x, .ref a, rfl, hD, rfl, by rw [valV_ops, e2]; rfl, ?_⟩
  exact k (.tmp (.fn a)) env1 (.ref a) Z1 H1 φ1 E0s q2 O1 r1.drop (show Own Z1 H1 (.fn a) (.ref a) E0s from own_fn.mpr rfl)
def uCallL (i : Nat) (S : Addr → USp → Prop) (ms : List Bool) (ua : UA) : UB := fun env Q => ∃ a m, env[i]? = some (some (.fn a)) ∧ S a m ∧ uCall ms m ua env Q
theorem snd_callL {X : Cx} {i k : Nat} {ms : List Bool} {S : Addr → USp → Prop} (hS : ∀ a m, S a m → OwnAt X.prog X.w X.K X.mg X.base a k (spU ms m)) (hr : Room k X.A) {t : TA} {u : UA} (h : SndA t u) : SndB (tCallL X i t) (uCallL i S ms u) := by
  intro σ env Z H φ Q R O ⟨a, m, e, hs, q⟩ kk
  obtain ⟨v, hv, ho⟩ := O.own i _ e
  have ho : v = .ref a := own_fn.mp ho
  subst ho
  refine ⟨a, k, spU ms m, hv, hS a m hs, hr, ?_⟩
  have := snd_call (m := m) (ms := ms) h σ env Z H φ Q R O q kk
  simp only [tCall, List.append_nil] at this
  exact this
section
variable {I : Nat → Bool} {X : Cx} {a b e o : Expr} {es : List Expr} {ua ub ue uk uv : UB} {wa : UA} {x : Str} {i n k : Nat} {p p2 pos pos' apos cpos : Pos} {aO : Addr} {A : List (Str × Addr)}
theorem vc_mnotin (hm : X.mg x = some (.ref aO)) (hg : Gl X x) (hD : ModD X.prog X.w X.base aO (opsK A)) (h : VE X a ua) (hd : (x == ("__debug__" : Str)) = false := by decide) : VC X .NotIn a (.Name x p) (uMIn true (A.map (·.1)) ua) := let ⟨_, q, s⟩ := h.ex; ⟨_, pc_mnotin q (pe_gref hm hg hd), snd_min hD s⟩
theorem ve_mget (hm : X.mg x = some (.ref aO)) (hg : Gl X x) (hD : ModD X.prog X.w X.base aO (opsK A)) (h : VE X b ub) (hs : NoSl b) (hd : (x == ("__debug__" : Str)) = false := by decide) : VE X (.Subscript (.Name x p) b pos) (uMGet A ub) := let ⟨_, q, s⟩ := h.ex; ⟨_, pe_mget (pe_gref hm hg hd) q hs, snd_mget hD s⟩
theorem ve_callL {ms : List Bool} {S : Addr → USp → Prop} (hS : ∀ a m, S a m → OwnAt X.prog X.w X.K X.mg X.base a k (spU ms m)) (hr : Room k X.A) (hN : X.N[i]? = some x) (hv : Vis X.env.scope x) (ha : VA X (e :: es) wa) (hdb : (x == ("__debug__" : Str)) = false := by decide) (hcd : (x == ("__classdict__" : Str)) = false := by decide) (h1 : plainE e = true := by rfl) (h2 : es.all plainE = true := by rfl) : VE X (.Call (.Name x p) (e :: es) [] pos) (uCallL i S ms wa) :=
  let ⟨_, q, s⟩ := ha.ex; ⟨_, ownL1 q hN hv hdb hcd h1 h2, snd_callL hS hr s⟩
end
def ddrop {α : Type} : List DK → List α → DK → List DK × List α
  | k :: ks, d :: ds, k' => if k = k' then ((ddrop ks ds k').1, (ddrop ks ds k').2) else (k :: (ddrop ks ds k').1, d :: (ddrop ks ds k').2)
  | _, _, _ => ([], [])
theorem OwnL.ddrop {Z : Set} {H : Hp} : ∀ {ks : List DK} {ds : List D} {vs : List V} {F : Set} {k : DK}, OwnL Z H ds vs F → OwnL Z H (VS.ddrop ks ds k).2 (VS.ddrop ks vs k).2 F ∧ (VS.ddrop ks ds k).1 = (VS.ddrop ks vs k).1
  | [], ds, vs, F, k, h => by
    have e1 : VS.ddrop [] ds k = ([], []) := by cases ds <;> rfl
    have e2 : VS.ddrop [] vs k = ([], []) := by cases vs <;> rfl
    rw [e1, e2]
    exact ⟨ownL_nil.mpr rfl, rfl⟩
  | k' :: ks, [], vs, F, k, h => by
    cases ownL_nil.mp h
    exact ⟨ownL_nil.mpr rfl, rfl⟩
  | k' :: ks, d :: ds, vs, F, k, h => by
    obtain ⟨v, r, F1, F2, rfl, h1, h2, s1, s2, dj⟩ := ownL_cons.mp h
    obtain ⟨i1, i2⟩ := OwnL.ddrop (ks := ks) (k := k) h2
    simp only [VS.ddrop]
    by_cases e : k' = k
    · rw [if_pos e, if_pos e]; exact ⟨i1.mono s2, i2⟩
    · rw [if_neg e, if_neg e]; exact ⟨ownL_cons.mpr ⟨v, _, F1, F2, rfl, h1, i1, s1, s2, dj⟩, by rw [i2]⟩
def uDPop (i : Nat) (uk : UB) : UB := fun env Q => (∃ o t ks ds, env[i]? = some (some (.dic o t ks ds))) ∧ uk env fun r e => ∃ kd k ks ds d, r.at e = some kd ∧ scK kd = some k ∧ e[i]? = some (some (.dic true false ks ds)) ∧ dfind ks ds (.s k) = some d ∧ bare d = true ∧ Q (.tmp d) (e.set i (some (.dic true false (ddrop ks ds (.s k)).1 (ddrop ks ds (.s k)).2)))
section
variable {X : Cx} {e : Expr} {uk : UB} {x : Str} {i : Nat} {p apos cpos : Pos}
end
end VS
end
section
namespace VS
open PySem L2
mutual
def toPy : D → PyData
  | .non => .none
  | .bl b => .bool b
  | .int i => .int i
  | .str x => .str x
  | .fn _ => .none
  | .tup ds => .tuple (toPyL ds)
  | .lst _ ds => .list (toPyL ds)
  | .dic _ _ _ _ => .none
def toPyL : List D → List PyData
  | [] => []
  | d :: ds => toPy d :: toPyL ds
end
mutual
def okE : Nat → D → Bool
  | _, .non => true
  | _, .bl _ => true
  | _, .int _ => true
  | _, .str x => PyData.strOk x
  | _, .fn _ => false
  | 0, .tup _ => false
  | n + 1, .tup ds => okEL n ds
  | 0, .lst _ _ => false
  | n + 1, .lst _ ds => okEL n ds
  | _, .dic _ _ _ _ => false
def okEL : Nat → List D → Bool
  | _, [] => true
  | n, d :: ds => okE n d && okEL n ds
end
theorem okEL_iff {n : Nat} : ∀ {ds : List D}, okEL n ds = true ↔ ∀ d ∈ ds, okE n d = true
  | [] => by simp [okEL]
  | d :: ds => by simp [okEL, okEL_iff (ds := ds)]
mutual
theorem okE.shape : ∀ (n : Nat) (d : D), okE n d = true → PyData.canLay0 (toPy d) = true ∧ PyData.depth (toPy d) ≤ n
  | _, .non, _ => by simp [toPy, PyData.canLay0, PyData.depth]
  | _, .bl _, _ => by simp [toPy, PyData.canLay0, PyData.depth]
  | _, .int _, _ => by simp [toPy, PyData.canLay0, PyData.depth]
  | _, .str x, h => by simp [okE] at h; simp [toPy, PyData.canLay0, PyData.depth, h]
  | _, .fn _, h => by simp [okE] at h
  | 0, .tup _, h => by simp [okE] at h
  | n + 1, .tup ds, h => by
    simp only [okE] at h
    obtain ⟨h1, h2⟩ := okEL.shape n ds h
    simp only [toPy, PyData.canLay0, PyData.depth]
    exact ⟨h1, by omega⟩
  | 0, .lst _ _, h => by simp [okE] at h
  | n + 1, .lst _ ds, h => by
    simp only [okE] at h
    obtain ⟨h1, h2⟩ := okEL.shape n ds h
    simp only [toPy, PyData.canLay0, PyData.depth]
    exact ⟨h1, by omega⟩
  | _, .dic _ _ _ _, h => by simp [okE] at h
theorem okEL.shape : ∀ (n : Nat) (ds : List D), okEL n ds = true → PyData.canLayAll0 (toPyL ds) = true ∧ PyData.depthAll (toPyL ds) ≤ n
  | _, [], _ => by simp [toPyL, PyData.canLayAll0, PyData.depthAll]
  | n, d :: ds, h => by
    simp only [okEL, Bool.and_eq_true] at h
    obtain ⟨h1, h2⟩ := okE.shape n d h.1
    obtain ⟨h3, h4⟩ := okEL.shape n ds h.2
    simp only [toPyL, PyData.canLayAll0, PyData.depthAll, h1, h3]
    exact ⟨rfl, by omega⟩
end
mutual
theorem okE.da {K : PySem.W.Frag} {Z : Set} {H : Hp} : ∀ (n : Nat) (d : D) {v : V} {F : Set}, okE n d = true → Own Z H d v F → DA K H (toPy d) v
  | _, .non, _, _, _, h => by simp only [toPy, DA]; exact own_non.mp h
  | _, .bl _, _, _, _, h => by simp only [toPy, DA]; exact own_bl.mp h
  | _, .int _, _, _, _, h => by simp only [toPy, DA]; exact own_int.mp h
  | _, .str x, _, _, _, h => by simp only [toPy, DA]; exact own_str.mp h
  | _, .fn _, _, _, h, _ => by simp [okE] at h
  | 0, .tup _, _, _, h, _ => by simp [okE] at h
  | n + 1, .tup ds, _, _, h, ho => by
    simp only [okE] at h
    obtain ⟨a, vs, rfl, hr, hl⟩ := own_tup.mp ho
    simp only [toPy, DA]
    exact ⟨a, vs, rfl, .inl (.inl hr), okEL.da n ds h hl⟩
  | 0, .lst _ _, _, _, h, _ => by simp [okE] at h
  | n + 1, .lst _ ds, _, _, h, ho => by
    simp only [okE] at h
    obtain ⟨a, vs, rfl, hr, hl⟩ := own_lst ho
    simp only [toPy, DA]
    exact ⟨a, vs, rfl, .inl hr, okEL.da n ds h hl⟩
  | _, .dic _ _ _ _, _, _, h, _ => by simp [okE] at h
theorem okEL.da {K : PySem.W.Frag} {Z : Set} {H : Hp} : ∀ (n : Nat) (ds : List D) {vs : List V} {F : Set}, okEL n ds = true → OwnL Z H ds vs F → DAs K H (toPyL ds) vs
  | _, [], _, _, _, h => by simp only [toPyL, DAs]; exact ownL_nil.mp h
  | n, d :: ds, _, _, h, ho => by
    simp only [okEL, Bool.and_eq_true] at h
    obtain ⟨v, r, F1, F2, rfl, h1, h2, _⟩ := ownL_cons.mp ho
    simp only [toPyL, DAs]
    exact ⟨v, r, rfl, okE.da n d h.1 h1, okEL.da n ds h.2 h2⟩
end
def eqT (a b : D) : Bool := PyData.eqv (toPy a) (toPy b)
def fEqD (neg : Bool) : D → D → (D → Prop) → Prop := fun a b P => okE 60 a = true ∧ okE 60 b = true ∧ P (.bl (if neg then !eqT a b else eqT a b))
theorem shaped_of {d : D} (h : okE 60 d = true) : SeqAt.shaped (toPy d) = true := by
  obtain ⟨h1, h2⟩ := okE.shape 60 d h
  simp only [SeqAt.shaped, h1, Bool.true_and, decide_eq_true_eq]
  omega
theorem fn_neD {K : PySem.W.Frag} : FnV2 (rEqD K true) (fEqD true) := fun Z H d1 d2 v1 v2 F1 F2 P R h1 h2 ⟨o1, o2, p⟩ k =>
  ⟨_, _, okE.da 60 d1 o1 h1, okE.da 60 d2 o2 h2, shaped_of o1, shaped_of o2, k _ _ _ _ p (New.refl (own_bl.mpr rfl))⟩
mutual
theorem eqv_refl : ∀ (n : Nat) (d : D), okE n d = true → PyData.eqv (toPy d) (toPy d) = true
  | _, .non, _ => by simp [toPy, PyData.eqv]
  | _, .bl _, _ => by simp [toPy, PyData.eqv]
  | _, .int _, _ => by simp [toPy, PyData.eqv]
  | _, .str x, h => by simp [toPy, PyData.eqv]
  | _, .fn _, h => by simp [okE] at h
  | 0, .tup _, h => by simp [okE] at h
  | n + 1, .tup ds, h => by simp only [okE] at h; simp only [toPy, PyData.eqv]; exact eqvL_refl n ds h
  | 0, .lst _ _, h => by simp [okE] at h
  | n + 1, .lst _ ds, h => by simp only [okE] at h; simp only [toPy, PyData.eqv]; exact eqvL_refl n ds h
  | _, .dic _ _ _ _, h => by simp [okE] at h
theorem eqvL_refl : ∀ (n : Nat) (ds : List D), okEL n ds = true → PyData.eqvAll (toPyL ds) (toPyL ds) = true
  | _, [], _ => by simp [toPyL, PyData.eqvAll]
  | n, d :: ds, h => by
    simp only [okEL, Bool.and_eq_true] at h
    simp only [toPyL, PyData.eqvAll, eqv_refl n d h.1, eqvL_refl n ds h.2]; rfl
end
mutual
theorem toPy_frz : ∀ d : D, toPy (frz d) = toPy d
  | .non => by simp [frz]
  | .bl _ => by simp [frz]
  | .int _ => by simp [frz]
  | .str x => by simp [frz]
  | .fn _ => by simp [frz]
  | .tup ds => by simp only [frz, toPy, toPyL_frz ds]
  | .lst _ ds => by simp only [frz, toPy, toPyL_frz ds]
  | .dic _ _ _ _ => by simp only [frz, toPy]
theorem toPyL_frz : ∀ ds : List D, toPyL (frzL ds) = toPyL ds
  | [] => by simp [frzL]
  | d :: ds => by simp only [frzL, toPyL, toPy_frz d, toPyL_frz ds]
end
theorem eqT_frz {a b : D} (h : okE 60 a = true) (e : frz a = frz b) : eqT a b = true := by
  unfold eqT
  rw [← toPy_frz b, ← e, toPy_frz]
  exact eqv_refl 60 a h
mutual
theorem okE_frz : ∀ (n : Nat) (d : D), okE n (frz d) = okE n d
  | _, .non => by simp [frz]
  | _, .bl _ => by simp [frz]
  | _, .int _ => by simp [frz]
  | _, .str x => by simp [frz]
  | _, .fn _ => by simp [frz]
  | 0, .tup ds => by simp only [frz, okE]
  | n + 1, .tup ds => by simp only [frz, okE, okEL_frz n ds]
  | 0, .lst _ ds => by simp only [frz, okE]
  | n + 1, .lst _ ds => by simp only [frz, okE, okEL_frz n ds]
  | _, .dic _ _ _ _ => by simp only [frz, okE]
theorem okEL_frz : ∀ (n : Nat) (ds : List D), okEL n (frzL ds) = okEL n ds
  | _, [] => by simp [frzL]
  | n, d :: ds => by simp only [frzL, okEL, okE_frz n d, okEL_frz n ds]
end
theorem okE_s {n : Nat} {x : Str} : okE n (.str x) = PyData.strOk x := by cases n <;> simp [okE]
theorem okE_i {n : Nat} {x : Int} : okE n (.int x) = true := by cases n <;> simp [okE]
theorem okE_b {n : Nat} {x : Bool} : okE n (.bl x) = true := by cases n <;> simp [okE]
theorem okE_t {n : Nat} {ds : List D} : okE (n + 1) (.tup ds) = okEL n ds := by simp [okE]
theorem okE_l {n : Nat} {o : Bool} {ds : List D} : okE (n + 1) (.lst o ds) = okEL n ds := by simp [okE]
theorem okEL_n {n : Nat} : okEL n [] = true := by simp [okEL]
theorem okEL_c {n : Nat} {d : D} {ds : List D} : okEL n (d :: ds) = (okE n d && okEL n ds) := by simp [okEL]
theorem okEL_ints {n : Nat} {xs : List Int} : okEL n (xs.map D.int) = true := okEL_iff.mpr fun d hd => by
  obtain ⟨x, _, rfl⟩ := List.mem_map.mp hd; exact okE_i
end VS
end
section
namespace L2
open PySem PySem.Spec PyProof.Rows
def MkT (B : Bool) (n : Nat) (t : SetTable) : Prop := t.led = B ∧ (n = 0 ∨ t.plain = false)
section
variable {prog : Program} {w : World} {A : Around} {E : Value → Shared → Prop} {s : Shared}
structure SG (prog : Program) (w : World) (h : Heap) (a : Addr) (es : Array (Int × Value)) (ep : Nat) : Prop where
  ex : ∃ o t, h.get? a = some o ∧ o.ExactSet ∧ o.data = .set es ep t ∧ ElemsOf (strKind prog w) es.toList ∧ es.size < scanBound ∧ t.fits es.size = true ∧ MkT (!w.params.followText "set-order") es.size t
theorem SG.at {h h' : Heap} {a : Addr} {es : Array (Int × Value)} {ep : Nat} (x : SG prog w h a es ep) (k : ∀ o, h.get? a = some o → h'.get? a = some o) : SG prog w h' a es ep := let ⟨o, t, ho, r⟩ := x.ex; ⟨o, t, k o ho, r⟩
theorem SG.store {h : Heap} {a : Addr} {o : Obj} {es : Array (Int × Value)} {ep : Nat} {t : SetTable} (ho : h.get? a = some o) (hex : o.ExactSet) (hd : o.data = .set es ep t) {es' : Array (Int × Value)} {t' : SetTable} (hel : ElemsOf (strKind prog w) es'.toList) (hb : es'.size < scanBound) (hf : t'.fits es'.size = true) (hm : MkT (!w.params.followText "set-order") es'.size t') :
    (h.update a (Obj.putSet es' t')).get? a = some { o with data := .set es' (ep + 1) t' } ∧ SG prog w (h.update a (Obj.putSet es' t')) a es' (ep + 1) := by
  obtain ⟨h1, _⟩ := SetOf_store (knd := strKind prog w) (S' := fun k => es'.toList.any fun e => (strKind prog w).is k e.2) ho hex hd hel (fun k => List.any_eq_true) hb hf
  exact ⟨h1, _, t', h1, hex, rfl, hel, hb, hf, hm⟩
end
end L2
end
section
namespace L2
open PySem PySem.Spec PyProof.Rows
def Kz (es : Array (Int × Value)) (xs : List Str) : Prop := (es.toList.map fun e => strOf e.2).Nodup ∧ ∀ x, x ∈ (es.toList.map fun e => strOf e.2) ↔ x ∈ xs
section
variable {prog : Program} {w : World} {A : Around} {E : Value → Shared → Prop} {s : Shared}
theorem is_str {k : Str} {v : Value} (h : (strKind prog w).is k v = true) : ∃ t, v = .str k t := Value.isStrOf_shape h
theorem elem_str {es : List (Int × Value)} (h : ElemsOf (strKind prog w) es) {e : Int × Value} (he : e ∈ es) : ∃ t, e.2 = .str (strOf e.2) t := by
  obtain ⟨⟨k, hk, _⟩, _⟩ := h e he
  obtain ⟨t, ht⟩ := is_str hk
  exact ⟨t, by rw [ht]; rfl⟩
theorem Kz.step {es es' : Array (Int × Value)} {xs : List Str} {k : Str} {tk : Tok} (hel : ElemsOf (strKind prog w) es.toList) (hk : Kz es xs) (h : ((∃ e ∈ es.toList, (strKind prog w).is k e.2 = true) ∧ es' = es) ∨ ((∀ e ∈ es.toList, (strKind prog w).is k e.2 = false) ∧ es'.toList.Perm (es.toList ++ [((strKind prog w).hash k, .str k tk)]))) : Kz es' (xs ++ [k]) := by
  rcases h with ⟨⟨e, he, hp⟩, rfl⟩ | ⟨hno, hp⟩
  · refine ⟨hk.1, fun x => ?_⟩
    rw [hk.2 x, List.mem_append, List.mem_singleton]
    refine ⟨.inl, fun z => z.elim id ?_⟩
    rintro rfl
    obtain ⟨t, ht⟩ := is_str hp
    exact (hk.2 x).mp (List.mem_map.mpr ⟨e, he, by rw [ht]; rfl⟩)
  · have hm := hp.map (fun e => strOf e.2)
    rw [List.map_append] at hm
    refine ⟨hm.nodup_iff.mpr (List.nodup_append.mpr ⟨hk.1, by simp, ?_⟩), fun x => ?_⟩
    · intro x hx y hy e
      obtain ⟨z, hz, rfl⟩ := List.mem_map.mp hx
      have hy : y = k := by simpa [strOf] using hy
      obtain ⟨t, ht⟩ := elem_str hel hz
      have := hno z hz
      rw [ht, e, hy] at this
      rw [strKind_is] at this
      cases this
    · rw [hm.mem_iff, List.mem_append, hk.2 x, List.mem_append]
      simp [strOf]
end
end L2
end
section
namespace L2
open PySem PySem.Spec PyProof.Rows
section
variable {prog : Program} {w : World} {A : Around} {E : Value → Shared → Prop} {s : Shared}
set_option maxHeartbeats 3200000 in
end
end L2
end
section
namespace L2
open PySem PySem.Spec PyProof.Rows
namespace SF
theorem next : Slot "set_iterator" "__next__" "set_iterator.__next__" :=
  .of (owner := "set_iterator") (n := "__next__") (by rw [typeLookup_type, builtinLookup_eq_fast]; kernel_rfl) (by decide +kernel) (by decide +kernel) (by decide +kernel) (by first | exact .inl (by decide +kernel) | exact .inr (by decide +kernel)) (by rw [isSubtype_type]; kernel_rfl)
theorem entry : entryFor table "set_iterator.__next__" = some Builtin.«set_iterator.__next__» := entryFor_of_tree (by kernel_rfl)
theorem args (a : Value) : argsOk "set_iterator.__next__" ⟨[a], []⟩ := by unfold argsOk; kernel_rfl
theorem iter : Slot "set_iterator" "__iter__" "set_iterator.__iter__" :=
  .of (owner := "set_iterator") (n := "__iter__") (by rw [typeLookup_type, builtinLookup_eq_fast]; kernel_rfl) (by decide +kernel) (by decide +kernel) (by decide +kernel) (by first | exact .inl (by decide +kernel) | exact .inr (by decide +kernel)) (by rw [isSubtype_type]; kernel_rfl)
end SF
section
variable {prog : Program} {w : World} {A : Around} {E : Value → Shared → Prop} {s : Shared}
end
end L2
end
section
namespace L2
open PySem PySem.Spec PyProof.Rows
section
variable {prog : Program} {w : World} {A : Around} {E : Value → Shared → Prop} {s : Shared}
def ItM (w : World) (I a : Addr) (fp : List Addr) (es : Array (Int × Value)) (ep : Nat) (vs : List Value) (i : Nat) (h : Heap) (o : Obj) : Prop :=
  (∃ (tup : Addr) (ot : Obj) (n0 : Nat) (order : List Nat), tup ∈ fp ∧ tup ≠ I ∧ o.data = .fields #[.ref tup, .int i 0, .ref a, .int es.size 0, .int ep 0] ∧ h.get? tup = some ot ∧ ot.data = .seq (order.map fun (j : Nat) => rawInt j).toArray n0 ∧ vs.length = order.length ∧ ∀ (j p : Nat), order[j]? = some p → ∃ e, es[p]? = some e ∧ vs[j]? = some e.2)
  ∨ (∃ slot : Nat, w.params.followText "set-order" = true ∧ o.data = .fields #[.int slot 0, .int i 0, .ref a, .int es.size 0, .int ep 0] ∧ vs = (pickOrder (w.params.setOrder a ep) es).toList.map (·.2))
  ∨ (∃ (slot : Nat) (oa : Obj) (t : SetTable), w.params.followText "set-order" = false ∧ es.size ≤ 1 ∧ o.data = .fields #[.int slot 0, .int i 0, .ref a, .int es.size 0, .int ep 0] ∧ h.get? a = some oa ∧ oa.data = .set es ep t ∧ (i = 0 → slot = 0) ∧ (i = 1 → ∃ j, t.place = #[j] ∧ slot = j + 1) ∧ vs = es.toList.map (·.2))
structure ItS (prog : Program) (w : World) (I a : Addr) (fp : List Addr) (es : Array (Int × Value)) (ep : Nat) (vs : List Value) (i : Nat) (h : Heap) : Prop where
  sg : SG prog w h a es ep
  len : vs.length = es.size
  it : ∃ o, h.get? I = some o ∧ o.cls = .type "set_iterator" ∧ ItM w I a fp es ep vs i h o
  hI : I ∈ fp
  ha : a ∈ fp
  ne : a ≠ I
section
variable {I a : Addr} {fp : List Addr} {es : Array (Int × Value)} {ep : Nat} {vs : List Value} {i : Nat}
theorem ItS.typeIs {s : Shared} (x : ItS prog w I a fp es ep vs i s.heap) : s.TypeIs (.ref I) "set_iterator" := let ⟨o, ho, hc, _⟩ := x.it; ⟨o, ho, hc⟩
theorem ItM.at {h h' : Heap} {o : Obj} (x : ItM w I a fp es ep vs i h o) (k : ∀ b ∈ fp, b ≠ I → ∀ o, h.get? b = some o → h'.get? b = some o) (ha : a ∈ fp) (ne : a ≠ I) : ItM w I a fp es ep vs i h' o := by
  rcases x with ⟨tup, ot, n0, order, h1, h2, h3, h4, h5⟩ | x | ⟨slot, oa, t, h1, h2, h3, h4, h5⟩
  · exact .inl ⟨tup, ot, n0, order, h1, h2, h3, k tup h1 h2 _ h4, h5⟩
  · exact .inr (.inl x)
  · exact .inr (.inr ⟨slot, oa, t, h1, h2, h3, k a ha ne _ h4, h5⟩)
theorem ItS.at {h h' : Heap} (x : ItS prog w I a fp es ep vs i h) (k : ∀ b ∈ fp, ∀ o, h.get? b = some o → h'.get? b = some o) : ItS prog w I a fp es ep vs i h' := by
  obtain ⟨o, ho, hc, hM⟩ := x.it
  exact ⟨x.sg.at fun o e => k a x.ha o e, x.len, ⟨o, k I x.hI o ho, hc, hM.at (fun b hb _ => k b hb) x.ha x.ne⟩, x.hI, x.ha, x.ne⟩
theorem ItS.put (x : ItS prog w I a fp es ep vs i s.heap) {j : Nat} {h' : Heap} {o' : Obj} (k : ∀ b o, b ≠ I → s.heap.get? b = some o → h'.get? b = some o) (ho' : h'.get? I = some o') (hc : o'.cls = .type "set_iterator") (hM : ItM w I a fp es ep vs j s.heap o') : ItS prog w I a fp es ep vs j h' :=
  ⟨x.sg.at fun o e => k a o x.ne e, x.len, ⟨o', ho', hc, hM.at (fun b _ hn o e => k b o hn e) x.ha x.ne⟩, x.hI, x.ha, x.ne⟩
end
end
end L2
end
section
namespace L2
open PySem PySem.Spec PyProof.Rows
section
variable {prog : Program} {w : World} {A : Around} {E : Value → Shared → Prop} {s : Shared} {a : Addr} {es : Array (Int × Value)} {ep : Nat}
theorem SG.typeIs (x : SG prog w s.heap a es ep) : s.TypeIs (.ref a) "set" := let ⟨o, _, ho, hex, _⟩ := x.ex; ⟨o, ho, hex.1⟩
end
end L2
end
section
namespace L2
open PySem PySem.Spec PyProof.Rows
def slt (x y : Str) : Prop := x.cps.toList < y.cps.toList
instance : DecidableRel slt := fun x y => inferInstanceAs (Decidable (x.cps.toList < y.cps.toList))
section
variable {prog : Program} {w : World} {A : Around} {E : Value → Shared → Prop} {s : Shared}
end
section
variable {X : Cx} {pins : List (Addr × Obj)} {σ : St} {H : Hp} {s : Shared}
def setO (X : Cx) (p : Addr) (xs : List Str) : HO := .ext fun h => ∃ es ep, SG X.prog X.w h p es ep ∧ Kz es xs
end
end L2
end
section
namespace VS
open PySem L2
def uSortSet (ua : UB) : UB := fun env Q => ua env fun r e => ∃ (o : Bool) (xs : List Str), r.at e = some (.lst o (xs.map D.str)) ∧ xs.length ≤ 4000 ∧ (∀ zs : List Str, zs.Nodup → (∀ z ∈ zs, z ∈ xs) → zs.length < 64) ∧ ∀ ys : List Str, ys.Pairwise slt → (∀ x, x ∈ ys ↔ x ∈ xs) → Q (.tmp (.lst true (ys.map D.str))) e
abbrev rSetS (X : Cx) : List V → Hp → VK → Prop := fun vs H Q => ∃ (l : Addr) (xs : List Str), vs = [.ref l] ∧ SqL X.K H l (xs.map V.str) ∧ xs.length ≤ 4000 ∧ ∀ p, H p = none → Q (.ref p) (upd H p (setO X p xs))
abbrev rSortS (X : Cx) : List V → Hp → VK → Prop := fun vs H Q => ∃ (a : Addr) (xs : List Str), vs = [.ref a] ∧ H a = some (setO X a xs) ∧ xs.length ≤ 4000 ∧ (∀ zs : List Str, zs.Nodup → (∀ z ∈ zs, z ∈ xs) → zs.length < 64) ∧ ∀ (p : Addr) (ys : List Str), H p = none → ys.Pairwise slt → (∀ x, x ∈ ys ↔ x ∈ xs) → Q (.ref p) (upd H p (.lst (ys.map V.str)))
section
variable {X : Cx} {e : Expr} {ua : UB} {p p2 pos pos2 : Pos}
end
theorem i_SortSet {ua : UB} {env : VEnv} {Q : Ref → VEnv → Prop} (h : ua env fun r e => ∃ (o : Bool) (xs : List Str), r.at e = some (.lst o (xs.map D.str)) ∧ xs.length ≤ 4000 ∧ (∀ zs : List Str, zs.Nodup → (∀ z ∈ zs, z ∈ xs) → zs.length < 64) ∧ ∀ ys : List Str, ys.Pairwise slt → (∀ x, x ∈ ys ↔ x ∈ xs) → Q (.tmp (.lst true (ys.map D.str))) e) : uSortSet ua env Q := h
end VS
end
section
namespace VS
open PySem L2
def uPar (i j : Nat) (ua : UA) : US := fun E env => ua env fun rs e => ∃ d1 d2, rs = [.tmp d1, .tmp d2] ∧ bare d1 = true ∧ bare d2 = true ∧ i < e.length ∧ j < e.length ∧ E.nx ((e.set i (some d1)).set j (some d2))
section
variable {I : Nat → Bool} {X : Cx} {a b : Expr} {wa : UA} {x y : Str} {i j : Nat} {px py pt pos : Pos} {kt k2 pt2}
end
end VS
end
section
namespace VS
open PySem L2
section
variable {env : VEnv} {Q : Ref → VEnv → Prop} {QI : List D → VEnv → Prop} {E : UEnds} {ua ub uk : UB} {wa : UA} {ul uh : UO} {i j : Nat} {ms : List Bool} {P : D → Prop} {d d1 : D} {o b : Bool} {ks : List DK} {ds : List D}
theorem i_Isi {t : Ty5} (h : ua env fun r e => ∃ d b, r.at e = some d ∧ isiD t d = some b ∧ Q (.tmp (.bl b)) e) : uIsi t ua env Q := h
theorem i_SlT (h : ua env fun r e1 => ul e1 fun lo e2 => uh e2 fun hi e3 => ∃ ds, r.at e3 = some (.tup ds) ∧ bareL ds = true ∧ ¬ (HT.sIx ds.length 0 lo = 0 ∧ HT.sIx ds.length ds.length hi = ds.length) ∧ Q (.tmp (.tup (cutL ds lo hi))) e3) : uSlT ua ul uh env Q := h
theorem i_Rng2 (h : wa env fun rs e => ∃ i j : Int, rs = [.tmp (.int i), .tmp (.int j)] ∧ -(2 ^ 62) ≤ i ∧ i < 2 ^ 62 ∧ -(2 ^ 62) ≤ j ∧ j < 2 ^ 62 ∧ QI (intsD i (j - i).toNat) e) : uRng2 wa env QI := h
theorem i_MIn {neg : Bool} {ks : List Str} (h : ua env fun r e => ∃ x, r.at e = some (.str x) ∧ Q (.tmp (.bl (if neg then !ks.contains x else ks.contains x))) e) : uMIn neg ks ua env Q := h
theorem i_MGet {A : List (Str × Addr)} (h : ua env fun r e => ∃ x a, r.at e = some (.str x) ∧ A.lookup x = some a ∧ Q (.tmp (.fn a)) e) : uMGet A ua env Q := h
theorem i_CallL {S : Addr → USp → Prop} (h : ∃ a m, env[i]? = some (some (.fn a)) ∧ S a m ∧ uCall ms m wa env Q) : uCallL i S ms wa env Q := h
theorem i_DPop (h : (∃ o t ks ds, env[i]? = some (some (.dic o t ks ds))) ∧ uk env fun r e => ∃ kd k ks ds d, r.at e = some kd ∧ scK kd = some k ∧ e[i]? = some (some (.dic true false ks ds)) ∧ dfind ks ds (.s k) = some d ∧ bare d = true ∧ Q (.tmp d) (e.set i (some (.dic true false (ddrop ks ds (.s k)).1 (ddrop ks ds (.s k)).2)))) : uDPop i uk env Q := h
theorem i_Par (h : wa env fun rs e => ∃ d1 d2, rs = [.tmp d1, .tmp d2] ∧ bare d1 = true ∧ bare d2 = true ∧ i < e.length ∧ j < e.length ∧ E.nx ((e.set i (some d1)).set j (some d2))) : uPar i j wa E env := h
theorem i_f_eqD (h : okE 60 d = true ∧ okE 60 d1 = true ∧ P (.bl (if b then !eqT d d1 else eqT d d1))) : fEqD b d d1 P := h
theorem i_f_dcopy (h : bareL ds = true ∧ P (.dic true false ks ds)) : fDCopy (.dic o false ks ds) P := h
end
end VS
end
section
namespace VS
open PySem L2
def scal : D → Bool
  | .non | .bl _ | .int _ | .str _ => true
  | _ => false
def frzE (env : VEnv) : VEnv := env.map fun o => o.map frz
theorem Ok.all {Z : Set} {H : Hp} {env : VEnv} {σ : St} {φ : Nat → Set} (O : Ok Z H env σ φ) : Ok (fun a => Z a ∨ Uφ φ a) H (frzE env) σ (fun _ _ => False) := by
  refine ⟨fun i d e => ?_, fun _ _ _ z => z.elim, fun _ _ z => z.elim, fun _ _ z => z.elim, fun a z => z.elim (O.zh a) fun ⟨i, z⟩ => (O.fm i a z).ne, by simp [frzE, O.len]⟩
  simp only [frzE, List.getElem?_map, Option.map_eq_some_iff] at e
  obtain ⟨o, e1, o', rfl, rfl⟩ := e
  obtain ⟨v, hv, ho⟩ := O.own i _ e1
  exact ⟨v, hv, ((Own.frz _ ho).zmono fun a z => z.imp id fun z => ⟨i, z⟩).mono fun _ z => z.elim⟩
theorem res_same {Z Z' : Set} {H H' : Hp} {F' G : Set} (r : Res Z H (Uφ fun _ _ => False) Z' H' F' G) : Same H H' := fun a o e => r.k a o e fun ⟨_, z⟩ => z
def uPure (u : UB) : UB := fun env Q => u (frzE env) fun r _ => ∃ d, r = .tmp d ∧ scal d = true ∧ Q (.tmp d) env
def uPureT (u : UT) : UT := fun env Q => u (frzE env) fun b _ => Q b env
theorem snd_pureT {t : TT} {u : UT} (h : SndT t u) : SndT t (uPureT u) := by
  intro σ env Z H φ Q R O q k
  refine h σ (frzE env) _ H _ _ _ O.all q fun b env1 Z1 H1 φ1 q1 O1 r1 => ?_
  have s := res_same r1
  exact k b env Z H1 φ q1 (O.grow s) (Res.same s)
section
variable {X : Cx} {e : Expr} {ue : UB} {ut : UT}
theorem vt_pure (h : VT X e ut) : VT X e (uPureT ut) := let ⟨_, q, s⟩ := h.ex; ⟨_, q, snd_pureT s⟩
end
theorem i_PureT {u : UT} {env : VEnv} {Q : Bool → VEnv → Prop} (h : u (frzE env) fun b _ => Q b env) : uPureT u env Q := h
theorem frzE_s {d : D} {env : VEnv} : frzE (some d :: env) = some (frz d) :: frzE env := rfl
theorem frzE_0 : frzE [] = [] := rfl
end VS
end
section
namespace L2
open PySem PySem.Spec PyProof.Rows
open AutoSeq1 (wpAny_loadPart')
open MeetsSeq MeetsSeq2 MeetsSeq3
section
variable {prog : Program} {w : World} {A : Around} {E : Value → Shared → Prop} {s : Shared}
def EqW (prog : Program) (w : World) (A : Around) (s : Shared) (y x : Value) : Prop := ∀ (E : Value → Shared → Prop) (Q : Bool → Shared → Prop), Q true s → wpAny (model prog w) A (eqBool y x) Q E s
theorem ne_loopW (l b : Addr) (items items2 : Array Value) (n n2 : Nat) (dd dd2 : Option Addr) (sl sl2 : Array (Option Value)) (hsz : items.size = items2.size) (k : Nat) :
    ∀ i : Nat, items.size - i = k → MeetsIn prog w (Builtin.«list.__eq__.loop» ⟨[.ref l, .ref b, rawInt i, rawInt 3], []⟩)
      (fun A R s => s.heap.get? l = some { cls := .type "list", dict := dd, data := .seq items n, slots := sl } ∧ s.heap.get? b = some { cls := .type "list", dict := dd2, data := .seq items2 n2, slots := sl2 } ∧
        (∀ j (h1 : j < items.size) (h2 : j < items2.size), EqW prog w A.in1 s items[j] items2[j]) ∧
        R (.ok (.ret (.bool false))) s) := by
  induction k with
  | zero =>
    intro i hk A R s h
    obtain ⟨hp, g, d, tk, os⟩ := s; obtain ⟨hl, hb, he, h⟩ := h
    wp_walk using wpAny_loadPart' hl, wpAny_loadPart' hb
    have hi1 : items[((i : Nat) : Int).toNat]? = none := by simp; omega
    have hi2 : items2[((i : Nat) : Int).toNat]? = none := by simp; omega
    rw [hi1, hi2]
    wp_walk using wpAny_loadPart' hl, wpAny_loadPart' hb
    show R (.ok (.ret (.bool (items.size != items2.size)))) _
    rw [hsz]
    simpa using h
  | succ k ih =>
    intro i hk A R s h
    obtain ⟨hp, g, d, tk, os⟩ := s; obtain ⟨hl, hb, he, h⟩ := h
    wp_walk using wpAny_loadPart' hl, wpAny_loadPart' hb
    have hlt : i < items.size := by omega
    have hlt2 : i < items2.size := by omega
    have hi1 : items[((i : Nat) : Int).toNat]? = some items[i] := by simp [hlt]
    have hi2 : items2[((i : Nat) : Int).toNat]? = some items2[i] := by simp [hlt2]
    have hc : ((i : Int) + 1) = ((i + 1 : Nat) : Int) := by push_cast; rfl
    rw [hi1, hi2]
    refine wpAny_bind (he i hlt hlt2 _ _ ?_)
    wp_walk
    rw [hc]
    exact ⟨plainId_quiet plain_eq_loop _, codeAny_builtin entry_eq_loop (by
      rw [Around.under_plainId plain_eq_loop _]
      exact ih (i + 1) (by omega) A R _ ⟨hl, hb, he, h⟩)⟩
theorem list_neW (l b : Addr) (items items2 : Array Value) (n n2 : Nat) (dd dd2 : Option Addr) (sl sl2 : Array (Option Value)) (hsz : items.size = items2.size) :
    MeetsIn prog w (Builtin.«list.__ne__» ⟨[.ref l, .ref b], []⟩)
      (fun A R s => s.heap.get? l = some { cls := .type "list", dict := dd, data := .seq items n, slots := sl } ∧ s.heap.get? b = some { cls := .type "list", dict := dd2, data := .seq items2 n2, slots := sl2 } ∧
        (∀ j (h1 : j < items.size) (h2 : j < items2.size), EqW prog w A.in1 s items[j] items2[j]) ∧
        R (.ok (.ret (.bool false))) s) := by
  intro A R s h
  obtain ⟨hp, g, d, tk, os⟩ := s; obtain ⟨hl, hb, he, h⟩ := h
  have f3 := AutoSeq1.sub_list_list
  have hne : ¬ (items.size != items2.size) = true := by simp [hsz]
  wp_walk using wpAny_loadPart' hl, wpAny_loadPart' hb
  exact ⟨plainId_quiet plain_eq_loop _, codeAny_builtin entry_eq_loop (by
    rw [Around.under_plainId plain_eq_loop _]
    exact ne_loopW l b items items2 n n2 dd dd2 sl sl2 hsz _ 0 rfl A R _ ⟨hl, hb, he, h⟩)⟩
theorem ne_listW {l b : Addr} {items items2 : Array Value} {Q : Value → Shared → Prop} (hl : s.heap.IsList l items) (hb : s.heap.IsList b items2) (hsz : items.size = items2.size) (hu : A.units < cLine)
    (he : ∀ j (h1 : j < items.size) (h2 : j < items2.size), EqW prog w A.in1 s items[j] items2[j]) (h : Q (.bool false) s) : wpAny (model prog w) A (compareOp .NotEq (.ref l) (.ref b)) Q E s := by
  obtain ⟨⟨cls, dd, data, sl⟩, ho, hc, n, hd⟩ := id hl
  obtain ⟨⟨cls2, dd2, data2, sl2⟩, ho2, hc2, n2, hd2⟩ := id hb
  simp only at hc hd hc2 hd2
  subst hc hd hc2 hd2
  exact wpAny_richCompare_same_room (op := .NotEq) ⟨_, ho, rfl⟩ ⟨_, ho2, rfl⟩ F.slot_list_ne (call_meetsIn F.slot_list_ne ⟨_, ho, rfl⟩ F.entry_list_ne (F.args_list_ne_2 _ _) (list_neW l b items items2 n n2 dd dd2 sl sl2 hsz)
    ⟨ho, ho2, he, show Value.bool false ≠ Value.notImplemented ∧ Q (.bool false) s from ⟨(fun x => nomatch x), h⟩⟩) hu
theorem EqW.refs {l b : Addr} (h : ∀ (E : Value → Shared → Prop) (Q : Value → Shared → Prop), Q (.bool true) s → wpAny (model prog w) A (compareOp .Eq (.ref l) (.ref b)) Q E s) : EqW prog w A s (.ref l) (.ref b) := fun E Q hq => by
  by_cases hne : l = b
  · subst hne; exact SeqAt.EqAt.same _ prog w E Q hq
  unfold eqBool
  refine wpAny_holding ?_
  refine wpAny_ite_split (fun hab => absurd (by have := eq_of_beq hab; injection this) hne) (fun _ => ?_)
  exact wpAny_bind (h E _ (wpAny_truthy_bool hq))
end
def intKV (ks : List Key) (ns : List Int) : List (Key × V) := ks.zip (ns.map V.int)
theorem kv_int : ∀ {ks : List Key} {ns : List Int} {vs : List (Key × Value)}, KV (intKV ks ns) vs → ks.length = ns.length → vs.map (·.1) = ks ∧ ∀ k n, (k, n) ∈ ks.zip ns → ∃ t, (k, Value.int n t) ∈ vs
  | [], [], vs, h, _ => by cases h; simp
  | [], _ :: _, _, _, e => by simp at e
  | _ :: _, [], _, _, e => by simp at e
  | k :: ks, n :: ns, vs, h, e => by
    cases h with
    | cons h1 h2 =>
      rename_i q vs
      obtain ⟨q1, q2⟩ := q
      obtain ⟨e1, e2⟩ := h1
      obtain ⟨g1, g2⟩ := kv_int (ks := ks) (ns := ns) h2 (by simpa using e)
      simp only at e1 e2
      subst e1
      have : ∃ t, q2 = Value.int n t := by cases q2 <;> simp [RelV] at e2; subst e2; exact ⟨_, rfl⟩
      obtain ⟨t, rfl⟩ := this
      refine ⟨by simp [g1], fun k' n' hm => ?_⟩
      rw [List.zip_cons_cons, List.mem_cons] at hm
      rcases hm with z | z
      · cases z; exact ⟨t, .head _⟩
      · obtain ⟨t, z⟩ := g2 k' n' z; exact ⟨t, .tail _ z⟩
theorem hits_int {A : Around} {s : Shared} {kb : List (Key × Value)} : ∀ {ks : List Key} {ns : List Int} {ka : List (Key × Value)}, KV (intKV ks ns) ka → ks.length = ns.length → (∀ k n, (k, n) ∈ ks.zip ns → ∃ t, valueAt kb k = some (Value.int n t)) → PySem.W.KeqHits A s kb ka true
  | [], [], vs, h, _, _ => by cases h; exact .nil
  | [], _ :: _, _, _, e, _ => by simp at e
  | _ :: _, [], _, _, e, _ => by simp at e
  | k :: ks, n :: ns, vs, h, e, q => by
    cases h with
    | cons h1 h2 =>
      rename_i r vs
      obtain ⟨r1, r2⟩ := r
      obtain ⟨e1, e2⟩ := h1
      simp only at e1 e2
      subst e1
      obtain ⟨t, rfl⟩ := (show ∃ t, r2 = Value.int n t from e2)
      obtain ⟨u, hu⟩ := q k n (by simp)
      have := SeqAt.EqAt.int_int (A := A) (s := s) n t n u
      rw [beq_self_eq_true] at this
      exact PySem.W.KeqHits.hit (b := true) hu this (hits_int (ks := ks) (ns := ns) h2 (by simpa using e) fun k' n' z => q k' n' (by simp [z]))
def LD (H : Hp) : List V → List (List Key × List Int) → Prop
  | [], [] => True
  | v :: vs, r :: rs => ((∃ a, v = .ref a ∧ Rd H a (.dK (intKV r.1 r.2))) ∧ r.1.length = r.2.length ∧ r.1.Nodup) ∧ LD H vs rs
  | _, _ => False
theorem LD.get {H : Hp} : ∀ {vs : List V} {us : List Value} {rs : List (List Key × List Int)}, LD H vs rs → Vals vs us → us.length = rs.length ∧ ∀ (j : Nat) (u : Value), us[j]? = some u → ∃ a r, u = .ref a ∧ rs[j]? = some r ∧ Rd H a (.dK (intKV r.1 r.2)) ∧ r.1.length = r.2.length ∧ r.1.Nodup
  | [], us, [], _, q => by cases q; simp
  | [], _, _ :: _, h, _ => h.elim
  | _ :: _, _, [], h, _ => h.elim
  | v :: vs, us, r :: rs, h, q => by
    cases q with
    | cons h1 h2 =>
      obtain ⟨⟨⟨a, rfl, hr⟩, e1, e2⟩, hl⟩ := h
      obtain ⟨g1, g2⟩ := LD.get hl h2
      refine ⟨by simp [g1], fun j u hu => ?_⟩
      cases j with
      | zero =>
        cases (show some _ = some u from hu)
        exact ⟨a, r, h1, rfl, hr, e1, e2⟩
      | succ j => exact g2 j u hu
theorem eqW_dicts {X : Cx} {pins : List (Addr × Obj)} {σ : St} {H : Hp} {s : Shared} {A : Around} {a b : Addr} {ks : List Key} {ns : List Int} (I : Inv X pins σ H s) (ha : Rd H a (.dK (intKV ks ns))) (hb : Rd H b (.dK (intKV ks ns))) (hl : ks.length = ns.length) (hn : ks.Nodup) (hu : A.units < cLine) : EqW X.prog X.w A s (.ref a) (.ref b) := by
  obtain ⟨_, ne1, va, ra, da⟩ := dk_rd I.hok ha
  obtain ⟨_, ne2, vb, rb, db⟩ := dk_rd I.hok hb
  have la : va.length = vb.length := by rw [← KV.length ra, ← KV.length rb]
  obtain ⟨g1, g2⟩ := kv_int rb hl
  refine EqW.refs fun E Q hq => PySem.W.keq_eq (r := true) ne1 ne2 da db hu (fun _ => hits_int ra hl fun k n z => ?_) (by rw [la]; simpa using hq)
  obtain ⟨t, z⟩ := g2 k n z
  obtain ⟨i, hi⟩ := List.mem_iff_getElem?.mp z
  exact ⟨t, valueAt_of_get (by rw [g1]; exact hn) hi⟩
def rNeLD : R2 := fun x y H Q => ∃ a b va vb rows, x = .ref a ∧ y = .ref b ∧ Rd H a (.lst va) ∧ Rd H b (.lst vb) ∧ LD H va rows ∧ LD H vb rows ∧ Q (.bl false) H
theorem op_neLD {X : Cx} (hu : X.A.units + 64 < cLine) : OpR X (compareOp .NotEq) rNeLD := by
  intro pins s σ H x y v u Q I rx ry ⟨a, b, va, vb, rows, e1, e2, ha, hb, la, lb, q⟩
  subst e1 e2
  cases rx; cases ry
  obtain ⟨_, ia, na, ra, ga⟩ := (show ObjOk X.prog X.w H s.heap a (.lst va) from rd_of I.hok ha)
  obtain ⟨_, ib, nb, rb, gb⟩ := (show ObjOk X.prog X.w H s.heap b (.lst vb) from rd_of I.hok hb)
  obtain ⟨z1, z2⟩ := la.get ra
  obtain ⟨y1, y2⟩ := lb.get rb
  refine ne_listW (items := ia.toArray) (items2 := ib.toArray) ⟨_, ga, rfl, _, rfl⟩ ⟨_, gb, rfl, _, rfl⟩ (by simp [z1, y1]) (by omega) (fun j h1 h2 => ?_) ⟨.bl false, H, I, rfl, q⟩
  obtain ⟨a1, r1, e1, f1, g1, l1, n1⟩ := z2 j _ (List.getElem?_eq_getElem (by simpa using h1))
  obtain ⟨a2, r2, e2, f2, g2, l2, n2⟩ := y2 j _ (List.getElem?_eq_getElem (by simpa using h2))
  rw [f1] at f2
  cases f2
  simp only [List.getElem_toArray]
  rw [e1, e2]
  exact eqW_dicts I g1 g2 l1 n1 (by simp only [Around.in1_units]; omega)
end L2
namespace VS
open PySem L2
def dicN (r : List Key × List Int) : D := .dic false false (r.1.map .s) (r.2.map .int)
def fNeLD : D → D → (D → Prop) → Prop := fun d1 d2 P => ∃ (o1 o2 : Bool) (rows : List (List Key × List Int)), d1 = .lst o1 (rows.map dicN) ∧ d2 = .lst o2 (rows.map dicN) ∧ P (.bl false)
theorem ownL_nums {Z : Set} {H : Hp} : ∀ {ns : List Int} {vs : List V} {F : Set}, OwnL Z H (ns.map .int) vs F → vs = ns.map V.int
  | [], vs, F, h => ownL_nil.mp h
  | n :: ns, vs, F, h => by
    obtain ⟨v, r, F1, F2, rfl, h1, h2, _⟩ := ownL_cons.mp h
    rw [own_int.mp h1, ownL_nums h2]; rfl
theorem mapS_inj : ∀ {a b : List Key}, a.map DK.s = b.map DK.s → a = b
  | [], [], _ => rfl
  | [], _ :: _, h => by simp at h
  | _ :: _, [], h => by simp at h
  | a :: as, b :: bs, h => by
    simp only [List.map_cons, List.cons.injEq, DK.s.injEq] at h
    rw [h.1, mapS_inj h.2]
theorem ownL_ld {Z : Set} {H : Hp} : ∀ {rows : List (List Key × List Int)} {vs : List V} {F : Set}, OwnL Z H (rows.map dicN) vs F → LD H vs rows
  | [], vs, F, h => by rw [ownL_nil.mp h]; trivial
  | r :: rows, vs, F, h => by
    obtain ⟨v, vs, F1, F2, rfl, h1, h2, _⟩ := ownL_cons.mp h
    obtain ⟨a, us, u, rfl, hr, ⟨kl, e, hl1, hnd, rfl⟩, hl⟩ := own_dic h1
    have e := mapS_inj e
    rw [ownL_nums hl] at hr hl1
    subst e
    exact ⟨⟨⟨a, rfl, hr⟩, by simpa using hl1, hnd⟩, ownL_ld h2⟩
theorem fn_neLD : FnV2 rNeLD fNeLD := fun Z H d1 d2 v1 v2 F1 F2 P R h1 h2 ⟨o1, o2, rows, e1, e2, p⟩ k => by
  subst e1 e2
  obtain ⟨a, va, rfl, ha, la⟩ := own_lst h1
  obtain ⟨b, vb, rfl, hb, lb⟩ := own_lst h2
  exact ⟨a, b, va, vb, rows, rfl, rfl, ha, hb, ownL_ld la, ownL_ld lb, k _ _ _ _ p (New.refl (own_bl.mpr rfl))⟩
theorem fn_bot {P : Program} {w : World} {K : PySem.W.Frag} {mg : Str → Option Value} {base : Heap} {CX : CXT} {k : Nat} {f : Addr} {fd : FuncData} {ps : List Str} {ms : List Bool} (h : ms.length = ps.length) : FnOk P w K mg base CX k f fd ps (spU ms fun _ _ => False) :=
  ⟨fun _ _ _ _ q => q.1.trans h, fun _ _ _ _ _ _ _ _ _ _ _ _ _ q => (let ⟨_, _, _, _, _, _, _, _, z, _⟩ := q; z.elim)⟩
end VS
end
section
namespace VS
open PySem L2
abbrev Lk (s : Stmt) (x : Str) : Prop := (defScope s).names.lookup x = some .local ∨ (defScope s).names.lookup x = some .cell
abbrev Ln (s : Stmt) (x : Str) : Prop := (defScope s).names.lookup x = some .local
abbrev Gk (s : Stmt) (x : Str) : Prop := (defScope s).names.lookup x = some .globalImplicit
abbrev XX (q : List Str) (n : Str) (st : Stmt) (P : Program) (w : World) (K : PySem.W.Frag) (mg : Str → Option Value) (base : Heap) (f : Addr) (cdv : Value) (A : Around) (outer : List PySem.Env) (s : Shared) (H : Hp) (E : XK) : Cx := (cxOf CX0 P w K mg base q n (defScope st) f cdv A outer s H E).nox
section
variable {P : Program} {w : World} {K : PySem.W.Frag} {mg : Str → Option Value} {base : Heap} {f : Addr} {fd : FuncData} {cdv : Value} {A : Around} {outer : List PySem.Env} {s : Shared} {H : Hp} {E : XK} {q : List Str} {n x : Str} {st : Stmt}
theorem lcX (h : Lk st x) : Loc (XX q n st P w K mg base f cdv A outer s H E).env.scope x := h
theorem glX (h : Gk st x) : Gl (XX q n st P w K mg base f cdv A outer s H E) x := h
theorem cscX {sc : Scope} {ks N2 : List Str} (h : cscB sc (defScope st) ks N2 q = true) : CSc (XX q n st P w K mg base f cdv A outer s H E) sc ks N2 := csc_of rfl rfl h
theorem ndX (h : nodupS q = true) : (XX q n st P w K mg base f cdv A outer s H E).N.Nodup := nodupS_ok h
theorem ndB {X : Cx} {sc : Scope} {N : List Str} {C : Addr} {fp : List Addr} {pins : List (Addr × Obj)} (h : nodupS N = true) : (blk X sc N C s H fp pins).N.Nodup := nodupS_ok h
end
section
variable {I : Nat → Bool} {X : Cx} {a b c e o v : Expr} {es : List Expr} {ua ub uc ue uk uv : UB} {wa : UA} {x y name : Str} {p pos pos' apos cpos px py pt p2 pos2 : Pos} {i j n k : Nat}
theorem pP (hN : X.N[i]? = some x := by rfl) (hv : Vis X.env.scope x := by first | exact Loc.vis (lcX (by decide +kernel)) | exact blk_visL (by decide +kernel) | exact blk_visF (by decide +kernel)) (hd : (x == ("__debug__" : Str)) = false := by decide) (hcd : (x == ("__classdict__" : Str)) = false := by decide) : VE X (.Name x pos) (uPlace' i) := ve_place hN hv hd hcd
theorem pC (hN : X.N[i]? = some x := by rfl) (hv : Vis X.env.scope x := by first | exact Loc.vis (lcX (by decide +kernel)) | exact blk_visL (by decide +kernel) | exact blk_visF (by decide +kernel)) (hd : (x == ("__debug__" : Str)) = false := by decide) (hcd : (x == ("__classdict__" : Str)) = false := by decide) : VE X (.Name x pos) (uCopy i) := ve_copy hN hv hd hcd
theorem pM (hN : X.N[i]? = some x := by rfl) (hv : Vis X.env.scope x := by first | exact Loc.vis (lcX (by decide +kernel)) | exact blk_visL (by decide +kernel) | exact blk_visF (by decide +kernel)) (hd : (x == ("__debug__" : Str)) = false := by decide) (hcd : (x == ("__classdict__" : Str)) = false := by decide) : VE X (.Name x pos) (uMove i) := ve_move hN hv hd hcd
theorem gN (hI : I i = false := by rfl) (hN : X.N.Nodup := by first | exact ndX (by decide +kernel) | exact ndB (by decide +kernel)) (hi : X.N[i]? = some x := by rfl) (hx : Loc X.env.scope x := by first | exact lcX (by decide +kernel) | exact blk_locL (by decide +kernel)) (hf : X.fn x = true ∨ X.env.scope.names.lookup x = some .local := by first | exact .inl rfl | exact .inr (blk_loc (by decide +kernel))) : VG I X (.Name x pos) (uName i) := vg_name hI hN hi hx hf
theorem gF (hI : I i = false := by rfl) (hN : X.N.Nodup := by first | exact ndX (by decide +kernel) | exact ndB (by decide +kernel)) (hi : X.N[i]? = some x := by rfl) (hx : Loc X.env.scope x := by first | exact lcX (by decide +kernel) | exact blk_locL (by decide +kernel)) (hf : X.fn x = true ∨ X.env.scope.names.lookup x = some .local := by first | exact .inl rfl | exact .inr (blk_loc (by decide +kernel))) : VG I X (.Name x pos) (uNameF i) := vg_nameF hI hN hi hx hf
theorem sO (he : VE X e ue) (hI : I i = false := by rfl) (hN : X.N.Nodup := by first | exact ndX (by decide +kernel) | exact ndB (by decide +kernel)) (hi : X.N[i]? = some x := by rfl) (hx : Loc X.env.scope x := by first | exact lcX (by decide +kernel) | exact blk_locL (by decide +kernel)) (hf : X.fn x = true ∨ X.env.scope.names.lookup x = some .local := by first | exact .inl rfl | exact .inr (blk_loc (by decide +kernel))) (hs : swapsWith e (some (.Name x pos')) pos.line X.env = pure false := by rfl) : VSt I X (.Assign [.Name x pos'] e pos) (uAsg ue (uName i)) := vs_set hI hN hi hx he hf hs
theorem sF (he : VE X e ue) (hI : I i = false := by rfl) (hN : X.N.Nodup := by first | exact ndX (by decide +kernel) | exact ndB (by decide +kernel)) (hi : X.N[i]? = some x := by rfl) (hx : Loc X.env.scope x := by first | exact lcX (by decide +kernel) | exact blk_locL (by decide +kernel)) (hf : X.fn x = true ∨ X.env.scope.names.lookup x = some .local := by first | exact .inl rfl | exact .inr (blk_loc (by decide +kernel))) (hs : swapsWith e (some (.Name x pos')) pos.line X.env = pure false := by rfl) : VSt I X (.Assign [.Name x pos'] e pos) (uAsg ue (uNameF i)) := vs_setF hI hN hi hx he hf hs
theorem mA (ha : VA X (e :: es) wa) (hN : X.N[i]? = some x := by rfl) (hv : Vis X.env.scope x := by first | exact Loc.vis (lcX (by decide +kernel)) | exact blk_visL (by decide +kernel) | exact blk_visF (by decide +kernel)) (hd : (x == ("__debug__" : Str)) = false := by decide) (hcd : (x == ("__classdict__" : Str)) = false := by decide) (hbase : attributeBase (.Name x p) "append" X.env (eval (.Name x p) X.env) = eval (.Name x p) X.env := by rfl) (hlen : (e :: es).length < 30 := by simp) (hline : (apos.endLine == cpos.line) = true := by rfl) (h1 : plainE e = true := by rfl) (h2 : es.all plainE = true := by rfl) (hs : swapsWith (.Call (.Attribute (.Name x p) "append" apos) (e :: es) [] cpos) none pos.line X.env = pure false := by rfl) : VSt I X (.Expr (.Call (.Attribute (.Name x p) "append" apos) (e :: es) [] cpos) pos) (uAppend i wa) := vs_append hN hv ha hd hcd hbase hlen hline h1 h2 hs
theorem dP (hk : VE X b uk) (hv' : VE X v uv) (hu : X.A.units + 1 < cLine := by assumption) (hN : X.N[i]? = some x := by rfl) (hv : Vis X.env.scope x := by first | exact Loc.vis (lcX (by decide +kernel)) | exact blk_visL (by decide +kernel) | exact blk_visF (by decide +kernel)) (hd : (x == ("__debug__" : Str)) = false := by decide) (hcd : (x == ("__classdict__" : Str)) = false := by decide) (hs : swapsWith v (some (.Subscript (.Name x p) b pos')) pos.line X.env = pure false := by rfl) : VSt I X (.Assign [.Subscript (.Name x p) b pos'] v pos) (uDPut i uk uv) := vs_dput hu hN hv hk hv' hd hcd hs
theorem lP (hk : VE X b uk) (hv' : VE X v uv) (hN : X.N[i]? = some x := by rfl) (hv : Vis X.env.scope x := by first | exact Loc.vis (lcX (by decide +kernel)) | exact blk_visL (by decide +kernel) | exact blk_visF (by decide +kernel)) (hd : (x == ("__debug__" : Str)) = false := by decide) (hcd : (x == ("__classdict__" : Str)) = false := by decide) (ha : ∀ v, assign (.Subscript (.Name x p) b pos') X.env v = (do let ov ← holding [v] (eval (.Name x p) X.env); let iv ← holding [v, ov] (eval b X.env); standAt pos'; holding [v, ov, iv] (setItem ov iv v); release [v, ov, iv] []) := by intro _; rfl) (hs : swapsWithSole [.Subscript (.Name x p) b pos'] v pos.line X.env = pure false := by rfl) (hw : swappedStores [.Subscript (.Name x p) b pos'] v X.env = pure none := by rfl) (h1 : (assignEach [.Subscript (.Name x p) b pos'] X.env).map (·.2) = [assign (.Subscript (.Name x p) b pos') X.env] := by rfl) : VSt I X (.Assign [.Subscript (.Name x p) b pos'] v pos) (uSetL i uk uv) := vs_setL hN hv hk hv' hd hcd ha hs hw h1
theorem tT {uk : UX} (hk : VX X b uk) (hN : X.N[i]? = some x := by rfl) (hv : Vis X.env.scope x := by first | exact Loc.vis (lcX (by decide +kernel)) | exact blk_visL (by decide +kernel) | exact blk_visF (by decide +kernel)) (hs : PlainIx b := by exact fun _ _ => rfl) (hd : (x == ("__debug__" : Str)) = false := by decide) (hcd : (x == ("__classdict__" : Str)) = false := by decide) : VCt X .tup i (.Subscript (.Name x p) b pos) uk := vct_tup hN hv hk hs hd hcd
theorem eL (ha : VE X a ua) (hb : VE X b ub) (hs : PlainIx b := by exact fun _ _ => rfl) : VE X (.Subscript a b pos) (uFn2 fIxL ua ub) := ve_ix ix_list fn_ixL ha hb hs
theorem eT (ha : VE X a ua) (hb : VE X b ub) (hs : PlainIx b := by exact fun _ _ => rfl) : VE X (.Subscript a b pos) (uFn2 fIxT ua ub) := ve_ix ix_tup fn_ixT ha hb hs
theorem eS (ha : VE X a ua) (hb : VE X b ub) (hs : PlainIx b := by exact fun _ _ => rfl) : VE X (.Subscript a b pos) (uFn2 fIxS ua ub) := ve_ix ix_str fn_ixS ha hb hs
theorem g2 (ho : VE X o ua) (ha : VE X a ub) (hb : VE X b uc) (hu : X.A.units + 1 < cLine := by assumption) (m : M2 X o "get" apos a b cpos := by exact ⟨rfl, rfl, rfl, rfl⟩) : VE X (.Call (.Attribute o "get" apos) [a, b] [] cpos) (uGet2 ua ub uc) := ve_get2 hu ho ha hb m
theorem cl {ms : List Bool} {m : USp} (O : L2.Own X.prog X.w X.K X.mg X.base x k (spU ms m)) (ha : VA X (e :: es) wa) (hr : Room k X.A := by first | assumption | exact Room.mono (by assumption) (by decide)) (hg : Gl X x := by first | exact glX (by decide +kernel) | exact blk_gl (by decide +kernel)) (hdb : (x == ("__debug__" : Str)) = false := by decide) (h1 : plainE e = true := by rfl) (h2 : es.all plainE = true := by rfl) : VE X (.Call (.Name x p) (e :: es) [] pos) (uCall ms m wa) := ve_call O hr ha hg hdb h1 h2
theorem cL {ms : List Bool} {S : Addr → USp → Prop} (hS : ∀ a m, S a m → OwnAt X.prog X.w X.K X.mg X.base a k (spU ms m)) (ha : VA X (e :: es) wa) (hr : Room k X.A := by first | assumption | exact Room.mono (by assumption) (by decide)) (hN : X.N[i]? = some x := by rfl) (hv : Vis X.env.scope x := by first | exact Loc.vis (lcX (by decide +kernel)) | exact blk_visL (by decide +kernel) | exact blk_visF (by decide +kernel)) (hdb : (x == ("__debug__" : Str)) = false := by decide) (hcd : (x == ("__classdict__" : Str)) = false := by decide) (h1 : plainE e = true := by rfl) (h2 : es.all plainE = true := by rfl) : VE X (.Call (.Name x p) (e :: es) [] pos) (uCallL i S ms wa) := ve_callL hS hr hN hv ha hdb hcd h1 h2
theorem nL (hm : X.mg "len" = none) (ha : VA X (e :: es) wa) (hg : Gl X "len" := by first | exact glX (by decide +kernel) | exact blk_gl (by decide +kernel)) (h1 : plainE e = true := by rfl) (h2 : es.all plainE = true := by rfl) : VE X (.Call (.Name "len" p) (e :: es) [] pos) (uFn fLen wa) := ve_callB call_len_seq fn_len hg hm PySem.boot_len ha (by decide) (by decide) h1 h2
theorem nI (hm : X.mg "int" = none) (ha : VA X (e :: es) wa) (hg : Gl X "int" := by first | exact glX (by decide +kernel) | exact blk_gl (by decide +kernel)) (h1 : plainE e = true := by rfl) (h2 : es.all plainE = true := by rfl) : VE X (.Call (.Name "int" p) (e :: es) [] pos) (uFn fInt wa) := ve_callTy call_int1 fn_intOf hg hm PyProof.Rows.boot_int ha (by decide) (by decide) h1 h2
theorem nD (hm : X.mg "dict" = none) (ha : VA X (e :: es) wa) (hg : Gl X "dict" := by first | exact glX (by decide +kernel) | exact blk_gl (by decide +kernel)) (h1 : plainE e = true := by rfl) (h2 : es.all plainE = true := by rfl) : VE X (.Call (.Name "dict" p) (e :: es) [] pos) (uFn fDictOf wa) := ve_callTy call_dict_of fn_dictOf hg hm PyProof.Rows.boot_dict ha (by decide) (by decide) h1 h2
theorem nT (hm : X.mg "list" = none) (ha : VA X (e :: es) wa) (hg : Gl X "list" := by first | exact glX (by decide +kernel) | exact blk_gl (by decide +kernel)) (h1 : plainE e = true := by rfl) (h2 : es.all plainE = true := by rfl) : VE X (.Call (.Name "list" p) (e :: es) [] pos) (uFn fListOf wa) := ve_callTy call_list_of fn_listOf hg hm PyProof.Rows.boot_list ha (by decide) (by decide) h1 h2
theorem iR {tg : Expr} (hm : X.mg "range" = none) (h : VA X [a] wa) (hg : Gl X "range" := by first | exact glX (by decide +kernel) | exact blk_gl (by decide +kernel)) (hp : plainE a = true := by rfl) : VI X tg (.Call (.Name "range" p) [a] [] pos) (uRng1 wa) := vi_rng1 hg hm h hp
theorem is_str (hm : X.mg "isinstance" = none) (hcm : X.mg "str" = none) (h : VE X e ua) (hg : Gl X "isinstance" := by first | exact glX (by decide +kernel) | exact blk_gl (by decide +kernel)) (hc : Gl X "str" := by first | exact glX (by decide +kernel) | exact blk_gl (by decide +kernel)) (h1 : plainE e = true := by rfl) : VE X (.Call (.Name "isinstance" p) [e, .Name "str" p2] [] pos) (uIsi .str ua) := ve_isi (t := .str) hg hm hc hcm (by decide +kernel) h (by decide) (by decide) h1
theorem is_tup (hm : X.mg "isinstance" = none) (hcm : X.mg "tuple" = none) (h : VE X e ua) (hg : Gl X "isinstance" := by first | exact glX (by decide +kernel) | exact blk_gl (by decide +kernel)) (hc : Gl X "tuple" := by first | exact glX (by decide +kernel) | exact blk_gl (by decide +kernel)) (h1 : plainE e = true := by rfl) : VE X (.Call (.Name "isinstance" p) [e, .Name "tuple" p2] [] pos) (uIsi .tup ua) := ve_isi (t := .tup) hg hm hc hcm (by decide +kernel) h (by decide) (by decide) h1
theorem is_lst (hm : X.mg "isinstance" = none) (hcm : X.mg "list" = none) (h : VE X e ua) (hg : Gl X "isinstance" := by first | exact glX (by decide +kernel) | exact blk_gl (by decide +kernel)) (hc : Gl X "list" := by first | exact glX (by decide +kernel) | exact blk_gl (by decide +kernel)) (h1 : plainE e = true := by rfl) : VE X (.Call (.Name "isinstance" p) [e, .Name "list" p2] [] pos) (uIsi .lst ua) := ve_isi (t := .lst) hg hm hc hcm (by decide +kernel) h (by decide) (by decide) h1
theorem is_int (hm : X.mg "isinstance" = none) (hcm : X.mg "int" = none) (h : VE X e ua) (hg : Gl X "isinstance" := by first | exact glX (by decide +kernel) | exact blk_gl (by decide +kernel)) (hc : Gl X "int" := by first | exact glX (by decide +kernel) | exact blk_gl (by decide +kernel)) (h1 : plainE e = true := by rfl) : VE X (.Call (.Name "isinstance" p) [e, .Name "int" p2] [] pos) (uIsi .int ua) := ve_isi (t := .int) hg hm hc hcm (by decide +kernel) h (by decide) (by decide) h1
theorem is_bool (hm : X.mg "isinstance" = none) (hcm : X.mg "bool" = none) (h : VE X e ua) (hg : Gl X "isinstance" := by first | exact glX (by decide +kernel) | exact blk_gl (by decide +kernel)) (hc : Gl X "bool" := by first | exact glX (by decide +kernel) | exact blk_gl (by decide +kernel)) (h1 : plainE e = true := by rfl) : VE X (.Call (.Name "isinstance" p) [e, .Name "bool" p2] [] pos) (uIsi .bool ua) := ve_isi (t := .bool) hg hm hc hcm (by decide +kernel) h (by decide) (by decide) h1
theorem oO {aO : Addr} {A : List (Str × Addr)} {ks : List Str} (hm : X.mg x = some (.ref aO)) (hD : ModD X.prog X.w X.base aO (opsK A)) (h : VE X a ua) (hk : A.map (·.1) = ks := by rfl) (hg : Gl X x := by first | exact glX (by decide +kernel) | exact blk_gl (by decide +kernel)) (hd : (x == ("__debug__" : Str)) = false := by decide) : VC X .NotIn a (.Name x p) (uMIn true ks ua) := by subst hk; exact vc_mnotin hm hg hD h hd
theorem oG {aO : Addr} {A : List (Str × Addr)} (hm : X.mg x = some (.ref aO)) (hD : ModD X.prog X.w X.base aO (opsK A)) (h : VE X b ub) (hg : Gl X x := by first | exact glX (by decide +kernel) | exact blk_gl (by decide +kernel)) (hs : NoSl b := by exact fun _ _ => rfl) (hd : (x == ("__debug__" : Str)) = false := by decide) : VE X (.Subscript (.Name x p) b pos) (uMGet A ub) := ve_mget hm hg hD h hs hd
end
structure Ent where
  nm : Str
  lv : Nat
  ms : List Bool
  m : USp
def Gs (P : Program) (w : World) (K : PySem.W.Frag) (mg : Str → Option Value) (base : Heap) (sig : List Ent) (n : Nat) : Prop := ∀ j e, j < n → sig[j]? = some e → L2.Own P w K mg base e.nm e.lv (spU e.ms e.m)
def Iof (ms : List Bool) (i : Nat) : Bool := (ms[i]?).getD false
theorem Iof_ok {ms : List Bool} (i : Nat) (h : ms[i]? = some true) : Iof ms i = true := by rw [Iof, h]; rfl
section
variable {P : Program} {w : World} {K : PySem.W.Frag} {mg : Str → Option Value} {base : Heap} {sig : List Ent} {n : Nat}
theorem Gs.at (G : Gs P w K mg base sig n) (j : Nat) {x : Str} {k : Nat} {ms : List Bool} {m : USp} (e : sig[j]? = some ⟨x, k, ms, m⟩ := by rfl) (h : j < n := by decide) : L2.Own P w K mg base x k (spU ms m) := G j _ h e
theorem Gs.zero : Gs P w K mg base sig 0 := fun _ _ h => absurd h (Nat.not_lt_zero _)
theorem Gs.snoc (G : Gs P w K mg base sig n) {x : Str} {k : Nat} {ms : List Bool} {m : USp} (e : sig[n]? = some ⟨x, k, ms, m⟩) (O : L2.Own P w K mg base x k (spU ms m)) : Gs P w K mg base sig (n + 1) := fun j e' hj q => by
  rcases Nat.lt_or_ge j n with z | z
  · exact G j e' z q
  · have : j = n := by omega
    subst this
    rw [e] at q
    cases q
    exact O
theorem okF {x qual : Str} {st : Stmt} {f : Addr} {fd : FuncData} {N ps : List Str} {k : Nat} {ms : List Bool} {m : USp} {u : US} (F : Fun K x qual st f fd) (S : FnScope N ps (defScope st)) (hl : ms.length = ps.length) (hN : ms.length ≤ N.length) (pu : ∀ ds P, ds.length = ms.length → m ds P → u (ends0 ms P) (start0 (N.length - ms.length) ds))
    (d : ∀ (cdv : Value) (A : Around) (outer : List PySem.Env) (s : Shared) (H : Hp) (E : XK), Room k (XX N qual st P w K mg base f cdv A outer s H E).A → (XX N qual st P w K mg base f cdv A outer s H E).A.units + 1 < cLine → (XX N qual st P w K mg base f cdv A outer s H E).A.units + 64 < cLine → VSs (Iof ms) (XX N qual st P w K mg base f cdv A outer s H E) (defBody st) u) : FnOk P w K mg base CX0 (k + 1) f fd ps (spU ms m) := by
  refine F.ok S (fun vs H Q E h => h.1.trans hl) (fun cdv A outer s H vs Q E hr h => ?_)
  obtain ⟨tt, q, sn⟩ := (d cdv A outer s H E hr (hu_of hr) hr.units).ex
  exact ⟨tt, q, body_ok (N := N) sn Iof_ok hN pu h⟩
structure FD (K : PySem.W.Frag) (x : Str) (st : Stmt) (f : Addr) : Prop where
  ex : ∃ (oc : Value) (od an : Option Addr) (sl : Array (Option Value)) (kV dc pm cd ct : Value), PySem.W.nsIn K mainGlobals x = some (some (.ref f)) ∧ K.lookup f = some ⟨oc, od, .func (PySem.W.fnOf x x (defArgs st) (defBody st) (defScope st) .none kV dc pm an cd ct), sl⟩ ∧ PySem.W.codeIn K cd x = true ∧ PySem.W.keepIn K (.ref f) = true
theorem fd_mk {x : Str} {st : Stmt} {f : Addr} {oc : Value} {od an : Option Addr} {sl : Array (Option Value)} {kV dc pm cd ct : Value} (a : PySem.W.nsIn K mainGlobals x = some (some (.ref f))) (l : K.lookup f = some ⟨oc, od, .func (PySem.W.fnOf x x (defArgs st) (defBody st) (defScope st) .none kV dc pm an cd ct), sl⟩) (c : PySem.W.codeIn K cd x = true) (k : PySem.W.keepIn K (.ref f) = true) : FD K x st f := ⟨⟨oc, od, an, sl, kV, dc, pm, cd, ct, a, l, c, k⟩⟩
theorem FD.fun {x : Str} {st : Stmt} {f : Addr} {h : Heap} (D : FD K x st f) (X : K.In h) (G : h.Ns mainGlobals mg) : ∃ fd, (∃ (kV dc pm : Value) (an : Option Addr) (cd ct : Value), fd = PySem.W.fnOf x x (defArgs st) (defBody st) (defScope st) .none kV dc pm an cd ct) ∧ Fun K x x st f fd ∧ mg x = some (.ref f) ∧ PySem.W.keepIn K (.ref f) = true := by
  obtain ⟨oc, od, an, sl, kV, dc, pm, cd, ct, a, l, c, k⟩ := D.ex
  exact ⟨_, ⟨kV, dc, pm, an, cd, ct, rfl⟩, fun_mk l c k, PySem.W.mg_of X G a, k⟩
theorem own_mk {x : Str} {f : Addr} {fd : FuncData} {k : Nat} {ps : List Str} {sp : Sp} (hm : mg x = some (.ref f)) (F : FnOk P w K mg base CX0 k f fd ps sp) (kp : PySem.W.keepIn K (.ref f) = true) (b : Binds K fd ps []) : L2.Own P w K mg base x k sp := ⟨f, hm, ⟨fd, ps, F, kp, b⟩⟩
theorem modD_of {a : Addr} (rows : List (Str × Tok × Addr)) {n : Nat} (hg : base.get? a = some { cls := .type "dict", data := .dict (rows.map fun r => ({ hash := PyData.keyHash w.params r.1, key := .str r.1 r.2.1, val := .ref r.2.2 } : DictEntry)).toArray n })
    (nd : ((rows.map fun r => ((Sum.inr r.1 : Key), V.ref r.2.2)).map (·.1)).Nodup) (ne : (a == sysModules) = false) : ModD P w base a (rows.map fun r => ((Sum.inr r.1 : Key), V.ref r.2.2)) := by
  refine ⟨ne, rows.map fun r => ((Sum.inr r.1 : Key), Value.ref r.2.2), ?_, _, _, _, hg, ⟨rfl, rfl, rfl⟩, rfl, ?_, ?_, ?_⟩
  · clear hg nd
    induction rows with
    | nil => exact .nil
    | cons r rows ih => exact .cons ⟨rfl, rfl⟩ ih
  · intro e he
    obtain ⟨x, t, b, _, rfl⟩ : ∃ x t b, (x, t, b) ∈ rows ∧ ({ hash := PyData.keyHash w.params x, key := .str x t, val := .ref b } : DictEntry) = e := by simpa using he
    exact ⟨Sum.inr x, keyIs_str x t, rfl⟩
  · clear hg nd
    show PySem.Pairs _ (rows.map _) _
    induction rows with
    | nil => exact .nil
    | cons r rows ih => exact .cons (keyIs_str r.1 r.2.1) rfl ih
  · have e : ((rows.map fun r => ((Sum.inr r.1 : Key), Value.ref r.2.2)).map (·.1)) = ((rows.map fun r => ((Sum.inr r.1 : Key), V.ref r.2.2)).map (·.1)) := by rw [List.map_map, List.map_map]; rfl
    rw [e]
    exact nd
end
end VS
end
section
set_option maxHeartbeats 4000000
namespace ON
open PySem L2 VS
theorem CMul_l {i j : Int} (h : -(2 ^ 64) < i) (h2 : i < 2 ^ 64) : CMul i j := .inl ⟨h, h2⟩
theorem CMul_r {i j : Int} (h : -(2 ^ 64) < j) (h2 : j < 2 ^ 64) : CMul i j := .inr ⟨h, h2⟩
abbrev purse (x y : Int) : D := .lst true [.int x, .int y]
local macro_rules | `(tactic| walk_at "side") => `(tactic| first | ((with_reducible refine Eq.trans ?_ rfl); exact rfl) | (with_reducible exact trivial) | ((with_reducible apply Exists.intro); exact rfl) | (exact ⟨_, _, _, _, rfl⟩) | (with_reducible assumption) | omega | (simp only [bareL_cons, bareL_nil, noFL_cons, noFL_nil, q_b1, q_b2, q_b3, q_b4, q_b5, q_b6, q_b7, q_n1, q_n2, q_n3, q_n4, q_n5, q_n6, q_n7, noFE, Bool.and_self, Bool.not_false, Bool.and_true, Bool.true_and]; done) | (simp only [List.length_cons, List.length_nil]; omega) | (refine CMul_l ?_ ?_ <;> omega) | (refine CMul_r ?_ ?_ <;> omega) | (refine divl ?_ ?_ <;> omega))
local macro_rules | `(tactic| walk_at "u") => `(tactic| first
  | (simp only [backs, List.set_cons_zero, List.set_cons_succ, Int.reduceToNat, if_true, if_false, List.replicate, List.cons_append, List.nil_append, List.drop_succ_cons, List.drop_zero])
  | with_reducible refine i_Nil ?_
  | with_reducible refine i_Cons ?_
  | with_reducible refine i_Copy ?_
  | with_reducible refine i_Move ?_
  | with_reducible refine i_C ?_
  | with_reducible refine i_Place_ ?_
  | with_reducible refine i_Get2 ?_
  | with_reducible refine i_Tup ?_
  | with_reducible refine i_Lst ?_
  | with_reducible refine i_Test ?_
  | with_reducible refine i_Not ?_
  | with_reducible refine i_And ?_
  | with_reducible refine i_Or ?_
  | with_reducible refine i_Truth ?_
  | with_reducible refine i_AndV ?_
  | with_reducible refine i_OrV ?_
  | with_reducible refine i_NotV ?_
  | with_reducible refine i_If ?_
  | with_reducible refine i_Seq ?_
  | with_reducible refine i_Next ?_
  | with_reducible refine i_Brk ?_
  | with_reducible refine i_Cont ?_
  | with_reducible refine i_Ret ?_
  | with_reducible refine i_RetN ?_
  | with_reducible refine i_Drop ?_
  | with_reducible refine i_IfS ?_
  | ((with_reducible refine i_Name ?_); refine And.intro (by simp only [List.length_cons, List.length_nil]; omega) ?_; skip)
  | ((with_reducible refine i_NameF ?_); refine And.intro (by simp only [List.length_cons, List.length_nil]; omega) ?_; skip)
  | with_reducible refine i_GNil ?_
  | with_reducible refine i_GCons ?_
  | with_reducible refine i_GTup ?_
  | with_reducible refine i_Asg ?_
  | with_reducible refine i_Aug ?_
  | with_reducible refine i_Chain ?_
  | with_reducible refine i_For ?_
  | with_reducible refine i_Rng1 ?_
  | with_reducible refine i_Append ?_
  | with_reducible refine i_Call ?_
  | with_reducible refine i_Yes ?_
  | with_reducible refine i_DPut ?_
  | with_reducible refine i_SetL ?_
  | with_reducible refine i_Pop ?_
  | with_reducible refine i_Reverse ?_
  | with_reducible refine i_Extend ?_
  | with_reducible refine i_NoPart ?_
  | with_reducible refine i_Part ?_
  | with_reducible refine i_Sl ?_
  | with_reducible refine i_DNew ?_
  | with_reducible refine i_Disp1 ?_
  | with_reducible refine i_Fn ?_
  | with_reducible refine i_Fn1 ?_
  | with_reducible refine i_Fn2 ?_
  | with_reducible refine i_Src ?_
  | with_reducible refine i_Enum ?_
  | with_reducible refine i_Comp ?_
  | with_reducible refine i_CompD ?_
  | with_reducible refine i_f_fI ?_
  | with_reducible refine i_f_fI0 ?_
  | with_reducible refine i_f_fU ?_
  | with_reducible refine i_f_fEq ?_
  | with_reducible refine i_f_fIsN ?_
  | with_reducible refine i_f_ixL ?_
  | with_reducible refine i_f_ixT ?_
  | with_reducible refine i_f_ixS ?_
  | with_reducible refine i_f_dget ?_
  | with_reducible refine i_f_din ?_
  | with_reducible refine i_f_dget2 ?_
  | with_reducible refine i_f_len1 ?_
  | with_reducible refine i_f_len2 ?_
  | with_reducible refine i_f_lenS ?_
  | with_reducible refine i_f_mulS ?_
  | with_reducible refine i_f_addS ?_
  | with_reducible refine i_f_cat ?_
  | with_reducible refine i_f_lo1 ?_
  | with_reducible refine i_f_lo2 ?_
  | with_reducible refine i_f_in1 ?_
  | with_reducible refine i_f_in2 ?_
  | with_reducible refine i_f_int1 ?_
  | with_reducible refine i_f_int2 ?_
  | with_reducible refine i_f_do ?_
  | ((with_reducible refine i_nx0 ?_); skip)
  | ((with_reducible refine i_rt0 ?_); skip)
  | with_reducible refine i_emit ?_
  | with_reducible refine i_emitD ?_
  | with_reducible refine i_CallZ ?_
  | with_reducible refine i_SlS ?_
  | with_reducible refine i_Isi ?_
  | with_reducible refine i_SlT ?_
  | with_reducible refine i_Rng2 ?_
  | with_reducible refine i_MIn ?_
  | with_reducible refine i_MGet ?_
  | with_reducible refine i_CallL ?_
  | with_reducible refine i_DPop ?_
  | with_reducible refine i_Par ?_
  | with_reducible refine i_f_eqD ?_
  | with_reducible refine i_f_dcopy ?_
  | with_reducible refine i_SortSet ?_
  | ((with_reducible apply And.intro); (walk_at "side"))
  | with_reducible apply Exists.intro
  | ((with_reducible refine i_itT ?_ ?_); exact rfl)
  | ((with_reducible refine i_itF ?_ ?_); exact rfl)
  )
abbrev ms__law_mixed : List Bool := [false, false]
def m__law_mixed : USp := fun ds P => ∃ c k, ds = [.int c, .int k] ∧ -(2 ^ 60) < k ∧ k < 2 ^ 60 ∧ ∀ r, 0 ≤ r → r < 2147483563 → P (.int r) [none, none]
def U__law_mixed : US :=
  (uSeq (uAsg (uFn2 (fI (fun _ j => 0 < j) fun i j => .int (i % j)) (uPlace' 0) (uC (.int 2147483629))) (uName 0))
  (uSeq (uAsg (uFn2 (fI (fun _ j => 0 < j) fun i j => .int (i % j)) (uFn2 (fI CMul fun i j => .int (i * j)) (uFn2 (fI0 fun i j => .int (i + j)) (uFn2 (fI0 fun i j => .int (i + j)) (uFn2 (fI0 fun i j => .int (i + j)) (uFn2 (fI CMul fun i j => .int (i * j)) (uPlace' 0) (uPlace' 0)) (uFn2 (fI CMul fun i j => .int (i * j)) (uC (.int 3)) (uPlace' 0))) (uFn2 (fI CMul fun i j => .int (i * j)) (uC (.int 7919)) (uPlace' 1))) (uC (.int 1))) (uC (.int 48271))) (uC (.int 2147483629))) (uName 2))
  (uSeq (uAsg (uFn2 (fI (fun _ j => 0 < j) fun i j => .int (i % j)) (uFn2 (fI0 fun i j => .int (i + j)) (uFn2 (fI CMul fun i j => .int (i * j)) (uPlace' 2) (uPlace' 2)) (uC (.int 7))) (uC (.int 2147483587))) (uName 2))
  (uRet (uFn2 (fI (fun _ j => 0 < j) fun i j => .int (i % j)) (uFn2 (fI CMul fun i j => .int (i * j)) (uPlace' 2) (uFn2 (fI0 fun i j => .int (i + j)) (uPlace' 2) (uC (.int 69621)))) (uC (.int 2147483563)))))))
theorem pure__law_mixed : ∀ ds P, ds.length = ms__law_mixed.length → m__law_mixed ds P → U__law_mixed (ends0 ms__law_mixed P) (start0 (3 - ms__law_mixed.length) ds) := by
  rintro ds P - ⟨c, k, rfl, h1, h2, k⟩
  simp only [start0, ms__law_mixed, List.map_cons, List.map_nil, List.length_cons, List.length_nil, Nat.reduceAdd, Nat.reduceSub, List.replicate, List.cons_append, List.nil_append]
  unfold U__law_mixed
  repeat walk_at "u"
  exact k _ (by omega) (by omega)
abbrev ms__law_draw : List Bool := [true, false]
def m__law_draw : USp := fun ds P => ∃ x y n, ds = [purse x y, .int n] ∧ 0 < n ∧ n ≤ 2 ^ 62 ∧ ∀ r z, 0 ≤ r → r < n → P (.int r) [some (purse z y), none]
def U__law_draw : US :=
  (uSeq (uIfS (uTest (uFn2 (fEq false) (uFn2 fIxL (uPlace' 0) (uC (.int 0))) (uC (.int 0))))
  (uSetL 0 (uC (.int 0)) (uFn2 fIxL (uPlace' 0) (uC (.int 1))))
  uNext)
  (uSeq (uAsg (uFn2 (fI (fun _ j => 0 < j) fun i j => .int (i % j)) (uFn2 fIxL (uPlace' 0) (uC (.int 0))) (uPlace' 1)) (uName 2))
  (uSeq (uSetL 0 (uC (.int 0)) (uFn2 (fI CDivL fun i j => .int (i / j)) (uFn2 fIxL (uPlace' 0) (uC (.int 0))) (uPlace' 1)))
  (uRet (uCopy 2)))))
theorem pure__law_draw : ∀ ds P, ds.length = ms__law_draw.length → m__law_draw ds P → U__law_draw (ends0 ms__law_draw P) (start0 (3 - ms__law_draw.length) ds) := by
  rintro ds P - ⟨x, y, n, rfl, hn, hn2, k⟩
  simp only [start0, ms__law_draw, List.map_cons, List.map_nil, List.length_cons, List.length_nil, Nat.reduceAdd, Nat.reduceSub, List.replicate, List.cons_append, List.nil_append]
  unfold U__law_draw
  repeat walk_at "u"
  with_reducible refine i_ite ?_ ?_
  · intro h
    repeat walk_at "u"
    exact k _ _ (Int.emod_nonneg _ (by omega)) (Int.emod_lt_of_pos _ hn)
  · intro h
    repeat walk_at "u"
    exact k _ _ (Int.emod_nonneg _ (by omega)) (Int.emod_lt_of_pos _ hn)
theorem cutL_map {α β : Type} {f : α → β} {xs : List α} {a b : Option Int} : cutL (xs.map f) a b = (cutL xs a b).map f := by simp [cutL, List.map_take, List.map_drop]
theorem cutL_len {α : Type} {xs : List α} {a b : Option Int} : (cutL xs a b).length ≤ xs.length := by simp [cutL]; omega
theorem cutL_mem {α : Type} {xs : List α} {a b : Option Int} {x : α} (h : x ∈ cutL xs a b) : x ∈ xs := List.mem_of_mem_drop (List.mem_of_mem_take h)
theorem bareL_int {xs : List Int} : bareL (xs.map .int) = true := bareL_iff.mpr fun d h => by obtain ⟨i, _, rfl⟩ := List.mem_map.mp h; rfl
theorem frzL_int {xs : List Int} : frzL (xs.map .int) = xs.map .int := by rw [frzL_map, List.map_map]; exact List.map_congr_left fun i _ => q_frz4
theorem bareL_str {xs : List Str} : bareL (xs.map .str) = true := bareL_iff.mpr fun d h => by obtain ⟨i, _, rfl⟩ := List.mem_map.mp h; rfl
theorem noFL_str {xs : List Str} : noFL (xs.map .str) = true := noFL_iff.mpr fun d h => by obtain ⟨i, _, rfl⟩ := List.mem_map.mp h; rfl
theorem frzL_str {xs : List Str} : frzL (xs.map .str) = xs.map .str := by rw [frzL_map, List.map_map]; exact List.map_congr_left fun i _ => q_frz5
theorem intsD_mem {n : Nat} {d : D} (h : d ∈ intsD 0 n) : ∃ i : Int, d = .int i ∧ 0 ≤ i ∧ i < n := by
  simp only [intsD, List.mem_map, List.mem_range] at h
  obtain ⟨i, h, rfl⟩ := h
  exact ⟨_, rfl, by omega, by omega⟩
theorem i_draw {x y n : Int} {P : D → VEnv → Prop} (h1 : 0 < n) (h2 : n ≤ 2 ^ 62) (k : ∀ r z, 0 ≤ r → r < n → P (.int r) [some (purse z y), none]) : m__law_draw [purse x y, .int n] P := ⟨x, y, n, rfl, h1, h2, k⟩
theorem i_mixed {c k : Int} {P : D → VEnv → Prop} (h1 : -(2 ^ 60) < k) (h2 : k < 2 ^ 60) (q : ∀ r, 0 ≤ r → r < 2147483563 → P (.int r) [none, none]) : m__law_mixed [.int c, .int k] P := ⟨c, k, rfl, h1, h2, q⟩
abbrev ms__law_purse : List Bool := [false]
def m__law_purse (L : Addr → List Int → Prop) : USp := fun ds P => ∃ (ns : List Int) (d : D), ds = [d] ∧ (d = .lst false (ns.map .int) ∨ ∃ a, d = .fn a ∧ L a ns) ∧ ns.length ≤ 100000 ∧ ∀ x y, P (purse x y) [none]
def U__law_purse (L : Addr → List Int → Prop) : US :=
  (uSeq (uAsg (uFn2 fCat (uSlS L (uPlace' 0) uNoPart (uPart (uC (.int 63)))) (uLst (uCons (uC (.int 0)) uNil))) (uNameF 1))
  (uSeq (uAsg (uC (.int 1)) (uName 2))
  (uSeq (uFor (uRng1 (uCons (uC (.int 150)) uNil)) (uName 3)
  (uAsg (uFn2 (fI0 fun i j => .int (i + j)) (uFn2 (fI CMul fun i j => .int (i * j)) (uPlace' 2) (uC (.int 2147483587))) (uCall ms__law_mixed m__law_mixed (uCons (uFn2 fIxL (uPlace' 1) (uFn2 (fI (fun _ j => 0 < j) fun i j => .int (i % j)) (uPlace' 3) (uFn fLen (uCons (uPlace' 1) uNil)))) (uCons (uPlace' 3) uNil)))) (uName 2)))
  (uSeq (uIfS (uTest (uFn2 (fI0 fun i j => .bl (decide (j ≤ i))) (uFn2 fIxL (uPlace' 1) (uC (.int 0))) (uFn2 (fI CPow fun i j => .int (i ^ j.toNat)) (uC (.int 10)) (uC (.int 18)))))
  (uRet (uLst (uCons (uFn2 (fI CDivL fun i j => .int (i / j)) (uFn2 fIxL (uPlace' 1) (uC (.int 0))) (uFn2 (fI CPow fun i j => .int (i ^ j.toNat)) (uC (.int 10)) (uC (.int 18)))) (uCons (uCopy 2) uNil))))
  uNext)
  (uRet (uLst (uCons (uCopy 2) (uCons (uCopy 2) uNil))))))))
theorem pure__law_purse {L : Addr → List Int → Prop} : ∀ ds P, ds.length = ms__law_purse.length → m__law_purse L ds P → U__law_purse L (ends0 ms__law_purse P) (start0 (4 - ms__law_purse.length) ds) := by
  rintro ds P - ⟨ns, d, rfl, hd, hl, k⟩
  simp only [start0, ms__law_purse, List.map_cons, List.map_nil, List.length_cons, List.length_nil, Nat.reduceAdd, Nat.reduceSub, List.replicate, List.cons_append, List.nil_append]
  unfold U__law_purse
  have e0 : cutL (ns.map D.int) none (some 63) ++ [.int 0] = (cutL ns none (some 63) ++ [0]).map D.int := by rw [cutL_map]; simp
  have hc : (cutL ns none (some 63)).length ≤ ns.length := cutL_len
  have rest : ∀ d : D, (uSeq (uAsg (uC (.int 1)) (uName 2))
  (uSeq (uFor (uRng1 (uCons (uC (.int 150)) uNil)) (uName 3)
  (uAsg (uFn2 (fI0 fun i j => .int (i + j)) (uFn2 (fI CMul fun i j => .int (i * j)) (uPlace' 2) (uC (.int 2147483587))) (uCall ms__law_mixed m__law_mixed (uCons (uFn2 fIxL (uPlace' 1) (uFn2 (fI (fun _ j => 0 < j) fun i j => .int (i % j)) (uPlace' 3) (uFn fLen (uCons (uPlace' 1) uNil)))) (uCons (uPlace' 3) uNil)))) (uName 2)))
  (uSeq (uIfS (uTest (uFn2 (fI0 fun i j => .bl (decide (j ≤ i))) (uFn2 fIxL (uPlace' 1) (uC (.int 0))) (uFn2 (fI CPow fun i j => .int (i ^ j.toNat)) (uC (.int 10)) (uC (.int 18)))))
  (uRet (uLst (uCons (uFn2 (fI CDivL fun i j => .int (i / j)) (uFn2 fIxL (uPlace' 1) (uC (.int 0))) (uFn2 (fI CPow fun i j => .int (i ^ j.toNat)) (uC (.int 10)) (uC (.int 18)))) (uCons (uCopy 2) uNil))))
  uNext)
  (uRet (uLst (uCons (uCopy 2) (uCons (uCopy 2) uNil))))))) (ends0 [false] P) [some d, some (.lst false ((cutL ns none (some 63) ++ [0]).map .int)), none, none] := by
    intro d
    generalize hC : cutL ns none (some 63) ++ [0] = C
    have hC1 : 0 < C.length := by rw [← hC]; simp
    have hC2 : C.length ≤ 200000 := by rw [← hC]; simp; omega
    repeat walk_at "u"
    refine for_ind (fun xs e => (∀ x ∈ xs, ∃ i : Int, x = .int i ∧ 0 ≤ i ∧ i < 150) ∧ ∃ n o3, e = [some d, some (.lst false (C.map .int)), some (.int n), o3]) ?_ ?_ _ _ ⟨fun x h => ?_, _, _, rfl⟩
    · rintro e ⟨-, n, o3, rfl⟩
      obtain ⟨c0, _, hc0⟩ := atI_mapx (f := D.int) (xs := C) (k := 0) (by omega) (by omega)
      repeat walk_at "u"
      refine ⟨⟨by decide, by decide, by decide⟩, ?_⟩
      repeat walk_at "u"
      with_reducible refine i_ite ?_ ?_
      · intro h
        repeat walk_at "u"
        refine ⟨⟨by decide, by decide, by decide⟩, ?_⟩
        repeat walk_at "u"
        exact k _ _
      · intro h
        repeat walk_at "u"
        exact k _ _
    · rintro x xs e ih ⟨hx, n, o3, rfl⟩
      obtain ⟨i, rfl, i0, i1⟩ := hx x (.head _)
      have hl : (0 : Int) < ((C.map D.int).length : Int) := by rw [List.length_map]; omega
      have hm := Int.emod_nonneg i (b := ((C.map D.int).length : Int)) (by omega)
      have hm2 := Int.emod_lt_of_pos i (b := ((C.map D.int).length : Int)) hl
      obtain ⟨c, _, hc⟩ := atI_mapx (f := D.int) (xs := C) (k := i % ((C.map D.int).length : Int)) hm (by rw [List.length_map] at hm2 ⊢; exact hm2)
      repeat walk_at "u"
      refine i_mixed (by omega) (by omega) fun r r0 r1 => ?_
      repeat walk_at "u"
      exact ih _ ⟨fun x h => hx x (.tail _ h), _, _, rfl⟩
    · obtain ⟨i, rfl, a, b⟩ := intsD_mem h
      exact ⟨i, rfl, a, by simpa using b⟩
  generalize (uSeq (uAsg (uC (.int 1)) (uName 2))
  (uSeq (uFor (uRng1 (uCons (uC (.int 150)) uNil)) (uName 3)
  (uAsg (uFn2 (fI0 fun i j => .int (i + j)) (uFn2 (fI CMul fun i j => .int (i * j)) (uPlace' 2) (uC (.int 2147483587))) (uCall ms__law_mixed m__law_mixed (uCons (uFn2 fIxL (uPlace' 1) (uFn2 (fI (fun _ j => 0 < j) fun i j => .int (i % j)) (uPlace' 3) (uFn fLen (uCons (uPlace' 1) uNil)))) (uCons (uPlace' 3) uNil)))) (uName 2)))
  (uSeq (uIfS (uTest (uFn2 (fI0 fun i j => .bl (decide (j ≤ i))) (uFn2 fIxL (uPlace' 1) (uC (.int 0))) (uFn2 (fI CPow fun i j => .int (i ^ j.toNat)) (uC (.int 10)) (uC (.int 18)))))
  (uRet (uLst (uCons (uFn2 (fI CDivL fun i j => .int (i / j)) (uFn2 fIxL (uPlace' 1) (uC (.int 0))) (uFn2 (fI CPow fun i j => .int (i ^ j.toNat)) (uC (.int 10)) (uC (.int 18)))) (uCons (uCopy 2) uNil))))
  uNext)
  (uRet (uLst (uCons (uCopy 2) (uCons (uCopy 2) uNil))))))) = T at rest ⊢
  have hb1 := bareL_int (xs := ns)
  have hb2 : bareL (cutL (ns.map D.int) none (some 63)) = true := by rw [cutL_map]; exact bareL_int
  have hb3 : (cutL (ns.map D.int) none (some 63)).length + [D.int 0].length ≤ 1000000 := by simp [cutL_map]; omega
  rcases hd with rfl | ⟨a, rfl, hL⟩
  · repeat walk_at "u"
    left
    repeat walk_at "u"
    rw [e0, q_frz1, frzL_int]
    exact rest _
  · repeat walk_at "u"
    right
    refine ⟨a, ns, rfl, hL, ?_⟩
    repeat walk_at "u"
    rw [e0, q_frz1, frzL_int]
    exact rest _
inductive Part where | num (n : Int) | name (x : Str)
inductive Worth where | one (p : Part) | two (o : Str) (p q : Part)
inductive Deed where | put (x : Str) (w : Worth) | tell (p : Part)
inductive End where | stop | go (a : Int) | choose (p : Part) (a b : Int)
abbrev Blk := List Deed × End
def Part.d : Part → D | .num n => .tup [.str "number", .int n] | .name x => .tup [.str "name", .str x]
def Worth.d : Worth → D | .one p => p.d | .two o p q => .tup [.str o, p.d, q.d]
def Deed.d : Deed → D | .put x w => .tup [.str "put", .str x, w.d] | .tell p => .tup [.str "tell", p.d]
def End.d : End → D | .stop => .tup [.str "stop"] | .go a => .tup [.str "go", .int a] | .choose p a b => .tup [.str "choose", p.d, .int a, .int b]
def blkD (o : Bool) (b : Blk) : D := .tup [.lst o (b.1.map Deed.d), b.2.d]
def progD (o : Bool) (m : Int) (bs : List Blk) : D := .tup [.int m, .lst o (bs.map (blkD o))]
def Part.ok (xs : List Str) (m : Int) : Part → Prop | .num n => 0 ≤ n ∧ n < m | .name x => x ∈ xs
def opNames : List Str := ["plus", "less", "times", "below", "same"]
def Worth.ok (xs : List Str) (m : Int) : Worth → Prop | .one p => p.ok xs m | .two o p q => o ∈ opNames ∧ p.ok xs m ∧ q.ok xs m
def Deed.ok (xs : List Str) (m : Int) : Deed → Prop | .put x w => x ∈ xs ∧ w.ok xs m | .tell p => p.ok xs m
def End.ok (xs : List Str) (m many : Int) : End → Prop | .stop => True | .go a => 0 ≤ a ∧ a < many | .choose p a b => p.ok xs m ∧ 0 ≤ a ∧ a < many ∧ 0 ≤ b ∧ b < many
def Blk.ok (xs : List Str) (m many : Int) (b : Blk) : Prop := b.1.length ≤ 8 ∧ (∀ d ∈ b.1, d.ok xs m) ∧ b.2.ok xs m many
def progOk (xs : List Str) (m : Int) (bs : List Blk) : Prop := ∀ b ∈ bs, Blk.ok xs m bs.length b
theorem Part.bare (p : Part) : VS.bare p.d = true := by cases p <;> rfl
theorem Part.noF (p : Part) : VS.noF p.d = true := by cases p <;> rfl
theorem Part.frz (p : Part) : VS.frz p.d = p.d := by cases p <;> simp only [Part.d, q_frz2, frzL_cons, frzL_nil, q_frz4, q_frz5]
theorem Worth.bare (w : Worth) : VS.bare w.d = true := by cases w <;> simp only [Worth.d, Part.bare, q_b2, bareL_cons, bareL_nil, q_b5, Bool.and_self]
theorem Worth.noF (w : Worth) : VS.noF w.d = true := by cases w <;> simp only [Worth.d, Part.noF, q_n2, noFL_cons, noFL_nil, q_n5, Bool.and_self]
theorem Worth.frz (w : Worth) : VS.frz w.d = w.d := by cases w <;> simp only [Worth.d, Part.frz, q_frz2, frzL_cons, frzL_nil, q_frz4, q_frz5]
theorem Deed.bare (w : Deed) : VS.bare w.d = true := by cases w <;> simp only [Deed.d, Part.bare, Worth.bare, q_b2, bareL_cons, bareL_nil, q_b5, Bool.and_self]
theorem Deed.noF (w : Deed) : VS.noF w.d = true := by cases w <;> simp only [Deed.d, Part.noF, Worth.noF, q_n2, noFL_cons, noFL_nil, q_n5, Bool.and_self]
theorem Deed.frz (w : Deed) : VS.frz w.d = w.d := by cases w <;> simp only [Deed.d, Part.frz, Worth.frz, q_frz2, frzL_cons, frzL_nil, q_frz4, q_frz5]
theorem End.bare (w : End) : VS.bare w.d = true := by cases w <;> simp only [End.d, Part.bare, q_b2, bareL_cons, bareL_nil, q_b4, q_b5, Bool.and_self]
theorem End.noF (w : End) : VS.noF w.d = true := by cases w <;> simp only [End.d, Part.noF, q_n2, noFL_cons, noFL_nil, q_n4, q_n5, Bool.and_self]
theorem End.frz (w : End) : VS.frz w.d = w.d := by cases w <;> simp only [End.d, Part.frz, q_frz2, frzL_cons, frzL_nil, q_frz4, q_frz5]
theorem bareL_map {α : Type} {f : α → D} (h : ∀ a, VS.bare (f a) = true) {xs : List α} : bareL (xs.map f) = true := bareL_iff.mpr fun d hd => by obtain ⟨i, _, rfl⟩ := List.mem_map.mp hd; exact h i
theorem noFL_map {α : Type} {f : α → D} (h : ∀ a, VS.noF (f a) = true) {xs : List α} : noFL (xs.map f) = true := noFL_iff.mpr fun d hd => by obtain ⟨i, _, rfl⟩ := List.mem_map.mp hd; exact h i
theorem frzL_mapE {α : Type} {f g : α → D} (h : ∀ a, VS.frz (f a) = g a) {xs : List α} : frzL (xs.map f) = xs.map g := by rw [frzL_map, List.map_map]; exact List.map_congr_left fun i _ => h i
theorem blk_bare (b : Blk) : VS.bare (blkD false b) = true := by simp only [blkD, q_b1, q_b2, bareL_cons, bareL_nil, bareL_map Deed.bare, End.bare, Bool.not_false, Bool.and_self]
theorem blk_noF (b : Blk) : VS.noF (blkD true b) = true := by simp only [blkD, q_n1, q_n2, noFL_cons, noFL_nil, noFL_map Deed.noF, End.noF, Bool.and_self]
theorem blk_frz (o : Bool) (b : Blk) : VS.frz (blkD o b) = blkD false b := by simp only [blkD, q_frz1, q_frz2, frzL_cons, frzL_nil, frzL_mapE Deed.frz, End.frz]
theorem prog_bare (m : Int) (bs : List Blk) : VS.bare (progD false m bs) = true := by simp only [progD, q_b1, q_b2, q_b4, bareL_cons, bareL_nil, bareL_map blk_bare, Bool.not_false, Bool.and_self]
theorem prog_noF (m : Int) (bs : List Blk) : VS.noF (progD true m bs) = true := by simp only [progD, q_n1, q_n2, q_n4, noFL_cons, noFL_nil, noFL_map blk_noF, Bool.and_self]
theorem prog_frz (o : Bool) (m : Int) (bs : List Blk) : VS.frz (progD o m bs) = progD false m bs := by simp only [progD, q_frz1, q_frz2, q_frz4, frzL_cons, frzL_nil, frzL_mapE (blk_frz o)]
def lets (x : Str) : Prop := ∀ c ∈ x.cps.toList, 97 ≤ c ∧ c ≤ 122
def nmOk (x : Str) : Prop := 1 ≤ x.length ∧ x.length ≤ 6 ∧ lets x
def nm5 (x : Str) : Prop := 1 ≤ x.length ∧ x.length ≤ 5 ∧ lets x
theorem lets_app {x y : Str} (h : lets x) (h' : lets y) : lets (x ++ y) := fun c hc => by
  have : c ∈ (x.cps ++ y.cps).toList := hc
  rw [Array.toList_append, List.mem_append] at this
  exact this.elim (h c) (h' c)
theorem lets_one {c : Nat} (h : 97 ≤ c ∧ c ≤ 122) : lets ⟨#[c]⟩ := fun d hd => by
  have : d = c := by simpa using hd
  rw [this]; exact h
theorem nm5_mk {x : Str} {c : Nat} (h : x.length ≤ 4) (h1 : lets x) (h2 : 97 ≤ c ∧ c ≤ 122) : nm5 (x ++ ⟨#[c]⟩) := by
  refine ⟨?_, ?_, lets_app h1 (lets_one h2)⟩ <;> rw [strLen_append] <;> have : Str.length ⟨#[c]⟩ = 1 := rfl <;> omega
theorem nmOk.str {x : Str} (h : nmOk x) : PyData.strOk x = true := by
  unfold PyData.strOk
  rw [← Array.all_toList, List.all_eq_true]
  intro c hc
  have := (h.2.2 c hc).2
  simp only [decide_eq_true_eq]; omega
theorem letter_at {r : Int} (h : 0 ≤ r) (h2 : r < 26) : ∃ c, atI (("abcdefghijklmnopqrstuvwxyz" : Str).cps.toList) r = some c ∧ (97 ≤ c ∧ c ≤ 122) := by
  have hall : ∀ c ∈ ("abcdefghijklmnopqrstuvwxyz" : Str).cps.toList, 97 ≤ c ∧ c ≤ 122 := by decide +kernel
  have hl : (("abcdefghijklmnopqrstuvwxyz" : Str).cps.toList).length = 26 := by decide +kernel
  obtain ⟨x, hx, e⟩ := atI_ex (xs := (("abcdefghijklmnopqrstuvwxyz" : Str).cps.toList)) h (by rw [hl]; exact h2)
  exact ⟨x, e, hall x hx⟩
theorem mul_len {c : Nat} {n : Int} (h : 0 ≤ n) (h2 : n < 5) : (Txt.mul ⟨#[c]⟩ n).length ≤ 4 := by
  have : n = 0 ∨ n = 1 ∨ n = 2 ∨ n = 3 ∨ n = 4 := by omega
  rcases this with rfl | rfl | rfl | rfl | rfl
  · exact (by decide : (0 : Nat) ≤ 4)
  · exact (by decide : (1 : Nat) ≤ 4)
  · exact (by decide : (2 : Nat) ≤ 4)
  · exact (by decide : (3 : Nat) ≤ 4)
  · exact (by decide : (4 : Nat) ≤ 4)
theorem mul_lets {c : Nat} {n : Int} (h : 0 ≤ n) (h2 : n < 5) (hc : 97 ≤ c ∧ c ≤ 122) : lets (Txt.mul ⟨#[c]⟩ n) := by
  have : n = 0 ∨ n = 1 ∨ n = 2 ∨ n = 3 ∨ n = 4 := by omega
  intro d hd
  rcases this with rfl | rfl | rfl | rfl | rfl
  · have : d ∈ ([] : List Nat) := hd
    cases this
  · have : d ∈ [c] := hd
    simp at this; omega
  · have : d ∈ [c, c] := hd
    simp at this; omega
  · have : d ∈ [c, c, c] := hd
    simp at this; omega
  · have : d ∈ [c, c, c, c] := hd
    simp at this; omega
abbrev ms__law_names : List Bool := [true]
def m__law_names : USp := fun ds P => ∃ x y, ds = [purse x y] ∧ ∀ (xs : List Str) z, 0 < xs.length → xs.length ≤ 20 → (∀ x ∈ xs, nmOk x) → P (.lst true (xs.map .str)) [some (purse z y)]
def U__law_names : US :=
  (uSeq (uAsg (uC (.str "abcdefghijklmnopqrstuvwxyz")) (uName 1))
  (uSeq (uAsg (uFn2 fMulS (uFn2 fIxS (uPlace' 1) (uCall ms__law_draw m__law_draw (uCons (uPlace' 0) (uCons (uC (.int 26)) uNil)))) (uCall ms__law_draw m__law_draw (uCons (uPlace' 0) (uCons (uC (.int 5)) uNil)))) (uName 2))
  (uSeq (uAsg (uCall ms__law_draw m__law_draw (uCons (uPlace' 0) (uCons (uC (.int 26)) uNil))) (uName 3))
  (uSeq (uAsg (uFn2 fCat (uComp 1 (uRng1 (uCons (uC (.int 3)) uNil)) (uName 0) uYes (emitU (uFn2 fAddS (uPlace' 3) (uFn2 fIxS (uPlace' 2) (uFn2 (fI (fun _ j => 0 < j) fun i j => .int (i % j)) (uFn2 (fI0 fun i j => .int (i + j)) (uPlace' 4) (uFn2 (fI CMul fun i j => .int (i * j)) (uC (.int 5)) (uPlace' 0))) (uC (.int 26))))))) (uLst (uCons (uFn2 fAddS (uPlace' 2) (uC (.str "ab"))) uNil))) (uName 4))
  (uSeq (uIfS (uTest (uFn2 (fEq false) (uCall ms__law_draw m__law_draw (uCons (uPlace' 0) (uCons (uC (.int 16)) uNil))) (uC (.int 0))))
  (uRet (uComp 1 (uRng1 (uCons (uC (.int 20)) uNil)) (uName 0) uYes (emitU (uFn2 fAddS (uPlace' 3) (uFn2 fIxS (uPlace' 2) (uFn2 (fI (fun _ j => 0 < j) fun i j => .int (i % j)) (uFn2 (fI0 fun i j => .int (i + j)) (uPlace' 4) (uFn2 (fI CMul fun i j => .int (i * j)) (uC (.int 5)) (uPlace' 0))) (uC (.int 26))))))))
  uNext)
  (uRet (uSl (uPlace' 4) uNoPart (uPart (uFn2 (fI0 fun i j => .int (i + j)) (uC (.int 1)) (uCall ms__law_draw m__law_draw (uCons (uPlace' 0) (uCons (uC (.int 4)) uNil))))))))))))
theorem pure__law_names : ∀ ds P, ds.length = ms__law_names.length → m__law_names ds P → U__law_names (ends0 ms__law_names P) (start0 (5 - ms__law_names.length) ds) := by
  rintro ds P - ⟨x, y, rfl, k⟩
  simp only [start0, ms__law_names, List.map_cons, List.map_nil, List.length_cons, List.length_nil, Nat.reduceAdd, Nat.reduceSub, List.replicate, List.cons_append, List.nil_append]
  unfold U__law_names
  repeat walk_at "u"
  refine i_draw (by omega) (by omega) fun r z r0 r1 => ?_
  obtain ⟨c, hc, hcl⟩ := letter_at r0 r1
  have hl26 : Str.length "abcdefghijklmnopqrstuvwxyz" ≤ 1000000 := by decide +kernel
  repeat walk_at "u"
  refine i_draw (by omega) (by omega) fun r z r0 r1 => ?_
  have hs := mul_len (c := c) r0 r1
  have hst := mul_lets r0 r1 hcl
  have h1 : Str.length ⟨#[c]⟩ ≤ 1000 := (by decide : (1 : Nat) ≤ 1000)
  repeat walk_at "u"
  generalize Txt.mul ⟨#[c]⟩ r = stem at hs hst ⊢
  refine i_draw (by omega) (by omega) fun base z b0 b1 => ?_
  have comp : ∀ (K : List D → VEnv → Prop) (N : Nat) (z : Int) (o4 : Option D), N ≤ 20 → (∀ ys : List Str, ys.length = N → (∀ y ∈ ys, nm5 y) → ∀ o, K (ys.map .str) [o, some (purse z y), some (.str "abcdefghijklmnopqrstuvwxyz"), some (.str stem), some (.int base), o4]) →
      ∀ (xs : List D) (acc : List D) (e : VEnv), ((∀ x ∈ xs, ∃ i : Int, x = .int i ∧ 0 ≤ i ∧ i < 20) ∧ ∃ ys : List Str, acc = ys.map .str ∧ ys.length + xs.length = N ∧ (∀ y ∈ ys, nm5 y) ∧ ∃ o, e = [o, some (purse z y), some (.str "abcdefghijklmnopqrstuvwxyz"), some (.str stem), some (.int base), o4]) →
      loopU (uName 0) uYes (emitU (uFn2 fAddS (uPlace' 3) (uFn2 fIxS (uPlace' 2) (uFn2 (fI (fun _ j => 0 < j) fun i j => .int (i % j)) (uFn2 (fI0 fun i j => .int (i + j)) (uPlace' 4) (uFn2 (fI CMul fun i j => .int (i * j)) (uC (.int 5)) (uPlace' 0))) (uC (.int 26)))))) K xs acc e := by
    intro K N z o4 hN hK
    refine loop_ind _ ?_ ?_
    · rintro acc e ⟨_, ys, rfl, h1, h2, o, rfl⟩
      exact hK ys (by simpa using h1) h2 o
    · rintro x xs acc e ih ⟨hx, ys, rfl, h1, h2, o, rfl⟩
      obtain ⟨i, rfl, i0, i1⟩ := hx x (.head _)
      obtain ⟨c, hc, hcl⟩ := letter_at (r := (base + 5 * i) % 26) (by omega) (by omega)
      have hc1 : Str.length ⟨#[c]⟩ = 1 := rfl
      have ha : stem.length + Str.length ⟨#[c]⟩ ≤ 1000000 := by omega
      have hy : (ys.map D.str).length ≤ 1000000 := by rw [List.length_map]; simp at h1; omega
      repeat walk_at "u"
      refine ih _ _ ⟨fun x h => hx x (.tail _ h), ys ++ [stem ++ ⟨#[c]⟩], by simp, by simp at h1 ⊢; omega, fun y h => ?_, _, rfl⟩
      rcases List.mem_append.mp h with h | h
      · exact h2 y h
      · rw [List.mem_singleton.mp h]
        exact nm5_mk hs hst hcl
  have rng : ∀ N : Nat, N ≤ 20 → ∀ x ∈ intsD 0 N, ∃ i : Int, x = .int i ∧ 0 ≤ i ∧ i < 20 := fun N hN x h => by obtain ⟨i, e, a, b⟩ := intsD_mem h; exact ⟨i, e, a, by omega⟩
  repeat walk_at "u"
  refine comp _ 3 z none (by decide) (fun ys l1 l2 o => ?_) _ _ _ ⟨rng 3 (by decide), [], rfl, rfl, fun y h => by simp at h, _, rfl⟩
  have hab : Str.length "ab" = 2 := by decide +kernel
  have ha : stem.length + Str.length "ab" ≤ 1000000 := by omega
  have hb := bareL_str (xs := ys)
  have hb2 : (ys.map D.str).length + [D.str (stem ++ "ab")].length ≤ 1000000 := by simp; omega
  have e0 : ys.map D.str ++ [.str (stem ++ "ab")] = (ys ++ [stem ++ "ab"]).map D.str := by simp
  simp only [List.drop_succ_cons, List.drop_zero]
  repeat walk_at "u"
  rw [e0]
  have hY : ∀ y ∈ ys ++ [stem ++ "ab"], nmOk y := fun y h => by
    rcases List.mem_append.mp h with h | h
    · have := l2 y h; exact ⟨this.1, Nat.le_succ_of_le this.2.1, this.2.2⟩
    · rw [List.mem_singleton.mp h]
      refine ⟨by rw [strLen_append]; omega, by rw [strLen_append]; omega, lets_app hst (by decide +kernel : ∀ c ∈ ("ab" : Str).cps.toList, 97 ≤ c ∧ c ≤ 122)⟩
  have hYl : (ys ++ [stem ++ "ab"]).length = 4 := by simp [l1]
  generalize ys ++ [stem ++ "ab"] = Y at hY hYl ⊢
  have hbY := bareL_str (xs := Y)
  refine i_draw (by omega) (by omega) fun r z r0 r1 => ?_
  repeat walk_at "u"
  with_reducible refine i_ite ?_ ?_
  · intro h
    repeat walk_at "u"
    refine comp _ 20 z _ (by decide) (fun ys l1 l2 o => ?_) _ _ _ ⟨rng 20 (by decide), [], rfl, rfl, fun y h => by simp at h, _, rfl⟩
    repeat walk_at "u"
    exact k ys z (by omega) (by omega) fun y h => by have := l2 y h; exact ⟨this.1, Nat.le_succ_of_le this.2.1, this.2.2⟩
  · intro h
    repeat walk_at "u"
    refine i_draw (by omega) (by omega) fun r z r0 r1 => ?_
    repeat walk_at "u"
    rw [cutL_map]
    have hlen : 0 < (cutL Y none (some (1 + r))).length := by
      have : r = 0 ∨ r = 1 ∨ r = 2 ∨ r = 3 := by omega
      match Y, hYl with
      | [a, b, c, d], _ => rcases this with rfl | rfl | rfl | rfl <;> exact Nat.zero_lt_succ _
    exact k _ z hlen (by have := cutL_len (xs := Y) (a := none) (b := some (1 + r)); omega) fun y h => hY y (cutL_mem h)
abbrev ms__law_part : List Bool := [true, false, false]
def m__law_part : USp := fun ds P => ∃ x y xs m, ds = [purse x y, .lst false (List.map .str xs), .int m] ∧ 0 < xs.length ∧ xs.length ≤ 1000 ∧ 2 ≤ m ∧ m ≤ 2 ^ 62 ∧ ∀ (p : Part) z, p.ok xs m → P p.d [some (purse z y), none, none]
def U__law_part : US :=
  (uSeq (uIfS (uTest (uFn2 (fEq false) (uCall ms__law_draw m__law_draw (uCons (uPlace' 0) (uCons (uC (.int 3)) uNil))) (uC (.int 0))))
  (uRet (uTup (uCons (uC (.str "number")) (uCons (uFn2 fIxL (uLst (uCons (uC (.int 0)) (uCons (uC (.int 1)) (uCons (uFn2 (fI0 fun i j => .int (i - j)) (uPlace' 2) (uC (.int 1))) (uCons (uCall ms__law_draw m__law_draw (uCons (uPlace' 0) (uCons (uPlace' 2) uNil))) uNil))))) (uCall ms__law_draw m__law_draw (uCons (uPlace' 0) (uCons (uC (.int 4)) uNil)))) uNil))))
  uNext)
  (uRet (uTup (uCons (uC (.str "name")) (uCons (uFn2 fIxL (uPlace' 1) (uCall ms__law_draw m__law_draw (uCons (uPlace' 0) (uCons (uFn fLen (uCons (uPlace' 1) uNil)) uNil)))) uNil)))))
theorem pure__law_part : ∀ ds P, ds.length = ms__law_part.length → m__law_part ds P → U__law_part (ends0 ms__law_part P) (start0 (3 - ms__law_part.length) ds) := by
  rintro ds P - ⟨x, y, xs, m, rfl, h1, h2, h3, h4, k⟩
  simp only [start0, ms__law_part, List.map_cons, List.map_nil, List.length_cons, List.length_nil, Nat.reduceAdd, Nat.reduceSub, List.replicate, List.cons_append, List.nil_append]
  unfold U__law_part
  repeat walk_at "u"
  refine i_draw (by omega) (by omega) fun r z r0 r1 => ?_
  repeat walk_at "u"
  with_reducible refine i_ite ?_ ?_
  · intro h
    repeat walk_at "u"
    refine i_draw (by omega) (by omega) fun a z a0 a1 => ?_
    repeat walk_at "u"
    refine i_draw (by omega) (by omega) fun b z b0 b1 => ?_
    have hx : ∃ n : Int, atI [D.int 0, D.int 1, D.int (m - 1), D.int a] b = some (.int n) ∧ 0 ≤ n ∧ n < m := by
      have : b = 0 ∨ b = 1 ∨ b = 2 ∨ b = 3 := by omega
      rcases this with rfl | rfl | rfl | rfl
      · exact ⟨0, rfl, by omega, by omega⟩
      · exact ⟨1, rfl, by omega, by omega⟩
      · exact ⟨m - 1, rfl, by omega, by omega⟩
      · exact ⟨a, rfl, by omega, by omega⟩
    obtain ⟨n, hn, n0, n1⟩ := hx
    repeat walk_at "u"
    exact k (.num n) z ⟨n0, n1⟩
  · intro h
    have hl : (0 : Int) < ((xs.map D.str).length : Int) := by rw [List.length_map]; omega
    have hl2 : ((xs.map D.str).length : Int) ≤ 2 ^ 62 := by rw [List.length_map]; omega
    repeat walk_at "u"
    refine i_draw hl hl2 fun a z a0 a1 => ?_
    obtain ⟨s, hs, e⟩ := atI_mapx (f := D.str) (xs := xs) a0 (by simpa using a1)
    repeat walk_at "u"
    exact k (.name s) z hs
theorem i_part {x y m : Int} {xs : List Str} {P : D → VEnv → Prop} (h1 : 0 < xs.length) (h2 : xs.length ≤ 1000) (h3 : 2 ≤ m) (h4 : m ≤ 2 ^ 62) (k : ∀ (p : Part) z, p.ok xs m → P p.d [some (purse z y), none, none]) : m__law_part [purse x y, .lst false (xs.map .str), .int m] P := ⟨x, y, xs, m, rfl, h1, h2, h3, h4, k⟩
abbrev ms__law_worth : List Bool := [true, false, false]
def m__law_worth : USp := fun ds P => ∃ x y xs m, ds = [purse x y, .lst false (List.map .str xs), .int m] ∧ 0 < xs.length ∧ xs.length ≤ 1000 ∧ 2 ≤ m ∧ m ≤ 2 ^ 62 ∧ ∀ (w : Worth) z, w.ok xs m → P w.d [some (purse z y), none, none]
def U__law_worth : US :=
  (uSeq (uAsg (uCall ms__law_draw m__law_draw (uCons (uPlace' 0) (uCons (uC (.int 8)) uNil))) (uName 3))
  (uSeq (uAsg (uCall ms__law_part m__law_part (uCons (uPlace' 0) (uCons (uPlace' 1) (uCons (uPlace' 2) uNil)))) (uNameF 4))
  (uSeq (uIfS (uTest (uFn2 (fI0 fun i j => .bl (decide (i < j))) (uPlace' 3) (uC (.int 2))))
  (uRet (uCopy 4))
  uNext)
  (uRet (uTup (uCons (uFn2 fIxL (uLst (uCons (uC (.str "plus")) (uCons (uC (.str "less")) (uCons (uC (.str "times")) (uCons (uC (.str "below")) (uCons (uC (.str "same")) (uCons (uC (.str "plus")) uNil))))))) (uFn2 (fI0 fun i j => .int (i - j)) (uPlace' 3) (uC (.int 2)))) (uCons (uCopy 4) (uCons (uCall ms__law_part m__law_part (uCons (uPlace' 0) (uCons (uPlace' 1) (uCons (uPlace' 2) uNil)))) uNil))))))))
theorem pure__law_worth : ∀ ds P, ds.length = ms__law_worth.length → m__law_worth ds P → U__law_worth (ends0 ms__law_worth P) (start0 (5 - ms__law_worth.length) ds) := by
  rintro ds P - ⟨x, y, xs, m, rfl, h1, h2, h3, h4, k⟩
  simp only [start0, ms__law_worth, List.map_cons, List.map_nil, List.length_cons, List.length_nil, Nat.reduceAdd, Nat.reduceSub, List.replicate, List.cons_append, List.nil_append]
  unfold U__law_worth
  repeat walk_at "u"
  refine i_draw (by omega) (by omega) fun w z w0 w1 => ?_
  have eN : frz (.lst false (xs.map D.str)) = .lst false (xs.map D.str) := by rw [q_frz1, frzL_str]
  repeat walk_at "u"
  rw [eN]
  repeat walk_at "u"
  refine i_part h1 h2 h3 h4 fun p z hp => ?_
  have hpn := p.noF
  have hpb := p.bare
  repeat walk_at "u"
  rw [p.frz]
  repeat walk_at "u"
  with_reducible refine i_ite ?_ ?_
  · intro h
    repeat walk_at "u"
    exact k (.one p) z hp
  · intro h
    have hw : ∃ o : Str, atI [D.str "plus", D.str "less", D.str "times", D.str "below", D.str "same", D.str "plus"] (w - 2) = some (.str o) ∧ o ∈ opNames := by
      have h := of_decide_eq_false h
      have : w = 2 ∨ w = 3 ∨ w = 4 ∨ w = 5 ∨ w = 6 ∨ w = 7 := by omega
      rcases this with rfl | rfl | rfl | rfl | rfl | rfl
      · exact ⟨_, rfl, by simp [opNames]⟩
      · exact ⟨_, rfl, by simp [opNames]⟩
      · exact ⟨_, rfl, by simp [opNames]⟩
      · exact ⟨_, rfl, by simp [opNames]⟩
      · exact ⟨_, rfl, by simp [opNames]⟩
      · exact ⟨_, rfl, by simp [opNames]⟩
    obtain ⟨o, ho, hm⟩ := hw
    repeat walk_at "u"
    rw [eN]
    refine i_part h1 h2 h3 h4 fun q z hq => ?_
    have hqn := q.noF
    repeat walk_at "u"
    exact k (.two o p q) z ⟨hm, hp, hq⟩
abbrev ms__law_ending : List Bool := [true, false, false, false, false]
def m__law_ending : USp := fun ds P => ∃ x y xs m b many, ds = [purse x y, .lst false (List.map .str xs), .int m, .int b, .int many] ∧ 0 < xs.length ∧ xs.length ≤ 1000 ∧ 2 ≤ m ∧ m ≤ 2 ^ 62 ∧ 0 ≤ b ∧ 0 < many ∧ many ≤ 2 ^ 62 ∧ ∀ (w : End) z, w.ok xs m many → P w.d [some (purse z y), none, none, none, none]
def U__law_ending : US :=
  (uSeq (uAsg (uCall ms__law_draw m__law_draw (uCons (uPlace' 0) (uCons (uC (.int 7)) uNil))) (uName 5))
  (uSeq (uAsg (uFn2 fIxL (uLst (uCons (uFn2 (fI (fun _ j => 0 < j) fun i j => .int (i % j)) (uFn2 (fI0 fun i j => .int (i + j)) (uPlace' 3) (uC (.int 1))) (uPlace' 4)) (uCons (uCall ms__law_draw m__law_draw (uCons (uPlace' 0) (uCons (uPlace' 4) uNil))) uNil))) (uCall ms__law_draw m__law_draw (uCons (uPlace' 0) (uCons (uC (.int 2)) uNil)))) (uName 6))
  (uSeq (uAsg (uFn2 fIxL (uLst (uCons (uFn2 (fI (fun _ j => 0 < j) fun i j => .int (i % j)) (uFn2 (fI0 fun i j => .int (i + j)) (uPlace' 3) (uC (.int 1))) (uPlace' 4)) (uCons (uCall ms__law_draw m__law_draw (uCons (uPlace' 0) (uCons (uPlace' 4) uNil))) uNil))) (uCall ms__law_draw m__law_draw (uCons (uPlace' 0) (uCons (uC (.int 2)) uNil)))) (uName 7))
  (uSeq (uIfS (uTest (uFn2 (fEq false) (uPlace' 5) (uC (.int 0))))
  (uRet (uTup (uCons (uC (.str "stop")) uNil)))
  uNext)
  (uSeq (uIfS (uTest (uFn2 (fI0 fun i j => .bl (decide (i < j))) (uPlace' 5) (uC (.int 3))))
  (uRet (uTup (uCons (uC (.str "go")) (uCons (uCopy 6) uNil))))
  uNext)
  (uRet (uTup (uCons (uC (.str "choose")) (uCons (uCall ms__law_part m__law_part (uCons (uPlace' 0) (uCons (uPlace' 1) (uCons (uPlace' 2) uNil)))) (uCons (uCopy 6) (uCons (uCopy 7) uNil)))))))))))
theorem pure__law_ending : ∀ ds P, ds.length = ms__law_ending.length → m__law_ending ds P → U__law_ending (ends0 ms__law_ending P) (start0 (8 - ms__law_ending.length) ds) := by
  rintro ds P - ⟨x, y, xs, m, b, many, rfl, h1, h2, h3, h4, b0, hm0, hm1, k⟩
  simp only [start0, ms__law_ending, List.map_cons, List.map_nil, List.length_cons, List.length_nil, Nat.reduceAdd, Nat.reduceSub, List.replicate, List.cons_append, List.nil_append]
  unfold U__law_ending
  have eN : frz (.lst false (xs.map D.str)) = .lst false (xs.map D.str) := by rw [q_frz1, frzL_str]
  have hb0 := Int.emod_nonneg (b + 1) (b := many) (by omega)
  have hb1 := Int.emod_lt_of_pos (b + 1) (b := many) hm0
  have pick : ∀ a c : Int, 0 ≤ a → a < many → 0 ≤ c → c < 2 → ∃ n : Int, atI [D.int ((b + 1) % many), D.int a] c = some (.int n) ∧ 0 ≤ n ∧ n < many := fun a c a0 a1 c0 c1 => by
    have : c = 0 ∨ c = 1 := by omega
    rcases this with rfl | rfl
    · exact ⟨_, rfl, hb0, hb1⟩
    · exact ⟨_, rfl, a0, a1⟩
  repeat walk_at "u"
  refine i_draw (by omega) (by omega) fun w z w0 w1 => ?_
  repeat walk_at "u"
  refine i_draw (by omega) (by omega) fun a z a0 a1 => ?_
  repeat walk_at "u"
  refine i_draw (by omega) (by omega) fun c z c0 c1 => ?_
  obtain ⟨one, e1, o0, o1⟩ := pick a c a0 a1 c0 c1
  repeat walk_at "u"
  refine i_draw (by omega) (by omega) fun a z a0 a1 => ?_
  repeat walk_at "u"
  refine i_draw (by omega) (by omega) fun c z c0 c1 => ?_
  obtain ⟨two, e2, t0, t1⟩ := pick a c a0 a1 c0 c1
  repeat walk_at "u"
  with_reducible refine i_ite ?_ ?_
  · intro h
    repeat walk_at "u"
    exact k .stop z trivial
  · intro h
    repeat walk_at "u"
    with_reducible refine i_ite ?_ ?_
    · intro h
      repeat walk_at "u"
      exact k (.go one) z ⟨o0, o1⟩
    · intro h
      repeat walk_at "u"
      rw [eN]
      refine i_part h1 h2 h3 h4 fun q z hq => ?_
      have hqn := q.noF
      repeat walk_at "u"
      exact k (.choose q one two) z ⟨hq, o0, o1, t0, t1⟩
def sD {α : Type} (f : α → D) (o : Bool) (l : List (Str × α)) : D := .dic o false (l.map fun p => .s (.inr p.1)) (l.map fun p => f p.2)
def sput {α : Type} : List (Str × α) → Str → α → List (Str × α)
  | [], x, v => [(x, v)]
  | (y, u) :: l, x, v => if y = x then (y, v) :: l else (y, u) :: sput l x v
theorem dfind_s {α : Type} {f : α → D} (x : Str) : ∀ l : List (Str × α), dfind (l.map fun p => DK.s (.inr p.1)) (l.map fun p => f p.2) (.s (.inr x)) = (l.lookup x).map f
  | [] => rfl
  | (y, u) :: l => by
    simp only [List.map_cons, dfind, List.lookup_cons]
    by_cases e : y = x
    · subst e; simp
    · have : (x == y) = false := by simpa using Ne.symm e
      rw [if_neg (by simpa using e), this, dfind_s x l]
theorem dput_s {α : Type} {f : α → D} (x : Str) (v : α) : ∀ l : List (Str × α), dput (l.map fun p => DK.s (.inr p.1)) (l.map fun p => f p.2) (.s (.inr x)) (f v) = ((sput l x v).map (fun p => DK.s (.inr p.1)), (sput l x v).map fun p => f p.2)
  | [] => rfl
  | (y, u) :: l => by
    simp only [List.map_cons, dput, sput]
    by_cases e : y = x
    · subst e; simp
    · rw [if_neg (by simpa using e), if_neg e, dput_s x v l]; rfl
theorem sput_len {α : Type} (x : Str) (v : α) : ∀ l : List (Str × α), (sput l x v).length ≤ l.length + 1
  | [] => by simp [sput]
  | (y, u) :: l => by
    simp only [sput]
    split
    · simp
    · simp; exact sput_len x v l
theorem sput_mem {α : Type} {x : Str} {v : α} {q : Str × α} : ∀ {l : List (Str × α)}, q ∈ sput l x v → q ∈ l ∨ q.2 = v
  | [], h => by simp [sput] at h; exact .inr (by rw [h])
  | (y, u) :: l, h => by
    simp only [sput] at h
    split at h
    · rcases List.mem_cons.mp h with h | h
      · exact .inr (by rw [h])
      · exact .inl (.tail _ h)
    · rcases List.mem_cons.mp h with h | h
      · exact .inl (by rw [h]; exact .head _)
      · exact (sput_mem h).imp (.tail _) id
abbrev envD := sD D.int
abbrev WEnv := List (Str × Int)
theorem env_frz (o : Bool) (W : WEnv) : VS.frz (envD o W) = envD false W := by
  simp only [envD, sD, q_frz3]
  rw [frzL_mapE (f := fun p : Str × Int => D.int p.2) (g := fun p => D.int p.2) fun _ => q_frz4]
theorem env_bareL (W : WEnv) : bareL (W.map fun p => D.int p.2) = true := bareL_map fun _ => rfl
theorem env_noF (W : WEnv) : VS.noF (envD true W) = true := by simp only [envD, sD, q_n3, noFL_map (f := fun p : Str × Int => D.int p.2) (fun _ => rfl)]; rfl
theorem ints_noF (T : List Int) : VS.noF (.lst true (T.map .int)) = true := by simp only [q_n1, noFL_map (f := D.int) (fun _ => rfl)]; rfl
def look (W : WEnv) (x : Str) : Int := (W.lookup x).getD 0
def Part.val (W : WEnv) : Part → Int | .num n => n | .name x => look W x
def opVal (o : Str) (a b m : Int) : Int := if o = "plus" then (a + b) % m else if o = "less" then (a - b) % m else if o = "times" then a * b % m else if o = "below" then (if a < b then 1 else 0) else (if a = b then 1 else 0)
def Worth.val (m : Int) (W : WEnv) : Worth → Int | .one p => p.val W | .two o p q => opVal o (p.val W) (q.val W) m
def deedS (m : Int) (s : WEnv × List Int) : Deed → WEnv × List Int | .put x w => (sput s.1 x (w.val m s.1), s.2) | .tell p => (s.1, s.2 ++ [p.val s.1])
def deedsS (m : Int) (dl : List Deed) (s : WEnv × List Int) : WEnv × List Int := dl.foldl (deedS m) s
def End.next (W : WEnv) : End → Int | .stop => -1 | .go a => a | .choose p a b => if p.val W = 0 then b else a
def Part.nb (m : Int) : Part → Prop | .num n => 0 ≤ n ∧ n < m | .name _ => True
def Worth.nb (m : Int) : Worth → Prop | .one p => p.nb m | .two o p q => o ∈ opNames ∧ p.nb m ∧ q.nb m
def Deed.nb (m : Int) : Deed → Prop | .put _ w => w.nb m | .tell p => p.nb m
def End.nb (m many : Int) : End → Prop | .stop => True | .go a => 0 ≤ a ∧ a < many | .choose p a b => p.nb m ∧ 0 ≤ a ∧ a < many ∧ 0 ≤ b ∧ b < many
def progNb (m : Int) (bs : List Blk) : Prop := ∀ b ∈ bs, (∀ d ∈ b.1, d.nb m) ∧ b.2.nb m bs.length
def envOk (m : Int) (W : WEnv) : Prop := ∀ p ∈ W, 0 ≤ p.2 ∧ p.2 < m
theorem lookup_mem {α : Type} {x : Str} {v : α} : ∀ {l : List (Str × α)}, l.lookup x = some v → (x, v) ∈ l
  | [], h => by simp at h
  | (y, u) :: l, h => by
    rw [List.lookup_cons] at h
    by_cases e : x = y
    · subst e; simp at h; rw [h]; exact .head _
    · have : (x == y) = false := by simpa using e
      rw [this] at h; exact .tail _ (lookup_mem h)
theorem look_ok {m : Int} {W : WEnv} (hm : 2 ≤ m) (h : envOk m W) (x : Str) : 0 ≤ look W x ∧ look W x < m := by
  unfold look
  cases e : W.lookup x with
  | none => exact ⟨Int.le_refl _, by simp; omega⟩
  | some v => exact h _ (lookup_mem e)
theorem Part.val_ok {m : Int} {W : WEnv} (hm : 2 ≤ m) (h : envOk m W) : ∀ {p : Part}, p.nb m → 0 ≤ p.val W ∧ p.val W < m
  | .num n, q => q
  | .name x, _ => look_ok hm h x
theorem opVal_ok {m a b : Int} {o : Str} (hm : 2 ≤ m) : 0 ≤ opVal o a b m ∧ opVal o a b m < m := by
  unfold opVal
  have h1 := fun z : Int => Int.emod_nonneg z (b := m) (by omega)
  have h2 := fun z : Int => Int.emod_lt_of_pos z (b := m) (by omega)
  (repeat' split) <;> first | exact ⟨h1 _, h2 _⟩ | omega
theorem Worth.val_ok {m : Int} {W : WEnv} (hm : 2 ≤ m) (h : envOk m W) : ∀ {w : Worth}, w.nb m → 0 ≤ w.val m W ∧ w.val m W < m
  | .one p, q => Part.val_ok hm h (p := p) q
  | .two o p q, _ => opVal_ok hm
theorem deedS_ok {m : Int} {W : WEnv} {T : List Int} {d : Deed} (hm : 2 ≤ m) (h : envOk m W) (hd : d.nb m) : envOk m (deedS m (W, T) d).1 := by
  cases d with
  | tell p => exact h
  | put x w =>
    intro q hq
    rcases sput_mem hq with z | z
    · exact h q z
    · rw [z]; exact Worth.val_ok hm h hd
theorem deedsS_ok {m : Int} (hm : 2 ≤ m) : ∀ {dl : List Deed} {W : WEnv} {T : List Int}, envOk m W → (∀ d ∈ dl, d.nb m) → envOk m (deedsS m dl (W, T)).1
  | [], W, T, h, _ => h
  | d :: dl, W, T, h, hd => deedsS_ok (T := (deedS m (W, T) d).2) hm (deedS_ok hm h (hd d (.head _))) fun x hx => hd x (.tail _ hx)
theorem deedS_len {m : Int} {W : WEnv} {T : List Int} {d : Deed} : (deedS m (W, T) d).1.length ≤ W.length + 1 ∧ (deedS m (W, T) d).2.length ≤ T.length + 1 := by
  cases d with
  | tell p => exact ⟨by simp [deedS], by simp [deedS]⟩
  | put x w => exact ⟨sput_len _ _ _, by simp [deedS]⟩
theorem deedsS_len {m : Int} : ∀ {dl : List Deed} {W : WEnv} {T : List Int}, (deedsS m dl (W, T)).1.length ≤ W.length + dl.length ∧ (deedsS m dl (W, T)).2.length ≤ T.length + dl.length
  | [], W, T => by simp [deedsS]
  | d :: dl, W, T => by
    have h1 := deedS_len (m := m) (W := W) (T := T) (d := d)
    have h2 := deedsS_len (m := m) (dl := dl) (W := (deedS m (W, T) d).1) (T := (deedS m (W, T) d).2)
    simp only [List.length_cons]
    exact ⟨Nat.le_trans h2.1 (by omega), Nat.le_trans h2.2 (by omega)⟩
abbrev ms_plus : List Bool := [false, false, false]
def m_plus : USp := fun ds P => ∃ a b m, ds = [.int a, .int b, .int m] ∧ 2 ≤ m ∧ -(2 ^ 62) < a ∧ a < 2 ^ 62 ∧ P (.int (opVal "plus" a b m)) [none, none, none]
def U_plus : US :=
  (uRet (uFn2 (fI (fun _ j => 0 < j) fun i j => .int (i % j)) (uFn2 (fI0 fun i j => .int (i + j)) (uPlace' 0) (uPlace' 1)) (uPlace' 2)))
theorem pure_plus : ∀ ds P, ds.length = ms_plus.length → m_plus ds P → U_plus (ends0 ms_plus P) (start0 (3 - ms_plus.length) ds) := by
  rintro ds P - ⟨a, b, m, rfl, hm, h1, h2, k⟩
  simp only [start0, ms_plus, List.map_cons, List.map_nil, List.length_cons, List.length_nil, Nat.reduceAdd, Nat.reduceSub, List.replicate, List.cons_append, List.nil_append]
  unfold U_plus
  repeat walk_at "u"
  exact k
abbrev ms_less : List Bool := [false, false, false]
def m_less : USp := fun ds P => ∃ a b m, ds = [.int a, .int b, .int m] ∧ 2 ≤ m ∧ -(2 ^ 62) < a ∧ a < 2 ^ 62 ∧ P (.int (opVal "less" a b m)) [none, none, none]
def U_less : US :=
  (uRet (uFn2 (fI (fun _ j => 0 < j) fun i j => .int (i % j)) (uFn2 (fI0 fun i j => .int (i - j)) (uPlace' 0) (uPlace' 1)) (uPlace' 2)))
theorem pure_less : ∀ ds P, ds.length = ms_less.length → m_less ds P → U_less (ends0 ms_less P) (start0 (3 - ms_less.length) ds) := by
  rintro ds P - ⟨a, b, m, rfl, hm, h1, h2, k⟩
  simp only [start0, ms_less, List.map_cons, List.map_nil, List.length_cons, List.length_nil, Nat.reduceAdd, Nat.reduceSub, List.replicate, List.cons_append, List.nil_append]
  unfold U_less
  repeat walk_at "u"
  exact k
abbrev ms_times : List Bool := [false, false, false]
def m_times : USp := fun ds P => ∃ a b m, ds = [.int a, .int b, .int m] ∧ 2 ≤ m ∧ -(2 ^ 62) < a ∧ a < 2 ^ 62 ∧ P (.int (opVal "times" a b m)) [none, none, none]
def U_times : US :=
  (uRet (uFn2 (fI (fun _ j => 0 < j) fun i j => .int (i % j)) (uFn2 (fI CMul fun i j => .int (i * j)) (uPlace' 0) (uPlace' 1)) (uPlace' 2)))
theorem pure_times : ∀ ds P, ds.length = ms_times.length → m_times ds P → U_times (ends0 ms_times P) (start0 (3 - ms_times.length) ds) := by
  rintro ds P - ⟨a, b, m, rfl, hm, h1, h2, k⟩
  simp only [start0, ms_times, List.map_cons, List.map_nil, List.length_cons, List.length_nil, Nat.reduceAdd, Nat.reduceSub, List.replicate, List.cons_append, List.nil_append]
  unfold U_times
  repeat walk_at "u"
  exact k
abbrev ms_below : List Bool := [false, false, false]
def m_below : USp := fun ds P => ∃ a b m, ds = [.int a, .int b, .int m] ∧ 2 ≤ m ∧ -(2 ^ 62) < a ∧ a < 2 ^ 62 ∧ P (.int (opVal "below" a b m)) [none, none, none]
def U_below : US :=
  (uRet (uIf (uTest (uFn2 (fI0 fun i j => .bl (decide (i < j))) (uPlace' 0) (uPlace' 1))) (uC (.int 1)) (uC (.int 0))))
theorem pure_below : ∀ ds P, ds.length = ms_below.length → m_below ds P → U_below (ends0 ms_below P) (start0 (3 - ms_below.length) ds) := by
  rintro ds P - ⟨a, b, m, rfl, hm, h1, h2, k⟩
  simp only [start0, ms_below, List.map_cons, List.map_nil, List.length_cons, List.length_nil, Nat.reduceAdd, Nat.reduceSub, List.replicate, List.cons_append, List.nil_append]
  unfold U_below
  unfold opVal at k
  rw [if_neg (by decide +kernel), if_neg (by decide +kernel), if_neg (by decide +kernel), if_pos rfl] at k
  repeat walk_at "u"
  with_reducible refine i_ite ?_ ?_
  · intro h
    rw [if_pos (of_decide_eq_true h)] at k
    repeat walk_at "u"
    exact k
  · intro h
    rw [if_neg (of_decide_eq_false h)] at k
    repeat walk_at "u"
    exact k
abbrev ms_same : List Bool := [false, false, false]
def m_same : USp := fun ds P => ∃ a b m, ds = [.int a, .int b, .int m] ∧ 2 ≤ m ∧ -(2 ^ 62) < a ∧ a < 2 ^ 62 ∧ P (.int (opVal "same" a b m)) [none, none, none]
def U_same : US :=
  (uRet (uIf (uTest (uFn2 (fEq false) (uPlace' 0) (uPlace' 1))) (uC (.int 1)) (uC (.int 0))))
theorem pure_same : ∀ ds P, ds.length = ms_same.length → m_same ds P → U_same (ends0 ms_same P) (start0 (3 - ms_same.length) ds) := by
  rintro ds P - ⟨a, b, m, rfl, hm, h1, h2, k⟩
  simp only [start0, ms_same, List.map_cons, List.map_nil, List.length_cons, List.length_nil, Nat.reduceAdd, Nat.reduceSub, List.replicate, List.cons_append, List.nil_append]
  unfold U_same
  unfold opVal at k
  rw [if_neg (by decide +kernel), if_neg (by decide +kernel), if_neg (by decide +kernel), if_neg (by decide +kernel)] at k
  repeat walk_at "u"
  with_reducible refine i_ite ?_ ?_
  · intro h
    rw [if_pos (of_decide_eq_true h)] at k
    repeat walk_at "u"
    exact k
  · intro h
    rw [if_neg (of_decide_eq_false h)] at k
    repeat walk_at "u"
    exact k
def opS (a_plus a_less a_times a_below a_same : Addr) : Addr → USp → Prop := fun a m => (a = a_plus ∧ m = m_plus) ∨ (a = a_less ∧ m = m_less) ∨ (a = a_times ∧ m = m_times) ∨ (a = a_below ∧ m = m_below) ∨ (a = a_same ∧ m = m_same)
theorem opS_at {a1 a2 a3 a4 a5 : Addr} {o : Str} (h : o ∈ opNames) : ∃ a mm, ([("plus", a1), ("less", a2), ("times", a3), ("below", a4), ("same", a5)] : List (Str × Addr)).lookup o = some a ∧ opS a1 a2 a3 a4 a5 a mm ∧ ∀ (x y m : Int) (P : D → VEnv → Prop), 2 ≤ m → -(2 ^ 62) < x → x < 2 ^ 62 → P (.int (opVal o x y m)) [none, none, none] → mm [.int x, .int y, .int m] P := by
  simp only [opNames, List.mem_cons, List.not_mem_nil, or_false] at h
  rcases h with rfl | rfl | rfl | rfl | rfl
  · exact ⟨a1, _, by with_unfolding_all rfl, .inl ⟨rfl, rfl⟩, fun x y m P h1 h2 h3 k => ⟨x, y, m, rfl, h1, h2, h3, k⟩⟩
  · exact ⟨a2, _, by with_unfolding_all rfl, .inr (.inl ⟨rfl, rfl⟩), fun x y m P h1 h2 h3 k => ⟨x, y, m, rfl, h1, h2, h3, k⟩⟩
  · exact ⟨a3, _, by with_unfolding_all rfl, .inr (.inr (.inl ⟨rfl, rfl⟩)), fun x y m P h1 h2 h3 k => ⟨x, y, m, rfl, h1, h2, h3, k⟩⟩
  · exact ⟨a4, _, by with_unfolding_all rfl, .inr (.inr (.inr (.inl ⟨rfl, rfl⟩))), fun x y m P h1 h2 h3 k => ⟨x, y, m, rfl, h1, h2, h3, k⟩⟩
  · exact ⟨a5, _, by with_unfolding_all rfl, .inr (.inr (.inr (.inr ⟨rfl, rfl⟩))), fun x y m P h1 h2 h3 k => ⟨x, y, m, rfl, h1, h2, h3, k⟩⟩
theorem ops_in {o : Str} (h : o ∈ opNames) : (["plus", "less", "times", "below", "same"] : List Str).contains o = true := by
  simpa [opNames] using h
theorem ops_out {o : Str} (h : o = "number" ∨ o = "name") : (["plus", "less", "times", "below", "same"] : List Str).contains o = false := by
  rcases h with rfl | rfl <;> decide +kernel
theorem getD_int {o : Option Int} : (o.map D.int).getD (.int 0) = .int (o.getD 0) := by cases o <;> rfl
abbrev ms_part_now : List Bool := [false, false]
def m_part_now : USp := fun ds P => ∃ (p : Part) (W : WEnv), ds = [p.d, envD false W] ∧ P (.int (p.val W)) [none, none]
def U_part_now : US :=
  (uRet (uIf (uTest (uFn2 (fEq false) (uFn2 fIxT (uPlace' 0) (uC (.int 0))) (uC (.str "number")))) (uFn2 fIxT (uPlace' 0) (uC (.int 1))) (uGet2 (uPlace' 1) (uFn2 fIxT (uPlace' 0) (uC (.int 1))) (uC (.int 0)))))
theorem pure_part_now : ∀ ds P, ds.length = ms_part_now.length → m_part_now ds P → U_part_now (ends0 ms_part_now P) (start0 (2 - ms_part_now.length) ds) := by
  rintro ds P - ⟨p, W, rfl, k⟩
  simp only [start0, ms_part_now, List.map_cons, List.map_nil, List.length_cons, List.length_nil, Nat.reduceAdd, Nat.reduceSub, List.replicate, List.cons_append, List.nil_append]
  unfold U_part_now
  cases p with
  | num n =>
    simp only [Part.d] at k ⊢
    have hb : VS.bare (.str "number") = true := rfl
    repeat walk_at "u"
    exact k
  | name x =>
    simp only [Part.d, envD, sD] at k ⊢
    have e : eqS (.str "name") (.str "number") = some false := by decide +kernel
    have hg : ((dfind (W.map fun p => DK.s (.inr p.1)) (W.map fun p => D.int p.2) (.s (.inr x))).getD (.int 0)) = .int (look W x) := by rw [dfind_s (f := D.int), getD_int]; rfl
    repeat walk_at "u"
    rw [hg]
    repeat walk_at "u"
    exact k
theorem i_part_now {p : Part} {W : WEnv} {P : D → VEnv → Prop} (k : P (.int (p.val W)) [none, none]) : m_part_now [p.d, envD false W] P := ⟨p, W, rfl, k⟩
abbrev ms_worth_now : List Bool := [false, false, false]
def m_worth_now : USp := fun ds P => ∃ (w : Worth) (W : WEnv) (m : Int), ds = [w.d, envD false W, .int m] ∧ 2 ≤ m ∧ m ≤ 2 ^ 61 ∧ w.nb m ∧ envOk m W ∧ P (.int (w.val m W)) [none, none, none]
def U_worth_now (a_plus a_less a_times a_below a_same : Addr) : US :=
  (uSeq (uIfS (uTest (uMIn true ["plus", "less", "times", "below", "same"] (uFn2 fIxT (uPlace' 0) (uC (.int 0)))))
  (uRet (uCall ms_part_now m_part_now (uCons (uPlace' 0) (uCons (uPlace' 1) uNil))))
  uNext)
  (uSeq (uAsg (uMGet [("plus", a_plus), ("less", a_less), ("times", a_times), ("below", a_below), ("same", a_same)] (uFn2 fIxT (uPlace' 0) (uC (.int 0)))) (uName 3))
  (uRet (uCallL 3 (opS a_plus a_less a_times a_below a_same) ms_plus (uCons (uCall ms_part_now m_part_now (uCons (uFn2 fIxT (uPlace' 0) (uC (.int 1))) (uCons (uPlace' 1) uNil))) (uCons (uCall ms_part_now m_part_now (uCons (uFn2 fIxT (uPlace' 0) (uC (.int 2))) (uCons (uPlace' 1) uNil))) (uCons (uPlace' 2) uNil)))))))
theorem pure_worth_now (a_plus a_less a_times a_below a_same : Addr) : ∀ ds P, ds.length = ms_worth_now.length → m_worth_now ds P → U_worth_now a_plus a_less a_times a_below a_same (ends0 ms_worth_now P) (start0 (4 - ms_worth_now.length) ds) := by
  rintro ds P - ⟨w, W, m, rfl, hm, hm2, hw, hW, k⟩
  simp only [start0, ms_worth_now, List.map_cons, List.map_nil, List.length_cons, List.length_nil, Nat.reduceAdd, Nat.reduceSub, List.replicate, List.cons_append, List.nil_append]
  unfold U_worth_now
  cases w with
  | one p =>
    obtain ⟨x, y, hx, e⟩ : ∃ (x : Str) (y : D), (x = "number" ∨ x = "name") ∧ (Worth.one p).d = .tup [.str x, y] := by
      cases p with
      | num n => exact ⟨_, _, .inl rfl, rfl⟩
      | name n => exact ⟨_, _, .inr rfl, rfl⟩
    have ep : p.d = .tup [.str x, y] := e
    rw [e]
    have hc := ops_out hx
    repeat walk_at "u"
    rw [hc]
    repeat walk_at "u"
    rw [← ep, Part.frz, env_frz]
    refine i_part_now ?_
    repeat walk_at "u"
    exact k
  | two o p q =>
    have hc := ops_in hw.1
    obtain ⟨a, mm, h1, h2, h3⟩ := opS_at (a1 := a_plus) (a2 := a_less) (a3 := a_times) (a4 := a_below) (a5 := a_same) hw.1
    simp only [Worth.d] at k ⊢
    have hb1 := p.bare
    have hb2 := q.bare
    have hv := Part.val_ok hm hW hw.2.1
    repeat walk_at "u"
    rw [hc]
    repeat walk_at "u"
    rw [Part.frz, env_frz]
    refine i_part_now ?_
    repeat walk_at "u"
    rw [Part.frz, env_frz]
    refine i_part_now ?_
    repeat walk_at "u"
    refine h3 _ _ _ _ hm (by omega) (by omega) ?_
    repeat walk_at "u"
    exact k
abbrev ms_led_on : List Bool := [false, false]
def m_led_on : USp := fun ds P => ∃ (e : End) (W : WEnv), ds = [e.d, envD false W] ∧ e ≠ .stop ∧ P (.int (e.next W)) [none, none]
def U_led_on : US :=
  (uSeq (uIfS (uTest (uFn2 (fEq false) (uFn2 fIxT (uPlace' 0) (uC (.int 0))) (uC (.str "go"))))
  (uRet (uFn2 fIxT (uPlace' 0) (uC (.int 1))))
  uNext)
  (uRet (uIf (uTest (uFn2 (fEq true) (uCall ms_part_now m_part_now (uCons (uFn2 fIxT (uPlace' 0) (uC (.int 1))) (uCons (uPlace' 1) uNil))) (uC (.int 0)))) (uFn2 fIxT (uPlace' 0) (uC (.int 2))) (uFn2 fIxT (uPlace' 0) (uC (.int 3))))))
theorem pure_led_on : ∀ ds P, ds.length = ms_led_on.length → m_led_on ds P → U_led_on (ends0 ms_led_on P) (start0 (2 - ms_led_on.length) ds) := by
  rintro ds P - ⟨e, W, rfl, he, k⟩
  simp only [start0, ms_led_on, List.map_cons, List.map_nil, List.length_cons, List.length_nil, Nat.reduceAdd, Nat.reduceSub, List.replicate, List.cons_append, List.nil_append]
  unfold U_led_on
  cases e with
  | stop => exact absurd rfl he
  | go a =>
    simp only [End.d, End.next] at k ⊢
    repeat walk_at "u"
    exact k
  | choose p a b =>
    simp only [End.d, End.next] at k ⊢
    have e : eqS (.str "choose") (.str "go") = some false := by decide +kernel
    have hb := p.bare
    repeat walk_at "u"
    rw [Part.frz, env_frz]
    refine i_part_now ?_
    repeat walk_at "u"
    with_reducible refine i_ite ?_ ?_
    · intro h
      rw [if_neg (by simpa using h)] at k
      repeat walk_at "u"
      exact k
    · intro h
      rw [if_pos (by simpa using h)] at k
      repeat walk_at "u"
      exact k
theorem i_worth_now {w : Worth} {W : WEnv} {m : Int} {P : D → VEnv → Prop} (h1 : 2 ≤ m) (h2 : m ≤ 2 ^ 61) (h3 : w.nb m) (h4 : envOk m W) (k : P (.int (w.val m W)) [none, none, none]) : m_worth_now [w.d, envD false W, .int m] P := ⟨w, W, m, rfl, h1, h2, h3, h4, k⟩
theorem i_led_on {e : End} {W : WEnv} {P : D → VEnv → Prop} (h : e ≠ .stop) (k : P (.int (e.next W)) [none, none]) : m_led_on [e.d, envD false W] P := ⟨e, W, rfl, h, k⟩
theorem envT {W : WEnv} : envD true W = .dic true false (W.map fun p => DK.s (.inr p.1)) (W.map fun p => D.int p.2) := rfl
def runS (m : Int) (bs : List Blk) : Nat → Int → WEnv → List Int → List Int × Bool
  | 0, _, _, T => (T, false)
  | n + 1, b, W, T => match bs[b.toNat]? with
    | none => (T, false)
    | some blk => match blk.2 with
      | .stop => ((deedsS m blk.1 (W, T)).2, true)
      | e => runS m bs n (e.next (deedsS m blk.1 (W, T)).1) (deedsS m blk.1 (W, T)).1 (deedsS m blk.1 (W, T)).2
theorem End.next_ok {m many : Int} {W : WEnv} : ∀ {e : End}, e.nb m many → e ≠ .stop → 0 ≤ e.next W ∧ e.next W < many
  | .stop, _, h => absurd rfl h
  | .go a, h, _ => h
  | .choose p a b, h, _ => by obtain ⟨_, h1, h2, h3, h4⟩ := h; simp only [End.next]; split <;> exact ⟨by assumption, by assumption⟩
abbrev ms_do_deeds : List Bool := [false, true, true, false]
def m_do_deeds : USp := fun ds P => ∃ (dl : List Deed) (W : WEnv) (T : List Int) (m : Int), ds = [.lst false (dl.map Deed.d), envD true W, .lst true (T.map .int), .int m] ∧ 2 ≤ m ∧ m ≤ 2 ^ 61 ∧ (∀ d ∈ dl, d.nb m) ∧ envOk m W ∧ W.length + dl.length ≤ 900000 ∧ T.length + dl.length ≤ 900000 ∧ P .non [none, some (envD true (deedsS m dl (W, T)).1), some (.lst true ((deedsS m dl (W, T)).2.map .int)), none]
def U_do_deeds : US :=
  (uFor (uSrc itemsL (uPlace' 0)) (uName 4)
  (uIfS (uTest (uFn2 (fEq false) (uFn2 fIxT (uPlace' 4) (uC (.int 0))) (uC (.str "put"))))
  (uDPut 1 (uFn2 fIxT (uPlace' 4) (uC (.int 1))) (uCall ms_worth_now m_worth_now (uCons (uFn2 fIxT (uPlace' 4) (uC (.int 2))) (uCons (uPlace' 1) (uCons (uPlace' 3) uNil)))))
  (uAppend 2 (uCons (uCall ms_part_now m_part_now (uCons (uFn2 fIxT (uPlace' 4) (uC (.int 1))) (uCons (uPlace' 1) uNil))) uNil))))
theorem pure_do_deeds : ∀ ds P, ds.length = ms_do_deeds.length → m_do_deeds ds P → U_do_deeds (ends0 ms_do_deeds P) (start0 (5 - ms_do_deeds.length) ds) := by
  rintro ds P - ⟨dl, W, T, m, rfl, hm, hm2, hd, hW, hl1, hl2, k⟩
  simp only [start0, ms_do_deeds, List.map_cons, List.map_nil, List.length_cons, List.length_nil, Nat.reduceAdd, Nat.reduceSub, List.replicate, List.cons_append, List.nil_append]
  unfold U_do_deeds
  repeat walk_at "u"
  refine for_ind (fun xs e => ∃ (dl' : List Deed) (W' : WEnv) (T' : List Int) (o4 : Option D), xs = dl'.map Deed.d ∧ (∀ d ∈ dl', d.nb m) ∧ envOk m W' ∧ W'.length + dl'.length ≤ 900000 ∧ T'.length + dl'.length ≤ 900000 ∧ deedsS m dl' (W', T') = deedsS m dl (W, T) ∧ e = [some (.lst false (dl.map Deed.d)), some (envD true W'), some (.lst true (T'.map .int)), some (.int m), o4]) ?_ ?_ _ _ ⟨dl, W, T, _, rfl, hd, hW, hl1, hl2, rfl, rfl⟩
  · rintro e ⟨dl', W', T', o4, hx, -, -, -, -, he, rfl⟩
    have : dl' = [] := by simpa using hx.symm
    subst this
    rw [← he] at k
    repeat walk_at "u"
    exact k
  · rintro x xs e ih ⟨dl', W', T', o4, hx, hd, hW, hl1, hl2, he, rfl⟩
    cases dl' with
    | nil => simp at hx
    | cons d dl' =>
      simp only [List.map_cons, List.cons.injEq] at hx
      obtain ⟨rfl, rfl⟩ := hx
      simp only [List.length_cons] at hl1 hl2
      have hdd := hd d (.head _)
      have hl := deedS_len (m := m) (W := W') (T := T') (d := d)
      have hok := deedS_ok (T := T') hm hW hdd
      have nxt : ∀ o4, forU (uName 4) (uIfS (uTest (uFn2 (fEq false) (uFn2 fIxT (uPlace' 4) (uC (.int 0))) (uC (.str "put")))) (uDPut 1 (uFn2 fIxT (uPlace' 4) (uC (.int 1))) (uCall ms_worth_now m_worth_now (uCons (uFn2 fIxT (uPlace' 4) (uC (.int 2))) (uCons (uPlace' 1) (uCons (uPlace' 3) uNil))))) (uAppend 2 (uCons (uCall ms_part_now m_part_now (uCons (uFn2 fIxT (uPlace' 4) (uC (.int 1))) (uCons (uPlace' 1) uNil))) uNil))) (ends0 [false, true, true, false] P) (dl'.map Deed.d) [some (.lst false (dl.map Deed.d)), some (envD true (deedS m (W', T') d).1), some (.lst true ((deedS m (W', T') d).2.map .int)), some (.int m), o4] := fun o4 => ih _ ⟨dl', (deedS m (W', T') d).1, (deedS m (W', T') d).2, o4, rfl, fun x hx => hd x (.tail _ hx), hok, by omega, by omega, he, rfl⟩
      cases d with
      | put x w =>
        simp only [Deed.d] at nxt ⊢
        have hb := w.bare
        have hz : (W'.map fun p => D.int p.2).length ≤ 1000000 := by rw [List.length_map]; omega
        rw [envT]
        repeat walk_at "u"
        rw [Worth.frz, ← envT, env_frz]
        refine i_worth_now hm hm2 hdd hW ?_
        rw [envT]
        repeat walk_at "u"
        rw [dput_s (f := D.int)]
        exact nxt _
      | tell p =>
        simp only [Deed.d] at nxt ⊢
        have e1 : eqS (.str "tell") (.str "put") = some false := by decide +kernel
        have hb := p.bare
        have hz : (T'.map D.int).length ≤ 1000000 := by rw [List.length_map]; omega
        repeat walk_at "u"
        rw [Part.frz, env_frz]
        refine i_part_now ?_
        repeat walk_at "u"
        rw [show T'.map D.int ++ [D.int (p.val W')] = (T' ++ [p.val W']).map D.int by simp]
        exact nxt _
theorem i_do_deeds {dl : List Deed} {W : WEnv} {T : List Int} {m : Int} {P : D → VEnv → Prop} (h1 : 2 ≤ m) (h2 : m ≤ 2 ^ 61) (h3 : ∀ d ∈ dl, d.nb m) (h4 : envOk m W) (h5 : W.length + dl.length ≤ 900000) (h6 : T.length + dl.length ≤ 900000) (k : P .non [none, some (envD true (deedsS m dl (W, T)).1), some (.lst true ((deedsS m dl (W, T)).2.map .int)), none]) : m_do_deeds [.lst false (dl.map Deed.d), envD true W, .lst true (T.map .int), .int m] P := ⟨dl, W, T, m, rfl, h1, h2, h3, h4, h5, h6, k⟩
theorem deeds_frz (dl : List Deed) : VS.frz (.lst false (dl.map Deed.d)) = .lst false (dl.map Deed.d) := by rw [q_frz1, frzL_mapE Deed.frz]
theorem env_bare (W : WEnv) : VS.bare (envD false W) = true := by simp only [envD, sD, q_b3, bareL_map (f := fun p : Str × Int => D.int p.2) (fun _ => rfl)]; rfl
abbrev ms_run : List Bool := [false, false, false]
def m_run : USp := fun ds P => ∃ (m : Int) (bs : List Blk) (W : WEnv) (n K : Nat), ds = [progD false m bs, envD false W, .int n] ∧ 2 ≤ m ∧ m ≤ 2 ^ 61 ∧ 0 < bs.length ∧ progNb m bs ∧ envOk m W ∧ (∀ b ∈ bs, b.1.length ≤ K) ∧ W.length + n * K ≤ 900000 ∧ n ≤ 100000 ∧ P (.tup [.lst true ((runS m bs n 0 W []).1.map .int), .bl (runS m bs n 0 W []).2]) [none, none, none]
def U_run : US :=
  (uSeq (uAsg (uCopy 0) (uGTup 2 (uGCons (uName 3) (uGCons (uNameF 4) uGNil))))
  (uSeq (uAsg (uFn fDictOf (uCons (uPlace' 1) uNil)) (uName 5))
  (uSeq (uAsg (uLst uNil) (uName 6))
  (uSeq (uAsg (uC (.int 0)) (uName 7))
  (uSeq (uFor (uRng1 (uCons (uCopy 2) uNil)) (uName 8)
  (uSeq (uAsg (uFn2 fIxL (uPlace' 4) (uPlace' 7)) (uGTup 2 (uGCons (uNameF 9) (uGCons (uNameF 10) uGNil))))
  (uSeq (uDrop (uCall ms_do_deeds m_do_deeds (uCons (uPlace' 9) (uCons (uPlace' 5) (uCons (uPlace' 6) (uCons (uPlace' 3) uNil))))))
  (uSeq (uIfS (uTest (uFn2 (fEq false) (uFn2 fIxT (uPlace' 10) (uC (.int 0))) (uC (.str "stop"))))
  (uRet (uTup (uCons (uMove 6) (uCons (uC (.bl true)) uNil))))
  uNext)
  (uAsg (uCall ms_led_on m_led_on (uCons (uPlace' 10) (uCons (uPlace' 5) uNil))) (uName 7))))))
  (uRet (uTup (uCons (uMove 6) (uCons (uC (.bl false)) uNil)))))))))
theorem pure_run : ∀ ds P, ds.length = ms_run.length → m_run ds P → U_run (ends0 ms_run P) (start0 (11 - ms_run.length) ds) := by
  rintro ds P - ⟨m, bs, W, n, K, rfl, hm, hm2, hb0, hbs, hW, hK, hl, hn, k⟩
  simp only [start0, ms_run, List.map_cons, List.map_nil, List.length_cons, List.length_nil, Nat.reduceAdd, Nat.reduceSub, List.replicate, List.cons_append, List.nil_append]
  unfold U_run
  have hbb := bareL_map (xs := bs) blk_bare
  have hbb2 : VS.bare (.lst false (bs.map (blkD false))) = true := by rw [q_b1, hbb]; rfl
  have hWb := env_bareL W
  have hfz : VS.frz (.lst false (bs.map (blkD false))) = .lst false (bs.map (blkD false)) := by rw [q_frz1, frzL_mapE (blk_frz false)]
  have hpb := prog_bare m bs
  simp only [progD] at hpb ⊢
  rw [show envD false W = .dic false false (W.map fun p => DK.s (.inr p.1)) (W.map fun p => D.int p.2) from rfl]
  repeat walk_at "u"
  rw [hfz]
  repeat walk_at "u"
  rw [← envT]
  refine for_ind (fun xs e => ∃ (b : Int) (W' : WEnv) (T' : List Int) (o8 o9 o10 : Option D), 0 ≤ b ∧ b < bs.length ∧ envOk m W' ∧ W'.length + xs.length * K ≤ 900000 ∧ T'.length + xs.length * K ≤ 900000 ∧ runS m bs xs.length b W' T' = runS m bs n 0 W [] ∧ e = [some (progD false m bs), some (envD false W), some (.int n), some (.int m), some (.lst false (bs.map (blkD false))), some (envD true W'), some (.lst true (T'.map .int)), some (.int b), o8, o9, o10]) ?_ ?_ _ _ ⟨0, W, [], _, _, _, by omega, by omega, hW, ?_, ?_, ?_, rfl⟩
  · rintro e ⟨b, W', T', o8, o9, o10, hb, hb2, hW', hl1, hl2, hr, rfl⟩
    rw [← hr] at k
    repeat walk_at "u"
    exact k
  · rintro x xs e ih ⟨b, W', T', o8, o9, o10, hb, hb2, hW', hl1, hl2, hr, rfl⟩
    have hat : atI (bs.map (blkD false)) b = some (blkD false bs[b.toNat]) := atI_map hb hb2
    have hgt : bs[b.toNat]? = some bs[b.toNat] := List.getElem?_eq_getElem (by omega)
    have hmem : bs[b.toNat] ∈ bs := List.getElem_mem _
    generalize bs[b.toNat] = blk at hat hgt hmem
    obtain ⟨dl, e⟩ := blk
    have hbn := hbs _ hmem
    have hKl : dl.length ≤ K := hK _ hmem
    simp only [List.length_cons, Nat.add_mul, Nat.one_mul] at hl1 hl2 hr
    simp only [runS, hgt] at hr
    have hblk := blk_bare (dl, e)
    have hdb := bareL_map (xs := dl) Deed.bare
    have heb := e.bare
    have hdf := deeds_frz dl
    have hfe := e.frz
    simp only [blkD] at hat hblk
    repeat walk_at "u"
    rw [hdf, hfe]
    repeat walk_at "u"
    rw [hdf]
    refine i_do_deeds hm hm2 hbn.1 hW' (by omega) (by omega) ?_
    have hn1 := env_noF (deedsS m dl (W', T')).1
    have hn2 := ints_noF (deedsS m dl (W', T')).2
    repeat walk_at "u"
    refine ⟨by simp only [noFE, hn1, hn2]; rfl, ?_⟩
    have hlen := deedsS_len (m := m) (dl := dl) (W := W') (T := T')
    have hok := deedsS_ok (T := T') hm hW' hbn.1
    cases e with
    | stop =>
      simp only [] at hr
      rw [← hr] at k
      simp only [End.d]
      repeat walk_at "u"
      exact k
    | go a =>
      simp only [] at hr
      have e1 : eqS (.str "go") (.str "stop") = some false := by decide +kernel
      have hnx := End.next_ok (W := (deedsS m dl (W', T')).1) hbn.2 (by simp)
      simp only [End.d]
      repeat walk_at "u"
      rw [show (D.tup [D.str "go", D.int a]) = (End.go a).d from rfl, hfe, env_frz]
      refine i_led_on (by simp) ?_
      repeat walk_at "u"
      exact ih _ ⟨_, (deedsS m dl (W', T')).1, (deedsS m dl (W', T')).2, _, _, _, hnx.1, hnx.2, hok, by omega, by omega, hr, rfl⟩
    | choose p a b' =>
      simp only [] at hr
      have e1 : eqS (.str "choose") (.str "stop") = some false := by decide +kernel
      have hnx := End.next_ok (W := (deedsS m dl (W', T')).1) hbn.2 (by simp)
      simp only [End.d]
      repeat walk_at "u"
      rw [show (D.tup [D.str "choose", p.d, D.int a, D.int b']) = (End.choose p a b').d from rfl, hfe, env_frz]
      refine i_led_on (by simp) ?_
      repeat walk_at "u"
      exact ih _ ⟨_, (deedsS m dl (W', T')).1, (deedsS m dl (W', T')).2, _, _, _, hnx.1, hnx.2, hok, by omega, by omega, hr, rfl⟩
  · simp [intsD]; omega
  · simp [intsD]; omega
  · simp [intsD]
def End.parts : End → List Part | .choose p _ _ => [p] | _ => []
def Worth.parts : Worth → List Part | .one p => [p] | .two _ p q => [p, q]
def Deed.parts : Deed → List Part | .put _ w => w.parts | .tell p => [p]
def Part.names : Part → List Str | .name x => [x] | .num _ => []
def pnames (ps : List Part) : List Str := ps.flatMap Part.names
def Deed.names : Deed → List Str | .put x w => x :: pnames w.parts | .tell p => pnames [p]
def Blk.names (b : Blk) : List Str := b.1.flatMap Deed.names ++ pnames b.2.parts
def progNames (bs : List Blk) : List Str := bs.flatMap Blk.names
abbrev ms_parts_of_ending : List Bool := [false]
def m_parts_of_ending : USp := fun ds P => ∃ e : End, ds = [e.d] ∧ P (.lst true (e.parts.map Part.d)) [none]
def U_parts_of_ending : US :=
  (uRet (uIf (uTest (uFn2 (fEq false) (uFn2 fIxT (uPlace' 0) (uC (.int 0))) (uC (.str "choose")))) (uLst (uCons (uFn2 fIxT (uPlace' 0) (uC (.int 1))) uNil)) (uLst uNil)))
abbrev ms_parts_of_worth : List Bool := [false]
def m_parts_of_worth : USp := fun ds P => ∃ w : Worth, ds = [w.d] ∧ (∀ o p q, w = .two o p q → o ∈ opNames) ∧ P (.lst true (w.parts.map Part.d)) [none]
def U_parts_of_worth : US :=
  (uRet (uIf (uTest (uMIn false ["plus", "less", "times", "below", "same"] (uFn2 fIxT (uPlace' 0) (uC (.int 0))))) (uLst (uCons (uFn2 fIxT (uPlace' 0) (uC (.int 1))) (uCons (uFn2 fIxT (uPlace' 0) (uC (.int 2))) uNil))) (uLst (uCons (uCopy 0) uNil))))
def Worth.opOk (w : Worth) : Prop := ∀ o p q, w = .two o p q → o ∈ opNames
def Deed.opOk : Deed → Prop | .put _ w => w.opOk | .tell _ => True
theorem Worth.nb.op {m : Int} {w : Worth} (h : w.nb m) : w.opOk := fun o p q e => by subst e; exact h.1
theorem Deed.nb.op {m : Int} {d : Deed} (h : d.nb m) : d.opOk := by cases d with | put x w => exact Worth.nb.op (m := m) h | tell p => trivial
abbrev ms_parts_of_deed : List Bool := [false]
def m_parts_of_deed : USp := fun ds P => ∃ d : Deed, ds = [d.d] ∧ d.opOk ∧ P (.lst true (d.parts.map Part.d)) [none]
def U_parts_of_deed : US :=
  (uRet (uIf (uTest (uFn2 (fEq false) (uFn2 fIxT (uPlace' 0) (uC (.int 0))) (uC (.str "put")))) (uCall ms_parts_of_worth m_parts_of_worth (uCons (uFn2 fIxT (uPlace' 0) (uC (.int 2))) uNil)) (uLst (uCons (uFn2 fIxT (uPlace' 0) (uC (.int 1))) uNil))))
abbrev ms_names_used : List Bool := [false]
def m_names_used : USp := fun ds P => ∃ ps : List Part, ds = [.lst false (ps.map Part.d)] ∧ ps.length ≤ 100000 ∧ P (.lst true ((pnames ps).map .str)) [none]
def U_names_used : US :=
  (uRet (uComp 1 (uSrc itemsL (uPlace' 0)) (uName 0) (uTest (uFn2 (fEq false) (uFn2 fIxT (uPlace' 0) (uC (.int 0))) (uC (.str "name")))) (emitU (uFn2 fIxT (uPlace' 0) (uC (.int 1))))))
abbrev ms_names_of_deed : List Bool := [false]
def m_names_of_deed : USp := fun ds P => ∃ d : Deed, ds = [d.d] ∧ d.opOk ∧ P (.lst true (d.names.map .str)) [none]
def U_names_of_deed : US :=
  (uSeq (uAsg (uCall ms_names_used m_names_used (uCons (uCall ms_parts_of_deed m_parts_of_deed (uCons (uPlace' 0) uNil)) uNil)) (uName 1))
  (uRet (uIf (uTest (uFn2 (fEq false) (uFn2 fIxT (uPlace' 0) (uC (.int 0))) (uC (.str "put")))) (uFn2 fCat (uLst (uCons (uFn2 fIxT (uPlace' 0) (uC (.int 1))) uNil)) (uPlace' 1)) (uMove 1))))
abbrev ms_names_of : List Bool := [false]
def m_names_of : USp := fun ds P => ∃ (m : Int) (bs : List Blk) (xs : List Str), ds = [progD false m bs] ∧ (∀ b ∈ bs, ∀ d ∈ b.1, d.opOk) ∧ (progNames bs).length ≤ 4000 ∧ (∀ x ∈ progNames bs, x ∈ xs) ∧ xs.length < 64 ∧ ∀ ys : List Str, ys.Pairwise slt → (∀ x, x ∈ ys ↔ x ∈ progNames bs) → P (.lst true (ys.map .str)) [none]
def U_names_of : US :=
  (uSeq (uAsg (uLst uNil) (uName 1))
  (uSeq (uFor (uSrc itemsL (uFn2 fIxT (uPlace' 0) (uC (.int 1)))) (uGTup 2 (uGCons (uName 2) (uGCons (uName 3) uGNil)))
  (uSeq (uFor (uSrc itemsL (uPlace' 2)) (uName 4)
  (uExtend 1 (uCons (uCall ms_names_of_deed m_names_of_deed (uCons (uPlace' 4) uNil)) uNil)))
  (uExtend 1 (uCons (uCall ms_names_used m_names_used (uCons (uCall ms_parts_of_ending m_parts_of_ending (uCons (uPlace' 3) uNil)) uNil)) uNil))))
  (uRet (uSortSet (uPlace' 1)))))
theorem sIx_1 {n d : Nat} (h : 0 < n) : HT.sIx n d (some 1) = 1 := by
  unfold HT.sIx
  simp
  omega
theorem sIx_n {n d : Nat} : HT.sIx n d none = d := rfl
theorem cut1 {α : Type} {a : α} {ds : List α} : cutL (a :: ds) (some 1) none = ds := by
  unfold cutL
  rw [sIx_1 (by simp), sIx_n]
  simp
theorem notWhole1 {n : Nat} (h : 0 < n) : ¬ (HT.sIx n 0 (some 1) = 0 ∧ HT.sIx n n none = n) := fun z => by
  rw [sIx_1 h] at z
  omega
theorem sput_keys {α : Type} (x : Str) (v : α) : ∀ l : List (Str × α), ∀ y, y ∈ (sput l x v).map (·.1) ↔ y ∈ l.map (·.1) ∨ y = x
  | [], y => by simp [sput]
  | (z, u) :: l, y => by
    simp only [sput]
    split
    · rename_i e
      subst e
      simp only [List.map_cons, List.mem_cons]
      constructor
      · rintro (rfl | h)
        · exact .inl (.inl rfl)
        · exact .inl (.inr h)
      · rintro ((rfl | h) | rfl)
        · exact .inl rfl
        · exact .inr h
        · exact .inl rfl
    · simp only [List.map_cons, List.mem_cons, sput_keys x v l y]
      constructor
      · rintro (h | h | h) <;> simp [h]
      · rintro ((h | h) | h) <;> simp [h]
theorem sput_nodup {α : Type} (x : Str) (v : α) : ∀ l : List (Str × α), (l.map (·.1)).Nodup → ((sput l x v).map (·.1)).Nodup
  | [], _ => by simp [sput]
  | (z, u) :: l, h => by
    simp only [sput]
    simp only [List.map_cons, List.nodup_cons] at h
    split
    · simp only [List.map_cons, List.nodup_cons]; exact h
    · rename_i e
      simp only [List.map_cons, List.nodup_cons, sput_keys]
      exact ⟨fun q => q.elim h.1 e, sput_nodup x v l h.2⟩
structure GivOk (m : Int) (W : WEnv) : Prop where
  ok : envOk m W
  nd : (W.map (·.1)).Nodup
theorem GivOk.put {m v : Int} {W : WEnv} {x : Str} (h : GivOk m W) (h0 : 0 ≤ v) (h1 : v < m) : GivOk m (sput W x v) := ⟨fun q hq => by
  rcases sput_mem hq with z | z
  · exact h.ok q z
  · rw [z]; exact ⟨h0, h1⟩, sput_nodup x v W h.nd⟩
def Deed.tl : Deed → List D | .put x w => [.str x, w.d] | .tell p => [p.d]
theorem Deed.hd (d : Deed) : ∃ s : Str, d.d = .tup (.str s :: d.tl) := by cases d <;> exact ⟨_, rfl⟩
theorem Deed.tl_bare (d : Deed) : bareL d.tl = true := by cases d <;> simp only [Deed.tl, bareL_cons, bareL_nil, q_b5, Worth.bare, Part.bare, Bool.and_self]
theorem Deed.tl_frz (d : Deed) : frzL d.tl = d.tl := by cases d <;> simp only [Deed.tl, frzL_cons, frzL_nil, q_frz5, Worth.frz, Part.frz]
theorem Deed.tl_len (d : Deed) : d.tl.length ≤ 2 := by cases d <;> simp [Deed.tl]
def giv (d : D) : Prop := (∃ x, d = .str x) ∨ ∃ s r, d = .tup (.str s :: r) ∧ (s = "name" → ∃ x, r = [.str x])
theorem Part.giv (p : Part) : giv p.d := by
  cases p with
  | num n => exact .inr ⟨_, _, rfl, fun h => absurd h (by decide +kernel)⟩
  | name x => exact .inr ⟨_, _, rfl, fun _ => ⟨x, rfl⟩⟩
theorem Deed.giv {d : Deed} (h : d.opOk) : ∀ x ∈ d.tl, giv x := by
  cases d with
  | tell p => intro x hx; rw [List.mem_singleton.mp hx]; exact p.giv
  | put y w =>
    intro x hx
    rcases List.mem_cons.mp hx with rfl | hx
    · exact .inl ⟨_, rfl⟩
    · rw [List.mem_singleton.mp hx]
      cases w with
      | one p => exact p.giv
      | two o p q =>
        refine .inr ⟨o, _, rfl, fun e => ?_⟩
        have := h o p q rfl
        rw [e] at this
        exact absurd this (by decide +kernel)
abbrev ms__law_given : List Bool := [true, false]
def m__law_given : USp := fun ds P => ∃ (x y m : Int) (bs : List Blk), ds = [purse x y, progD false m bs] ∧ 2 ≤ m ∧ m ≤ 2 ^ 61 ∧ (∀ b ∈ bs, ∀ d ∈ b.1, d.opOk) ∧ (bs.flatMap (·.1)).length ≤ 10000 ∧ ∀ (W : WEnv) z, GivOk m W → W.length ≤ 1 + 2 * (bs.flatMap (·.1)).length → P (envD true W) [some (purse z y), none]
def U__law_given : US :=
  (uSeq (uAsg (uDisp1 (uC (.str "zzzzzz")) (uC (.int 1))) (uName 2))
  (uSeq (uFor (uSrc itemsL (uFn2 fIxT (uPlace' 1) (uC (.int 1)))) (uGTup 2 (uGCons (uName 3) (uGCons (uName 4) uGNil)))
  (uFor (uSrc itemsL (uPlace' 3)) (uName 5)
  (uFor (uSrc itemsT (uSlT (uPlace' 5) (uPart (uC (.int 1))) uNoPart)) (uName 6)
  (uSeq (uIfS (uAnd (uTruth (uIsi .str (uPlace' 6))) (uTest (uFn2 (fEq false) (uCall ms__law_draw m__law_draw (uCons (uPlace' 0) (uCons (uC (.int 2)) uNil))) (uC (.int 0)))))
  (uDPut 2 (uPlace' 6) (uCall ms__law_draw m__law_draw (uCons (uPlace' 0) (uCons (uFn2 fIxT (uPlace' 1) (uC (.int 0))) uNil))))
  uNext)
  (uIfS (uAnd (uTruth (uIsi .tup (uPlace' 6))) (uAnd (uTest (uFn2 (fEq false) (uFn2 fIxT (uPlace' 6) (uC (.int 0))) (uC (.str "name")))) (uTest (uFn2 (fI0 fun i j => .bl (decide (j < i))) (uCall ms__law_draw m__law_draw (uCons (uPlace' 0) (uCons (uC (.int 3)) uNil))) (uC (.int 0))))))
  (uDPut 2 (uFn2 fIxT (uPlace' 6) (uC (.int 1))) (uCall ms__law_draw m__law_draw (uCons (uPlace' 0) (uCons (uFn2 fIxT (uPlace' 1) (uC (.int 0))) uNil))))
  uNext)))))
  (uRet (uMove 2))))
theorem pure__law_given : ∀ ds P, ds.length = ms__law_given.length → m__law_given ds P → U__law_given (ends0 ms__law_given P) (start0 (7 - ms__law_given.length) ds) := by
  rintro ds P - ⟨x, y, m, bs, rfl, hm, hm2, ho, htot, k⟩
  simp only [start0, ms__law_given, List.map_cons, List.map_nil, List.length_cons, List.length_nil, Nat.reduceAdd, Nat.reduceSub, List.replicate, List.cons_append, List.nil_append]
  unfold U__law_given
  have hbb := bareL_map (xs := bs) blk_bare
  have hbb2 : VS.bare (.lst false (bs.map (blkD false))) = true := by rw [q_b1, hbb]; rfl
  have hfz : frzL (bs.map (blkD false)) = bs.map (blkD false) := frzL_mapE (blk_frz false)
  rw [show progD false m bs = .tup [.int m, .lst false (bs.map (blkD false))] from rfl]
  repeat walk_at "u"
  rw [hfz, show D.dic true false [.s (.inr "zzzzzz")] [D.int 1] = envD true [("zzzzzz", 1)] from rfl]
  refine for_ind (fun ws e => ∃ (post : List Blk) (z : Int) (W : WEnv) (o3 o4 o5 o6 : Option D), ws = post.map (blkD false) ∧ (∀ b ∈ post, ∀ d ∈ b.1, d.opOk) ∧ GivOk m W ∧ W.length + 2 * (post.flatMap (·.1)).length ≤ 1 + 2 * (bs.flatMap (·.1)).length ∧ e = [some (purse z y), some (.tup [.int m, .lst false (bs.map (blkD false))]), some (envD true W), o3, o4, o5, o6]) ?_ ?_ _ _ ⟨bs, x, [("zzzzzz", 1)], _, _, _, _, rfl, ho, ⟨fun q hq => ?_, by simp⟩, by simp only [List.length_cons, List.length_nil]; omega, rfl⟩
  · rintro e ⟨post, z, W, o3, o4, o5, o6, h1, h2, h3, h4, rfl⟩
    have : post = [] := by simpa using h1.symm
    subst this
    repeat walk_at "u"
    exact k W z h3 (by simp only [List.flatMap_nil, List.length_nil] at h4; omega)
  · rintro x ws e ih ⟨post, z, W, o3, o4, o5, o6, h1, h2, h3, h4, rfl⟩
    cases post with
    | nil => simp at h1
    | cons b post =>
      simp only [List.map_cons, List.cons.injEq] at h1
      obtain ⟨rfl, rfl⟩ := h1
      obtain ⟨dl, en⟩ := b
      have hbo := h2 (dl, en) (.head _)
      simp only [List.flatMap_cons, List.length_append] at h4
      simp only [blkD]
      repeat walk_at "u"
      refine for_ind (fun ws e => ∃ (dq : List Deed) (z : Int) (W : WEnv) (o5 o6 : Option D), ws = dq.map Deed.d ∧ (∀ d ∈ dq, d.opOk) ∧ GivOk m W ∧ W.length + 2 * dq.length + 2 * (post.flatMap (·.1)).length ≤ 1 + 2 * (bs.flatMap (·.1)).length ∧ e = [some (purse z y), some (.tup [.int m, .lst false (bs.map (blkD false))]), some (envD true W), some (.lst false (dl.map Deed.d)), some en.d, o5, o6]) ?_ ?_ _ _ ⟨dl, z, W, _, _, rfl, hbo, h3, by omega, rfl⟩
      · rintro e ⟨dq, z, W, o5, o6, h5, h6, h7, h8, rfl⟩
        have : dq = [] := by simpa using h5.symm
        subst this
        repeat walk_at "u"
        exact ih _ ⟨post, z, W, _, _, _, _, rfl, fun b hb => h2 b (.tail _ hb), h7, by simp only [List.length_nil] at h8; omega, rfl⟩
      · rintro x ws e ih2 ⟨dq, z, W, o5, o6, h5, h6, h7, h8, rfl⟩
        cases dq with
        | nil => simp at h5
        | cons d dq =>
          simp only [List.map_cons, List.cons.injEq] at h5
          obtain ⟨rfl, rfl⟩ := h5
          simp only [List.length_cons] at h8
          obtain ⟨s, hs⟩ := d.hd
          have htb := d.tl_bare
          have htf := d.tl_frz
          have htl := d.tl_len
          have htg := Deed.giv (h6 d (.head _))
          have hdb := d.bare
          rw [hs] at hdb ⊢
          have hb0 : bareL (D.str s :: d.tl) = true := by rw [bareL_cons, htb]; rfl
          have hnw : ¬ (HT.sIx (D.str s :: d.tl).length 0 (some 1) = 0 ∧ HT.sIx (D.str s :: d.tl).length (D.str s :: d.tl).length none = (D.str s :: d.tl).length) := notWhole1 (by simp)
          repeat walk_at "u"
          rw [cut1, htf]
          clear hb0 hnw hdb htb htf hs
          generalize d.tl = tl at htl htg ⊢
          refine for_ind (fun ws e => ∃ (z : Int) (W : WEnv) (o6 : Option D), (∀ x ∈ ws, giv x) ∧ GivOk m W ∧ W.length + ws.length + 2 * dq.length + 2 * (post.flatMap (·.1)).length ≤ 1 + 2 * (bs.flatMap (·.1)).length ∧ e = [some (purse z y), some (.tup [.int m, .lst false (bs.map (blkD false))]), some (envD true W), some (.lst false (dl.map Deed.d)), some en.d, some (.tup (.str s :: tl)), o6]) ?_ ?_ _ _ ⟨z, W, _, htg, h7, by omega, rfl⟩
          · rintro e ⟨z, W, o6, -, h9, h10, rfl⟩
            repeat walk_at "u"
            exact ih2 _ ⟨dq, z, W, _, _, rfl, fun d hd => h6 d (.tail _ hd), h9, by simp only [List.length_nil] at h10; omega, rfl⟩
          · rintro x ws e ih3 ⟨z, W, o6, h8, h9, h10, rfl⟩
            simp only [List.length_cons] at h10
            have hz : (W.map fun p => D.int p.2).length ≤ 1000000 := by rw [List.length_map]; omega
            have fin : ∀ (W' : WEnv) (z' : Int) (d6 : D), GivOk m W' → W'.length ≤ W.length + 1 → _ := fun W' z' d6 g1 g2 => ih3 [some (purse z' y), some (.tup [.int m, .lst false (bs.map (blkD false))]), some (envD true W'), some (.lst false (dl.map Deed.d)), some en.d, some (.tup (.str s :: tl)), some d6] ⟨z', W', _, fun x hx => h8 x (.tail _ hx), g1, by omega, rfl⟩
            rcases h8 x (.head _) with ⟨t, rfl⟩ | ⟨t, r, rfl, hr⟩
            · repeat walk_at "u"
              refine i_draw (by omega) (by omega) fun a z a0 a1 => ?_
              repeat walk_at "u"
              with_reducible refine i_ite ?_ ?_
              · intro h
                repeat walk_at "u"
                refine i_draw (by omega) (by omega) fun b z b0 b1 => ?_
                rw [envT]
                repeat walk_at "u"
                rw [dput_s (f := D.int)]
                exact fin _ _ _ (h9.put b0 b1) (sput_len _ _ _)
              · intro h
                repeat walk_at "u"
                exact fin _ _ _ h9 (by omega)
            · have hat : atI (D.str t :: r) 0 = some (.str t) := by rw [atI_0]; rfl
              repeat walk_at "u"
              with_reducible refine i_ite ?_ ?_
              · intro h
                have h : t = "name" := by simpa using h
                subst h
                obtain ⟨q, rfl⟩ := hr rfl
                repeat walk_at "u"
                refine i_draw (by omega) (by omega) fun a z a0 a1 => ?_
                repeat walk_at "u"
                with_reducible refine i_ite ?_ ?_
                · intro h
                  repeat walk_at "u"
                  refine i_draw (by omega) (by omega) fun b z b0 b1 => ?_
                  rw [envT]
                  repeat walk_at "u"
                  rw [dput_s (f := D.int)]
                  exact fin _ _ _ (h9.put b0 b1) (sput_len _ _ _)
                · intro h
                  repeat walk_at "u"
                  exact fin _ _ _ h9 (by omega)
              · intro h
                repeat walk_at "u"
                exact fin _ _ _ h9 (by omega)
  · rw [List.mem_singleton.mp hq]
    exact ⟨by decide, by omega⟩
section
variable {m : Int} {bs : List Blk}
def Agree (N : List Str) (W W' : WEnv) : Prop := ∀ x ∈ N, look W x = look W' x
theorem Part.agree {N : List Str} {W W' : WEnv} {p : Part} (h : Agree N W W') (hp : ∀ x ∈ p.names, x ∈ N) : p.val W = p.val W' := by
  cases p with
  | num n => rfl
  | name x => exact h x (hp x (.head _))
theorem Worth.agree {N : List Str} {W W' : WEnv} {w : Worth} (h : Agree N W W') (hp : ∀ x ∈ pnames w.parts, x ∈ N) : w.val m W = w.val m W' := by
  cases w with
  | one p => exact Part.agree h fun x hx => hp x (by simp [pnames, Worth.parts, hx])
  | two o p q =>
    simp only [Worth.val]
    rw [Part.agree (p := p) h fun x hx => hp x (by simp [pnames, Worth.parts, hx]), Part.agree (p := q) h fun x hx => hp x (by simp [pnames, Worth.parts, hx])]
theorem End.agree {N : List Str} {W W' : WEnv} {e : End} (h : Agree N W W') (he : ∀ x ∈ pnames e.parts, x ∈ N) : e.next W = e.next W' := by
  cases e with
  | stop => rfl
  | go a => rfl
  | choose p a b => simp only [End.next]; rw [Part.agree h fun x hx => he x (by simp [pnames, End.parts, hx])]
end
theorem Part.ok.nb {xs : List Str} {m : Int} {p : Part} (h : p.ok xs m) : p.nb m := by cases p with | num n => exact h | name x => trivial
theorem Worth.ok.nb {xs : List Str} {m : Int} {w : Worth} (h : w.ok xs m) : w.nb m := by cases w with | one p => exact Part.ok.nb (xs := xs) h | two o p q => exact ⟨h.1, h.2.1.nb, h.2.2.nb⟩
theorem Deed.ok.nb {xs : List Str} {m : Int} {d : Deed} (h : d.ok xs m) : d.nb m := by cases d with | put x w => exact h.2.nb | tell p => exact Part.ok.nb (xs := xs) h
theorem End.ok.nb {xs : List Str} {m many : Int} {e : End} (h : e.ok xs m many) : e.nb m many := by
  cases e with
  | stop => trivial
  | go a => exact h
  | choose p a b => exact ⟨h.1.nb, h.2⟩
theorem progOk.nb {xs : List Str} {m : Int} {bs : List Blk} (h : progOk xs m bs) : progNb m bs := fun b hb => ⟨fun d hd => ((h b hb).2.1 d hd).nb, (h b hb).2.2.nb⟩
theorem Part.ok.names {xs : List Str} {m : Int} {p : Part} (h : p.ok xs m) : ∀ x ∈ p.names, x ∈ xs := by
  cases p with
  | num n => intro x hx; cases hx
  | name y => intro x hx; rw [List.mem_singleton.mp hx]; exact h
theorem Worth.ok.names {xs : List Str} {m : Int} {w : Worth} (h : w.ok xs m) : ∀ x ∈ pnames w.parts, x ∈ xs := by
  intro x hx
  cases w with
  | one p => simp [pnames, Worth.parts] at hx; exact Part.ok.names (m := m) h x hx
  | two o p q =>
    simp [pnames, Worth.parts] at hx
    exact hx.elim (h.2.1.names x) (h.2.2.names x)
theorem Deed.ok.names {xs : List Str} {m : Int} {d : Deed} (h : d.ok xs m) : ∀ x ∈ d.names, x ∈ xs := by
  intro x hx
  cases d with
  | tell p => simp [Deed.names, pnames] at hx; exact Part.ok.names (m := m) h x hx
  | put y w =>
    rcases List.mem_cons.mp hx with rfl | hx
    · exact h.1
    · exact h.2.names x hx
theorem progOk.names {xs : List Str} {m : Int} {bs : List Blk} (h : progOk xs m bs) : ∀ x ∈ progNames bs, x ∈ xs := by
  intro x hx
  obtain ⟨b, hb, hx⟩ := List.mem_flatMap.mp hx
  rcases List.mem_append.mp hx with hx | hx
  · obtain ⟨d, hd, hx⟩ := List.mem_flatMap.mp hx
    exact ((h b hb).2.1 d hd).names x hx
  · have he := (h b hb).2.2
    cases hb2 : b.2 with
    | stop => rw [hb2] at hx; cases hx
    | go a => rw [hb2] at hx; cases hx
    | choose p a c =>
      rw [hb2] at hx he
      simp [pnames, End.parts] at hx
      exact he.1.names x hx
theorem progOk.deeds {xs : List Str} {m : Int} {bs : List Blk} (h : progOk xs m bs) : (bs.flatMap (·.1)).length ≤ bs.length * 8 := by
  have : ∀ l : List Blk, (∀ b ∈ l, b.1.length ≤ 8) → (l.flatMap (·.1)).length ≤ l.length * 8 := by
    intro l
    induction l with
    | nil => simp
    | cons b l ih =>
      intro hl
      have h1 := hl b (.head _)
      have h2 := ih fun x hx => hl x (.tail _ hx)
      rw [List.flatMap_cons, List.length_append, List.length_cons]; omega
  exact this bs fun b hb => (h b hb).1
theorem i_purse {L : Addr → List Int → Prop} {ns : List Int} {d : D} {P : D → VEnv → Prop} (hd : d = .lst false (ns.map .int) ∨ ∃ a, d = .fn a ∧ L a ns) (h : ns.length ≤ 100000) (k : ∀ x y, P (purse x y) [none]) : m__law_purse L [d] P := ⟨ns, d, rfl, hd, h, k⟩
theorem i_given {x y m : Int} {bs : List Blk} {P : D → VEnv → Prop} (h1 : 2 ≤ m) (h2 : m ≤ 2 ^ 61) (h3 : ∀ b ∈ bs, ∀ d ∈ b.1, d.opOk) (h4 : (bs.flatMap (·.1)).length ≤ 10000) (k : ∀ (W : WEnv) z, GivOk m W → W.length ≤ 1 + 2 * (bs.flatMap (·.1)).length → P (envD true W) [some (purse z y), none]) : m__law_given [purse x y, progD false m bs] P := ⟨x, y, m, bs, rfl, h1, h2, h3, h4, k⟩
abbrev ranD (o : Bool) (r : List Int × Bool) : D := .tup [.lst o (r.1.map .int), .bl r.2]
theorem i_run {m : Int} {bs : List Blk} {W : WEnv} {n K : Nat} {P : D → VEnv → Prop} (h1 : 2 ≤ m) (h2 : m ≤ 2 ^ 61) (h3 : 0 < bs.length) (h4 : progNb m bs) (h5 : envOk m W) (h6 : ∀ b ∈ bs, b.1.length ≤ K) (h7 : W.length + n * K ≤ 900000) (h8 : n ≤ 100000) (k : P (ranD true (runS m bs n 0 W [])) [none, none, none]) : m_run [progD false m bs, envD false W, .int n] P := ⟨m, bs, W, n, K, rfl, h1, h2, h3, h4, h5, h6, h7, h8, k⟩
theorem ran_noF (r : List Int × Bool) : VS.noF (ranD true r) = true := by rw [q_n2, noFL_cons, noFL_cons, noFL_nil, ints_noF]; rfl
theorem ran_frz (o : Bool) (r : List Int × Bool) : VS.frz (ranD o r) = ranD false r := by simp only [ranD, q_frz2, frzL_cons, frzL_nil, q_frz1, frzL_int, q_frz6]
theorem ran_ok (o : Bool) (r : List Int × Bool) : okE 60 (ranD o r) = true := by
  simp only [ranD, okE_t, okE_l, okEL_c, okEL_n, okEL_ints, okE_b, Bool.and_self]
theorem ran_eq (o o' : Bool) (r : List Int × Bool) : eqT (ranD o r) (ranD o' r) = true := eqT_frz (ran_ok o r) (by rw [ran_frz, ran_frz])
abbrev ms__law_at_part : List Bool := [false, false]
def m__law_at_part : USp := fun ds P => ∃ (p : Part) (W : WEnv), ds = [p.d, envD false W] ∧ P (.int (p.val W)) [none, none]
def U__law_at_part : US :=
  (uSeq (uIfS (uTest (uFn2 (fEq false) (uFn2 fIxT (uPlace' 0) (uC (.int 0))) (uC (.str "number"))))
  (uRet (uFn2 fIxT (uPlace' 0) (uC (.int 1))))
  uNext)
  (uRet (uGet2 (uPlace' 1) (uFn2 fIxT (uPlace' 0) (uC (.int 1))) (uC (.int 0)))))
theorem pure__law_at_part : ∀ ds P, ds.length = ms__law_at_part.length → m__law_at_part ds P → U__law_at_part (ends0 ms__law_at_part P) (start0 (2 - ms__law_at_part.length) ds) := by
  rintro ds P - ⟨p, W, rfl, k⟩
  simp only [start0, ms__law_at_part, List.map_cons, List.map_nil, List.length_cons, List.length_nil, Nat.reduceAdd, Nat.reduceSub, List.replicate, List.cons_append, List.nil_append]
  unfold U__law_at_part
  cases p with
  | num n =>
    simp only [Part.d] at k ⊢
    have hb : VS.bare (.str "number") = true := rfl
    repeat walk_at "u"
    exact k
  | name x =>
    simp only [Part.d, envD, sD] at k ⊢
    have e : eqS (.str "name") (.str "number") = some false := by decide +kernel
    have hg : ((dfind (W.map fun p => DK.s (.inr p.1)) (W.map fun p => D.int p.2) (.s (.inr x))).getD (.int 0)) = .int (look W x) := by rw [dfind_s (f := D.int), getD_int]; rfl
    repeat walk_at "u"
    rw [hg]
    repeat walk_at "u"
    exact k
theorem i_at_part {p : Part} {W : WEnv} {P : D → VEnv → Prop} (k : P (.int (p.val W)) [none, none]) : m__law_at_part [p.d, envD false W] P := ⟨p, W, rfl, k⟩
abbrev ms__law_at_worth : List Bool := [false, false, false]
def m__law_at_worth : USp := fun ds P => ∃ (w : Worth) (W : WEnv) (m : Int), ds = [w.d, envD false W, .int m] ∧ 2 ≤ m ∧ m ≤ 2 ^ 61 ∧ w.nb m ∧ envOk m W ∧ P (.int (w.val m W)) [none, none, none]
def U__law_at_worth : US :=
  (uSeq (uIfS (uTest (uFn2 (fIn false) (uFn2 fIxT (uPlace' 0) (uC (.int 0))) (uLst (uCons (uC (.str "number")) (uCons (uC (.str "name")) uNil)))))
  (uRet (uCall ms__law_at_part m__law_at_part (uCons (uPlace' 0) (uCons (uPlace' 1) uNil))))
  uNext)
  (uSeq (uAsg (uCall ms__law_at_part m__law_at_part (uCons (uFn2 fIxT (uPlace' 0) (uC (.int 1))) (uCons (uPlace' 1) uNil))) (uName 3))
  (uSeq (uAsg (uCall ms__law_at_part m__law_at_part (uCons (uFn2 fIxT (uPlace' 0) (uC (.int 2))) (uCons (uPlace' 1) uNil))) (uName 4))
  (uSeq (uIfS (uTest (uFn2 (fEq false) (uFn2 fIxT (uPlace' 0) (uC (.int 0))) (uC (.str "plus"))))
  (uRet (uFn2 (fI (fun _ j => 0 < j) fun i j => .int (i % j)) (uFn2 (fI0 fun i j => .int (i + j)) (uPlace' 3) (uPlace' 4)) (uPlace' 2)))
  uNext)
  (uSeq (uIfS (uTest (uFn2 (fEq false) (uFn2 fIxT (uPlace' 0) (uC (.int 0))) (uC (.str "less"))))
  (uRet (uFn2 (fI (fun _ j => 0 < j) fun i j => .int (i % j)) (uFn2 (fI0 fun i j => .int (i - j)) (uPlace' 3) (uPlace' 4)) (uPlace' 2)))
  uNext)
  (uSeq (uIfS (uTest (uFn2 (fEq false) (uFn2 fIxT (uPlace' 0) (uC (.int 0))) (uC (.str "times"))))
  (uRet (uFn2 (fI (fun _ j => 0 < j) fun i j => .int (i % j)) (uFn2 (fI CMul fun i j => .int (i * j)) (uPlace' 3) (uPlace' 4)) (uPlace' 2)))
  uNext)
  (uSeq (uIfS (uTest (uFn2 (fEq false) (uFn2 fIxT (uPlace' 0) (uC (.int 0))) (uC (.str "below"))))
  (uRet (uFn fInt (uCons (uFn2 (fI0 fun i j => .bl (decide (i < j))) (uPlace' 3) (uPlace' 4)) uNil)))
  uNext)
  (uRet (uFn fInt (uCons (uFn2 (fEq false) (uPlace' 3) (uPlace' 4)) uNil))))))))))
theorem pure__law_at_worth : ∀ ds P, ds.length = ms__law_at_worth.length → m__law_at_worth ds P → U__law_at_worth (ends0 ms__law_at_worth P) (start0 (5 - ms__law_at_worth.length) ds) := by
  rintro ds P - ⟨w, W, m, rfl, hm, hm2, hw, hW, k⟩
  simp only [start0, ms__law_at_worth, List.map_cons, List.map_nil, List.length_cons, List.length_nil, Nat.reduceAdd, Nat.reduceSub, List.replicate, List.cons_append, List.nil_append]
  unfold U__law_at_worth
  cases w with
  | one p =>
    obtain ⟨x, y, hx, e⟩ : ∃ (x : Str) (y : D), (x = "number" ∨ x = "name") ∧ (Worth.one p).d = .tup [.str x, y] := by
      cases p with
      | num n => exact ⟨_, _, .inl rfl, rfl⟩
      | name n => exact ⟨_, _, .inr rfl, rfl⟩
    have ep : p.d = .tup [.str x, y] := e
    rw [e]
    have hc : (([.str "number", .str "name"] : List D).any fun z => eqFl z (.str x)) = true := by rcases hx with rfl | rfl <;> decide +kernel
    repeat walk_at "u"
    rw [hc]
    repeat walk_at "u"
    rw [← ep, Part.frz, env_frz]
    refine i_at_part ?_
    repeat walk_at "u"
    exact k
  | two o p q =>
    have hb1 := p.bare
    have hb2 := q.bare
    have hv := Part.val_ok hm hW hw.2.1
    have hv2 := Part.val_ok hm hW hw.2.2
    have ho := hw.1
    simp only [opNames, List.mem_cons, List.not_mem_nil, or_false] at ho
    have hc : (([.str "number", .str "name"] : List D).any fun z => eqFl z (.str o)) = false := by rcases ho with rfl | rfl | rfl | rfl | rfl <;> decide +kernel
    simp only [Worth.d, Worth.val] at k ⊢
    repeat walk_at "u"
    rw [hc]
    repeat walk_at "u"
    rw [Part.frz, env_frz]
    refine i_at_part ?_
    repeat walk_at "u"
    rw [Part.frz, env_frz]
    refine i_at_part ?_
    generalize p.val W = a at k hv ⊢
    generalize q.val W = b at k hv2 ⊢
    rcases ho with rfl | rfl | rfl | rfl | rfl
    · simp only [opVal, if_pos] at k
      repeat walk_at "u"
      exact k
    · have e1 : eqS (.str "less") (.str "plus") = some false := by decide +kernel
      unfold opVal at k
      rw [if_neg (by decide +kernel), if_pos rfl] at k
      repeat walk_at "u"
      exact k
    · have e1 : eqS (.str "times") (.str "plus") = some false := by decide +kernel
      have e2 : eqS (.str "times") (.str "less") = some false := by decide +kernel
      unfold opVal at k
      rw [if_neg (by decide +kernel), if_neg (by decide +kernel), if_pos rfl] at k
      have hcm : CMul a b := CMul_l (by omega) (by omega)
      repeat walk_at "u"
      exact k
    · have e1 : eqS (.str "below") (.str "plus") = some false := by decide +kernel
      have e2 : eqS (.str "below") (.str "less") = some false := by decide +kernel
      have e3 : eqS (.str "below") (.str "times") = some false := by decide +kernel
      unfold opVal at k
      rw [if_neg (by decide +kernel), if_neg (by decide +kernel), if_neg (by decide +kernel), if_pos rfl] at k
      repeat walk_at "u"
      by_cases h : a < b
      · rw [if_pos h] at k
        simp only [h, decide_true]
        repeat walk_at "u"
        exact k
      · rw [if_neg h] at k
        simp only [h, decide_false]
        repeat walk_at "u"
        exact k
    · have e1 : eqS (.str "same") (.str "plus") = some false := by decide +kernel
      have e2 : eqS (.str "same") (.str "less") = some false := by decide +kernel
      have e3 : eqS (.str "same") (.str "times") = some false := by decide +kernel
      have e4 : eqS (.str "same") (.str "below") = some false := by decide +kernel
      unfold opVal at k
      rw [if_neg (by decide +kernel), if_neg (by decide +kernel), if_neg (by decide +kernel), if_neg (by decide +kernel)] at k
      repeat walk_at "u"
      by_cases h : a = b
      · rw [if_pos h] at k
        simp only [h, decide_true]
        repeat walk_at "u"
        exact k
      · rw [if_neg h] at k
        simp only [h, decide_false]
        repeat walk_at "u"
        exact k
theorem i_at_worth {w : Worth} {W : WEnv} {m : Int} {P : D → VEnv → Prop} (h1 : 2 ≤ m) (h2 : m ≤ 2 ^ 61) (h3 : w.nb m) (h4 : envOk m W) (k : P (.int (w.val m W)) [none, none, none]) : m__law_at_worth [w.d, envD false W, .int m] P := ⟨w, W, m, rfl, h1, h2, h3, h4, k⟩
abbrev ms__law_block : List Bool := [false, false, true, false, true]
def m__law_block : USp := fun ds P => ∃ (dl : List Deed) (e : End) (W : WEnv) (T : List Int) (m : Int), ds = [.lst false (dl.map Deed.d), e.d, envD true W, .int m, .lst true (T.map .int)] ∧ 2 ≤ m ∧ m ≤ 2 ^ 61 ∧ (∀ d ∈ dl, d.nb m) ∧ envOk m W ∧ W.length + dl.length ≤ 900000 ∧ T.length + dl.length ≤ 900000 ∧ P (.int (e.next (deedsS m dl (W, T)).1)) [none, none, some (envD true (deedsS m dl (W, T)).1), none, some (.lst true ((deedsS m dl (W, T)).2.map .int))]
def U__law_block : US :=
  (uSeq (uFor (uSrc itemsL (uPlace' 0)) (uName 5)
  (uIfS (uTest (uFn2 (fEq false) (uFn2 fIxT (uPlace' 5) (uC (.int 0))) (uC (.str "put"))))
  (uDPut 2 (uFn2 fIxT (uPlace' 5) (uC (.int 1))) (uCall ms__law_at_worth m__law_at_worth (uCons (uFn2 fIxT (uPlace' 5) (uC (.int 2))) (uCons (uPlace' 2) (uCons (uPlace' 3) uNil)))))
  (uAppend 4 (uCons (uCall ms__law_at_part m__law_at_part (uCons (uFn2 fIxT (uPlace' 5) (uC (.int 1))) (uCons (uPlace' 2) uNil))) uNil))))
  (uSeq (uIfS (uTest (uFn2 (fEq false) (uFn2 fIxT (uPlace' 1) (uC (.int 0))) (uC (.str "stop"))))
  (uRet (uFn1 (fU fun i => .int (-i)) (uC (.int 1))))
  uNext)
  (uSeq (uIfS (uTest (uFn2 (fEq false) (uFn2 fIxT (uPlace' 1) (uC (.int 0))) (uC (.str "go"))))
  (uRet (uFn2 fIxT (uPlace' 1) (uC (.int 1))))
  uNext)
  (uSeq (uIfS (uTest (uFn2 (fEq false) (uCall ms__law_at_part m__law_at_part (uCons (uFn2 fIxT (uPlace' 1) (uC (.int 1))) (uCons (uPlace' 2) uNil))) (uC (.int 0))))
  (uRet (uFn2 fIxT (uPlace' 1) (uC (.int 3))))
  uNext)
  (uRet (uFn2 fIxT (uPlace' 1) (uC (.int 2))))))))
theorem pure__law_block : ∀ ds P, ds.length = ms__law_block.length → m__law_block ds P → U__law_block (ends0 ms__law_block P) (start0 (6 - ms__law_block.length) ds) := by
  rintro ds P - ⟨dl, en, W, T, m, rfl, hm, hm2, hd, hW, hl1, hl2, k⟩
  simp only [start0, ms__law_block, List.map_cons, List.map_nil, List.length_cons, List.length_nil, Nat.reduceAdd, Nat.reduceSub, List.replicate, List.cons_append, List.nil_append]
  unfold U__law_block
  have heb := en.bare
  repeat walk_at "u"
  refine for_ind (fun xs e => ∃ (dl' : List Deed) (W' : WEnv) (T' : List Int) (o4 : Option D), xs = dl'.map Deed.d ∧ (∀ d ∈ dl', d.nb m) ∧ envOk m W' ∧ W'.length + dl'.length ≤ 900000 ∧ T'.length + dl'.length ≤ 900000 ∧ deedsS m dl' (W', T') = deedsS m dl (W, T) ∧ e = [some (.lst false (dl.map Deed.d)), some en.d, some (envD true W'), some (.int m), some (.lst true (T'.map .int)), o4]) ?_ ?_ _ _ ⟨dl, W, T, _, rfl, hd, hW, hl1, hl2, rfl, rfl⟩
  · rintro e ⟨dl', W', T', o4, hx, -, -, -, -, he, rfl⟩
    have : dl' = [] := by simpa using hx.symm
    subst this
    rw [← he] at k
    simp only [deedsS, List.foldl_nil] at k
    cases en with
    | stop =>
      simp only [End.d, End.next] at k ⊢
      repeat walk_at "u"
      exact k
    | go a =>
      have e1 : eqS (.str "go") (.str "stop") = some false := by decide +kernel
      simp only [End.d, End.next] at k ⊢
      repeat walk_at "u"
      exact k
    | choose p a b =>
      have e1 : eqS (.str "choose") (.str "stop") = some false := by decide +kernel
      have e2 : eqS (.str "choose") (.str "go") = some false := by decide +kernel
      have hb := p.bare
      simp only [End.d, End.next] at k ⊢
      repeat walk_at "u"
      rw [Part.frz, env_frz]
      refine i_at_part ?_
      by_cases h : p.val W' = 0
      · rw [if_pos h] at k
        rw [h]
        repeat walk_at "u"
        exact k
      · rw [if_neg h] at k
        repeat walk_at "u"
        with_reducible refine i_ite ?_ ?_
        · intro h'; exact absurd (by simpa using h') h
        · intro _
          repeat walk_at "u"
          exact k
  · rintro x xs e ih ⟨dl', W', T', o4, hx, hd, hW, hl1, hl2, he, rfl⟩
    cases dl' with
    | nil => simp at hx
    | cons d dl' =>
      simp only [List.map_cons, List.cons.injEq] at hx
      obtain ⟨rfl, rfl⟩ := hx
      simp only [List.length_cons] at hl1 hl2
      have hdd := hd d (.head _)
      have hl := deedS_len (m := m) (W := W') (T := T') (d := d)
      have hok := deedS_ok (T := T') hm hW hdd
      have nxt := fun o4 => ih [some (.lst false (dl.map Deed.d)), some en.d, some (envD true (deedS m (W', T') d).1), some (.int m), some (.lst true ((deedS m (W', T') d).2.map .int)), o4] ⟨dl', (deedS m (W', T') d).1, (deedS m (W', T') d).2, o4, rfl, fun x hx => hd x (.tail _ hx), hok, by omega, by omega, he, rfl⟩
      cases d with
      | put x w =>
        simp only [Deed.d] at nxt ⊢
        have hb := w.bare
        have hz : (W'.map fun p => D.int p.2).length ≤ 1000000 := by rw [List.length_map]; omega
        rw [envT]
        repeat walk_at "u"
        rw [Worth.frz, ← envT, env_frz]
        refine i_at_worth hm hm2 hdd hW ?_
        rw [envT]
        repeat walk_at "u"
        rw [dput_s (f := D.int)]
        exact nxt _
      | tell p =>
        simp only [Deed.d] at nxt ⊢
        have e1 : eqS (.str "tell") (.str "put") = some false := by decide +kernel
        have hb := p.bare
        have hz : (T'.map D.int).length ≤ 1000000 := by rw [List.length_map]; omega
        repeat walk_at "u"
        rw [Part.frz, env_frz]
        refine i_at_part ?_
        repeat walk_at "u"
        rw [show T'.map D.int ++ [D.int (p.val W')] = (T' ++ [p.val W']).map D.int by simp]
        exact nxt _
theorem i_block {dl : List Deed} {e : End} {W : WEnv} {T : List Int} {m : Int} {P : D → VEnv → Prop} (h1 : 2 ≤ m) (h2 : m ≤ 2 ^ 61) (h3 : ∀ d ∈ dl, d.nb m) (h4 : envOk m W) (h5 : W.length + dl.length ≤ 900000) (h6 : T.length + dl.length ≤ 900000) (k : P (.int (e.next (deedsS m dl (W, T)).1)) [none, none, some (envD true (deedsS m dl (W, T)).1), none, some (.lst true ((deedsS m dl (W, T)).2.map .int))]) : m__law_block [.lst false (dl.map Deed.d), e.d, envD true W, .int m, .lst true (T.map .int)] P := ⟨dl, e, W, T, m, rfl, h1, h2, h3, h4, h5, h6, k⟩
abbrev ms__law_run : List Bool := [false, false, false]
def m__law_run : USp := fun ds P => ∃ (m : Int) (bs : List Blk) (W : WEnv) (n K : Nat), ds = [progD false m bs, envD false W, .int n] ∧ 2 ≤ m ∧ m ≤ 2 ^ 61 ∧ 0 < bs.length ∧ progNb m bs ∧ envOk m W ∧ (∀ b ∈ bs, b.1.length ≤ K) ∧ W.length + n * K ≤ 900000 ∧ n ≤ 100000 ∧ P (.tup [.lst true ((runS m bs n 0 W []).1.map .int), .bl (runS m bs n 0 W []).2]) [none, none, none]
def U__law_run : US :=
  (uSeq (uAsg (uFn1 fDCopy (uPlace' 1)) (uName 3))
  (uSeq (uAsg (uLst uNil) (uName 4))
  (uSeq (uAsg (uC (.int 0)) (uName 5))
  (uSeq (uFor (uRng1 (uCons (uCopy 2) uNil)) (uName 6)
  (uSeq (uAsg (uFn2 fIxL (uFn2 fIxT (uPlace' 0) (uC (.int 1))) (uPlace' 5)) (uGTup 2 (uGCons (uNameF 7) (uGCons (uNameF 8) uGNil))))
  (uSeq (uAsg (uCall ms__law_block m__law_block (uCons (uPlace' 7) (uCons (uPlace' 8) (uCons (uPlace' 3) (uCons (uFn2 fIxT (uPlace' 0) (uC (.int 0))) (uCons (uPlace' 4) uNil)))))) (uName 5))
  (uIfS (uTest (uFn2 (fI0 fun i j => .bl (decide (i < j))) (uPlace' 5) (uC (.int 0))))
  (uRet (uTup (uCons (uMove 4) (uCons (uC (.bl true)) uNil))))
  uNext))))
  (uRet (uTup (uCons (uMove 4) (uCons (uC (.bl false)) uNil))))))))
theorem pure__law_run : ∀ ds P, ds.length = ms__law_run.length → m__law_run ds P → U__law_run (ends0 ms__law_run P) (start0 (9 - ms__law_run.length) ds) := by
  rintro ds P - ⟨m, bs, W, n, K, rfl, hm, hm2, hb0, hbs, hW, hK, hl, hn, k⟩
  simp only [start0, ms__law_run, List.map_cons, List.map_nil, List.length_cons, List.length_nil, Nat.reduceAdd, Nat.reduceSub, List.replicate, List.cons_append, List.nil_append]
  unfold U__law_run
  have hbb := bareL_map (xs := bs) blk_bare
  have hbb2 : VS.bare (.lst false (bs.map (blkD false))) = true := by rw [q_b1, hbb]; rfl
  have hWb := env_bareL W
  have hpb := prog_bare m bs
  simp only [progD] at hpb ⊢
  rw [show envD false W = .dic false false (W.map fun p => DK.s (.inr p.1)) (W.map fun p => D.int p.2) from rfl]
  repeat walk_at "u"
  rw [← envT]
  refine for_ind (fun xs e => ∃ (b : Int) (W' : WEnv) (T' : List Int) (o8 o9 o10 : Option D), 0 ≤ b ∧ b < bs.length ∧ envOk m W' ∧ W'.length + xs.length * K ≤ 900000 ∧ T'.length + xs.length * K ≤ 900000 ∧ runS m bs xs.length b W' T' = runS m bs n 0 W [] ∧ e = [some (progD false m bs), some (envD false W), some (.int n), some (envD true W'), some (.lst true (T'.map .int)), some (.int b), o8, o9, o10]) ?_ ?_ _ _ ⟨0, W, [], _, _, _, by omega, by omega, hW, ?_, ?_, ?_, rfl⟩
  · rintro e ⟨b, W', T', o8, o9, o10, hb, hb2, hW', hl1, hl2, hr, rfl⟩
    rw [← hr] at k
    repeat walk_at "u"
    exact k
  · rintro x xs e ih ⟨b, W', T', o8, o9, o10, hb, hb2, hW', hl1, hl2, hr, rfl⟩
    have hat : atI (bs.map (blkD false)) b = some (blkD false bs[b.toNat]) := atI_map hb hb2
    have hgt : bs[b.toNat]? = some bs[b.toNat] := List.getElem?_eq_getElem (by omega)
    have hmem : bs[b.toNat] ∈ bs := List.getElem_mem _
    generalize bs[b.toNat] = blk at hat hgt hmem
    obtain ⟨dl, e⟩ := blk
    have hbn := hbs _ hmem
    have hKl : dl.length ≤ K := hK _ hmem
    simp only [List.length_cons, Nat.add_mul, Nat.one_mul] at hl1 hl2 hr
    simp only [runS, hgt] at hr
    have hblk := blk_bare (dl, e)
    have hdb := bareL_map (xs := dl) Deed.bare
    have heb := e.bare
    have hdf := deeds_frz dl
    have hfe := e.frz
    simp only [blkD] at hat hblk
    simp only [progD]
    repeat walk_at "u"
    rw [hdf, hfe]
    repeat walk_at "u"
    rw [hdf, hfe]
    refine i_block hm hm2 hbn.1 hW' (by omega) (by omega) ?_
    have hn1 := env_noF (deedsS m dl (W', T')).1
    have hn2 := ints_noF (deedsS m dl (W', T')).2
    repeat walk_at "u"
    refine ⟨by simp only [noFE, hn1, hn2]; rfl, ?_⟩
    have hlen := deedsS_len (m := m) (dl := dl) (W := W') (T := T')
    have hok := deedsS_ok (T := T') hm hW' hbn.1
    by_cases hst : e = .stop
    · subst hst
      simp only [] at hr
      rw [← hr] at k
      simp only [End.next]
      repeat walk_at "u"
      exact k
    · have hnx := End.next_ok (W := (deedsS m dl (W', T')).1) hbn.2 hst
      have hr' : runS m bs xs.length (e.next (deedsS m dl (W', T')).1) (deedsS m dl (W', T')).1 (deedsS m dl (W', T')).2 = runS m bs n 0 W [] := by
        cases e with
        | stop => exact absurd rfl hst
        | go a => exact hr
        | choose p a b' => exact hr
      have hlt : decide (e.next (deedsS m dl (W', T')).1 < 0) = false := decide_eq_false (Int.not_lt.mpr hnx.1)
      repeat walk_at "u"
      rw [hlt]
      repeat walk_at "u"
      exact ih _ ⟨_, (deedsS m dl (W', T')).1, (deedsS m dl (W', T')).2, _, _, _, hnx.1, hnx.2, hok, by omega, by omega, hr', rfl⟩
  · simp [intsD]; omega
  · simp [intsD]; omega
  · simp [intsD]
theorem i_lrun {m : Int} {bs : List Blk} {W : WEnv} {n K : Nat} {P : D → VEnv → Prop} (h1 : 2 ≤ m) (h2 : m ≤ 2 ^ 61) (h3 : 0 < bs.length) (h4 : progNb m bs) (h5 : envOk m W) (h6 : ∀ b ∈ bs, b.1.length ≤ K) (h7 : W.length + n * K ≤ 900000) (h8 : n ≤ 100000) (k : P (ranD true (runS m bs n 0 W [])) [none, none, none]) : m__law_run [progD false m bs, envD false W, .int n] P := ⟨m, bs, W, n, K, rfl, h1, h2, h3, h4, h5, h6, h7, h8, k⟩
abbrev ms__law_copy : List Bool := [false]
def m__law_copy : USp := fun ds P => ∃ (m : Int) (bs : List Blk), ds = [progD false m bs] ∧ bs.length ≤ 1000 ∧ (∀ b ∈ bs, b.1.length ≤ 1000) ∧ P (progD true m bs) [none]
def U__law_copy : US :=
  (uRet (uTup (uCons (uFn2 fIxT (uPlace' 0) (uC (.int 0))) (uCons (uComp 2 (uSrc itemsL (uFn2 fIxT (uPlace' 0) (uC (.int 1)))) (uGTup 2 (uGCons (uName 0) (uGCons (uName 1) uGNil))) uYes (emitU (uTup (uCons (uFn fListOf (uCons (uPlace' 0) uNil)) (uCons (uCopy 1) uNil))))) uNil))))
theorem pure__law_copy : ∀ ds P, ds.length = ms__law_copy.length → m__law_copy ds P → U__law_copy (ends0 ms__law_copy P) (start0 (1 - ms__law_copy.length) ds) := by
  rintro ds P - ⟨m, bs, rfl, hl, hK, k⟩
  simp only [start0, ms__law_copy, List.map_cons, List.map_nil, List.length_cons, List.length_nil, Nat.reduceAdd, Nat.reduceSub, List.replicate, List.cons_append, List.nil_append]
  unfold U__law_copy
  have hbb := bareL_map (xs := bs) blk_bare
  have hbb2 : VS.bare (.lst false (bs.map (blkD false))) = true := by rw [q_b1, hbb]; rfl
  have hpb := prog_bare m bs
  simp only [progD] at hpb k ⊢
  repeat walk_at "u"
  rw [frzL_mapE (blk_frz false)]
  refine loop_ind (fun xs acc e => ∃ (pre post : List Blk) (o1 o2 : Option D), bs = pre ++ post ∧ xs = post.map (blkD false) ∧ acc = pre.map (blkD true) ∧ e = [o1, o2, some (.tup [.int m, .lst false (bs.map (blkD false))])]) ?_ ?_ _ _ _ ⟨[], bs, _, _, rfl, rfl, rfl, rfl⟩
  · rintro acc e ⟨pre, post, o1, o2, h1, h2, rfl, rfl⟩
    have : post = [] := by simpa using h2.symm
    subst this
    rw [List.append_nil] at h1
    subst h1
    repeat walk_at "u"
    exact k
  · rintro x xs acc e ih ⟨pre, post, o1, o2, h1, h2, rfl, rfl⟩
    cases post with
    | nil => simp at h2
    | cons b post =>
      simp only [List.map_cons, List.cons.injEq] at h2
      obtain ⟨rfl, rfl⟩ := h2
      have hz : (pre.map (blkD true)).length ≤ 1000000 := by
        rw [h1] at hl; simp at hl ⊢; omega
      have hbl := hK b (by rw [h1]; simp)
      have hz2 : (b.1.map Deed.d).length ≤ 1000000 := by simp; omega
      have hdb := bareL_map (xs := b.1) Deed.bare
      have heb := b.2.bare
      have hbb := blk_bare b
      have nxt := fun o1 o2 => ih (pre.map (blkD true) ++ [blkD true b]) [o1, o2, some (.tup [.int m, .lst false (bs.map (blkD false))])] ⟨pre ++ [b], post, o1, o2, by rw [h1]; simp, rfl, by simp, rfl⟩
      simp only [blkD] at hbb nxt ⊢
      repeat walk_at "u"
      exact nxt _ _
theorem i_copy {m : Int} {bs : List Blk} {P : D → VEnv → Prop} (h1 : bs.length ≤ 1000) (h2 : ∀ b ∈ bs, b.1.length ≤ 1000) (k : P (progD true m bs) [none]) : m__law_copy [progD false m bs] P := ⟨m, bs, rfl, h1, h2, k⟩
abbrev ms__law_plainly_b : List Bool := [false]
def m__law_plainly_b : USp := fun _ _ => False
abbrev ms__law_plainly_0 : List Bool := [false]
def m__law_plainly_0 : USp := fun ds P => ∃ n, ds = [.int n] ∧ P (.bl true) [none]
def U__law_plainly_0 : US :=
  (uSeq (uIfS (uOr (uTruth (uIsi .tup (uPlace' 0))) (uTruth (uIsi .lst (uPlace' 0))))
  (uRet (uFn2 (fEq false) (uFn fLen (uCons (uComp 1 (uSrc itemsL (uPlace' 0)) (uName 0) (uNot (uTruth (uCall ms__law_plainly_b m__law_plainly_b (uCons (uPlace' 0) uNil)))) (emitU (uCopy 0))) uNil)) (uC (.int 0))))
  uNext)
  (uSeq (uIfS (uOr (uTest (uFn1 (fIsN false) (uPlace' 0))) (uTruth (uIsi .str (uPlace' 0))))
  (uRet (uC (.bl true)))
  uNext)
  (uRet (uAndV (uIsi .int (uPlace' 0)) (uNotV (uIsi .bool (uPlace' 0)))))))
theorem pure__law_plainly_0 : ∀ ds P, ds.length = ms__law_plainly_0.length → m__law_plainly_0 ds P → U__law_plainly_0 (ends0 ms__law_plainly_0 P) (start0 (1 - ms__law_plainly_0.length) ds) := by
  rintro ds P - ⟨n, rfl, k⟩
  simp only [start0, ms__law_plainly_0, List.map_cons, List.map_nil, List.length_cons, List.length_nil, Nat.reduceAdd, Nat.reduceSub, List.replicate, List.cons_append, List.nil_append]
  unfold U__law_plainly_0
  repeat walk_at "u"
  exact k
theorem i_plain0 {n : Int} {P : D → VEnv → Prop} (k : P (.bl true) [none]) : m__law_plainly_0 [.int n] P := ⟨n, rfl, k⟩
abbrev ms__law_plainly_1 : List Bool := [false]
def m__law_plainly_1 : USp := fun ds P => ∃ ns : List Int, ds = [.lst false (ns.map .int)] ∧ P (.bl true) [none]
def U__law_plainly_1 : US :=
  (uSeq (uIfS (uOr (uTruth (uIsi .tup (uPlace' 0))) (uTruth (uIsi .lst (uPlace' 0))))
  (uRet (uFn2 (fEq false) (uFn fLen (uCons (uComp 1 (uSrc itemsL (uPlace' 0)) (uName 0) (uNot (uTruth (uCall ms__law_plainly_0 m__law_plainly_0 (uCons (uPlace' 0) uNil)))) (emitU (uCopy 0))) uNil)) (uC (.int 0))))
  uNext)
  (uSeq (uIfS (uOr (uTest (uFn1 (fIsN false) (uPlace' 0))) (uTruth (uIsi .str (uPlace' 0))))
  (uRet (uC (.bl true)))
  uNext)
  (uRet (uAndV (uIsi .int (uPlace' 0)) (uNotV (uIsi .bool (uPlace' 0)))))))
theorem pure__law_plainly_1 : ∀ ds P, ds.length = ms__law_plainly_1.length → m__law_plainly_1 ds P → U__law_plainly_1 (ends0 ms__law_plainly_1 P) (start0 (1 - ms__law_plainly_1.length) ds) := by
  rintro ds P - ⟨ns, rfl, k⟩
  simp only [start0, ms__law_plainly_1, List.map_cons, List.map_nil, List.length_cons, List.length_nil, Nat.reduceAdd, Nat.reduceSub, List.replicate, List.cons_append, List.nil_append]
  unfold U__law_plainly_1
  repeat walk_at "u"
  refine loop_ind (fun xs acc e => ∃ (post : List Int) (o : Option D), xs = post.map .int ∧ acc = [] ∧ e = [o, some (.lst false (ns.map .int))]) ?_ ?_ _ _ _ ⟨ns, _, rfl, rfl, rfl⟩
  · rintro acc e ⟨post, o, h1, rfl, rfl⟩
    repeat walk_at "u"
    exact k
  · rintro x xs acc e ih ⟨post, o, h1, rfl, rfl⟩
    cases post with
    | nil => simp at h1
    | cons n post =>
      simp only [List.map_cons, List.cons.injEq] at h1
      obtain ⟨rfl, rfl⟩ := h1
      repeat walk_at "u"
      refine i_plain0 ?_
      repeat walk_at "u"
      exact ih [] _ ⟨post, _, rfl, rfl, rfl⟩
theorem i_plain1 {ns : List Int} {P : D → VEnv → Prop} (k : P (.bl true) [none]) : m__law_plainly_1 [.lst false (ns.map .int)] P := ⟨ns, rfl, k⟩
theorem Part.okE {xs : List Str} {m : Int} {n : Nat} (hx : ∀ x ∈ xs, nmOk x) : ∀ {p : Part}, p.ok xs m → VS.okE (n + 1) p.d = true
  | .num k, _ => by simp only [Part.d, okE_t, okEL_c, okEL_n, okE_s, okE_i, Bool.and_true]; decide +kernel
  | .name x, h => by simp only [Part.d, okE_t, okEL_c, okEL_n, okE_s, Bool.and_true, (hx x h).str]; decide +kernel
theorem Worth.okE {xs : List Str} {m : Int} {n : Nat} (hx : ∀ x ∈ xs, nmOk x) : ∀ {w : Worth}, w.ok xs m → VS.okE (n + 2) w.d = true
  | .one p, h => Part.okE (n := n + 1) hx (p := p) h
  | .two o p q, h => by
    have ho : PyData.strOk o = true := by
      have := h.1
      simp only [opNames, List.mem_cons, List.not_mem_nil, or_false] at this
      rcases this with rfl | rfl | rfl | rfl | rfl <;> decide +kernel
    simp only [Worth.d, okE_t, okEL_c, okEL_n, okE_s, ho, Part.okE hx h.2.1, Part.okE hx h.2.2, Bool.and_true]
theorem Deed.okE {xs : List Str} {m : Int} {n : Nat} (hx : ∀ x ∈ xs, nmOk x) : ∀ {d : Deed}, d.ok xs m → VS.okE (n + 3) d.d = true
  | .put x w, h => by
    have e : PyData.strOk "put" = true := by decide +kernel
    simp only [Deed.d, okE_t, okEL_c, okEL_n, okE_s, e, (hx x h.1).str, Worth.okE (n := n) hx h.2, Bool.and_true]
  | .tell p, h => by
    have e : PyData.strOk "tell" = true := by decide +kernel
    simp only [Deed.d, okE_t, okEL_c, okEL_n, okE_s, e, Part.okE (n := n + 1) hx (p := p) h, Bool.and_true]
theorem End.okE {xs : List Str} {m many : Int} {n : Nat} (hx : ∀ x ∈ xs, nmOk x) : ∀ {e : End}, e.ok xs m many → VS.okE (n + 2) e.d = true
  | .stop, _ => by
    have e : PyData.strOk "stop" = true := by decide +kernel
    simp only [End.d, okE_t, okEL_c, okEL_n, okE_s, e, Bool.and_true]
  | .go a, _ => by
    have e : PyData.strOk "go" = true := by decide +kernel
    simp only [End.d, okE_t, okEL_c, okEL_n, okE_s, okE_i, e, Bool.and_true]
  | .choose p a b, h => by
    have e : PyData.strOk "choose" = true := by decide +kernel
    simp only [End.d, okE_t, okEL_c, okEL_n, okE_s, okE_i, e, Part.okE (n := n) hx h.1, Bool.and_true]
theorem progOk.okE {xs : List Str} {m : Int} {bs : List Blk} (hx : ∀ x ∈ xs, nmOk x) (h : progOk xs m bs) : VS.okE 60 (progD false m bs) = true := by
  have hb : okEL 58 (bs.map (blkD false)) = true := okEL_iff.mpr fun d hd => by
    obtain ⟨b, hb, rfl⟩ := List.mem_map.mp hd
    have h1 : okEL 56 (b.1.map Deed.d) = true := okEL_iff.mpr fun d hd => by
      obtain ⟨q, hq, rfl⟩ := List.mem_map.mp hd
      exact Deed.okE (n := 53) hx ((h b hb).2.1 q hq)
    have h2 := End.okE (n := 55) hx (h b hb).2.2
    simp only [blkD, okE_t, okE_l, okEL_c, okEL_n, h1, h2, Bool.and_true]
  simp only [progD, okE_t, okE_l, okEL_c, okEL_n, okE_i, hb, Bool.and_true]
theorem i_names {x y : Int} {P : D → VEnv → Prop} (k : ∀ (xs : List Str) z, 0 < xs.length → xs.length ≤ 20 → (∀ x ∈ xs, nmOk x) → P (.lst true (xs.map .str)) [some (purse z y)]) : m__law_names [purse x y] P := ⟨x, y, rfl, k⟩
theorem i_worth {x y m : Int} {xs : List Str} {P : D → VEnv → Prop} (h1 : 0 < xs.length) (h2 : xs.length ≤ 1000) (h3 : 2 ≤ m) (h4 : m ≤ 2 ^ 62) (k : ∀ (p : Worth) z, p.ok xs m → P p.d [some (purse z y), none, none]) : m__law_worth [purse x y, .lst false (xs.map .str), .int m] P := ⟨x, y, xs, m, rfl, h1, h2, h3, h4, k⟩
theorem i_ending {x y m b many : Int} {xs : List Str} {P : D → VEnv → Prop} (h1 : 0 < xs.length) (h2 : xs.length ≤ 1000) (h3 : 2 ≤ m) (h4 : m ≤ 2 ^ 62) (h5 : 0 ≤ b) (h6 : 0 < many) (h7 : many ≤ 2 ^ 62) (k : ∀ (p : End) z, p.ok xs m many → P p.d [some (purse z y), none, none, none, none]) : m__law_ending [purse x y, .lst false (xs.map .str), .int m, .int b, .int many] P := ⟨x, y, xs, m, b, many, rfl, h1, h2, h3, h4, h5, h6, h7, k⟩
abbrev ms__law_program : List Bool := [true, false]
def m__law_program : USp := fun ds P => ∃ x y most, ds = [purse x y, .int most] ∧ 0 < most ∧ most ≤ 1000 ∧ ∀ (xs : List Str) (m : Int) (bs : List Blk) z, 0 < xs.length → xs.length ≤ 20 → (∀ x ∈ xs, nmOk x) → 2 ≤ m → m ≤ 1000000000 → 0 < bs.length → (bs.length ≤ most ∨ bs.length ≤ 24) → progOk xs m bs → P (progD true m bs) [some (purse z y), none]
def U__law_program : US :=
  (uSeq (uAsg (uCall ms__law_names m__law_names (uCons (uPlace' 0) uNil)) (uNameF 2))
  (uSeq (uAsg (uFn2 fIxL (uLst (uCons (uC (.int 2)) (uCons (uC (.int 3)) (uCons (uC (.int 7)) (uCons (uFn2 (fI CPow fun i j => .int (i ^ j.toNat)) (uC (.int 10)) (uC (.int 9))) (uCons (uFn2 (fI0 fun i j => .int (i + j)) (uC (.int 2)) (uCall ms__law_draw m__law_draw (uCons (uPlace' 0) (uCons (uC (.int 1000)) uNil)))) uNil)))))) (uCall ms__law_draw m__law_draw (uCons (uPlace' 0) (uCons (uC (.int 5)) uNil)))) (uName 3))
  (uSeq (uAsg (uFn2 (fI0 fun i j => .int (i + j)) (uC (.int 1)) (uCall ms__law_draw m__law_draw (uCons (uPlace' 0) (uCons (uPlace' 1) uNil)))) (uName 4))
  (uSeq (uIfS (uAnd (uTest (uFn2 (fI0 fun i j => .bl (decide (j < i))) (uPlace' 1) (uC (.int 5)))) (uTest (uFn2 (fEq false) (uCall ms__law_draw m__law_draw (uCons (uPlace' 0) (uCons (uC (.int 16)) uNil))) (uC (.int 0)))))
  (uSeq (uAsg (uC (.int 24)) (uName 4))
  (uAsg (uSl (uPlace' 2) uNoPart (uPart (uC (.int 4)))) (uNameF 2)))
  uNext)
  (uSeq (uAsg (uLst uNil) (uName 5))
  (uSeq (uFor (uRng1 (uCons (uCopy 4) uNil)) (uName 6)
  (uSeq (uAsg (uLst uNil) (uName 7))
  (uSeq (uFor (uRng1 (uCons (uCall ms__law_draw m__law_draw (uCons (uPlace' 0) (uCons (uC (.int 4)) uNil))) uNil)) (uName 8)
  (uIfS (uTest (uFn2 (fEq false) (uCall ms__law_draw m__law_draw (uCons (uPlace' 0) (uCons (uC (.int 3)) uNil))) (uC (.int 0))))
  (uAppend 7 (uCons (uTup (uCons (uC (.str "tell")) (uCons (uCall ms__law_part m__law_part (uCons (uPlace' 0) (uCons (uPlace' 2) (uCons (uPlace' 3) uNil)))) uNil))) uNil))
  (uSeq (uAsg (uFn2 fIxL (uPlace' 2) (uCall ms__law_draw m__law_draw (uCons (uPlace' 0) (uCons (uFn fLen (uCons (uPlace' 2) uNil)) uNil)))) (uName 9))
  (uAppend 7 (uCons (uTup (uCons (uC (.str "put")) (uCons (uCopy 9) (uCons (uCall ms__law_worth m__law_worth (uCons (uPlace' 0) (uCons (uPlace' 2) (uCons (uPlace' 3) uNil)))) uNil)))) uNil)))))
  (uAppend 5 (uCons (uTup (uCons (uMove 7) (uCons (uCall ms__law_ending m__law_ending (uCons (uPlace' 0) (uCons (uPlace' 2) (uCons (uPlace' 3) (uCons (uPlace' 6) (uCons (uPlace' 4) uNil)))))) uNil))) uNil)))))
  (uRet (uTup (uCons (uCopy 3) (uCons (uMove 5) uNil))))))))))
theorem pure__law_program : ∀ ds P, ds.length = ms__law_program.length → m__law_program ds P → U__law_program (ends0 ms__law_program P) (start0 (10 - ms__law_program.length) ds) := by
  rintro ds P - ⟨x, y, most, rfl, hm0, hm1, k⟩
  simp only [start0, ms__law_program, List.map_cons, List.map_nil, List.length_cons, List.length_nil, Nat.reduceAdd, Nat.reduceSub, List.replicate, List.cons_append, List.nil_append]
  unfold U__law_program
  repeat walk_at "u"
  refine i_names fun xs z x0 x1 x2 => ?_
  have hnn : VS.noF (.lst true (xs.map D.str)) = true := by rw [q_n1, noFL_str]; rfl
  repeat walk_at "u"
  refine ⟨⟨by decide, by decide, by decide⟩, ?_⟩
  rw [q_frz1, frzL_str]
  repeat walk_at "u"
  refine i_draw (by omega) (by omega) fun a z a0 a1 => ?_
  repeat walk_at "u"
  refine i_draw (by omega) (by omega) fun b z b0 b1 => ?_
  have hx : ∃ n : Int, atI [D.int 2, D.int 3, D.int 7, D.int (10 ^ 9), D.int (2 + a)] b = some (.int n) ∧ 2 ≤ n ∧ n ≤ 1000000000 := by
    have : b = 0 ∨ b = 1 ∨ b = 2 ∨ b = 3 ∨ b = 4 := by omega
    rcases this with rfl | rfl | rfl | rfl | rfl
    · exact ⟨2, rfl, by omega, by omega⟩
    · exact ⟨3, rfl, by omega, by omega⟩
    · exact ⟨7, rfl, by omega, by omega⟩
    · exact ⟨10 ^ 9, rfl, by decide, by decide⟩
    · exact ⟨2 + a, rfl, by omega, by omega⟩
  obtain ⟨m, em, m0, m1⟩ := hx
  repeat walk_at "u"
  refine i_draw (by omega) (by omega) fun c z c0 c1 => ?_
  repeat walk_at "u"
  have rest : ∀ (xs : List Str) (many : Int) z, 0 < xs.length → xs.length ≤ 20 → (∀ x ∈ xs, nmOk x) → 0 < many → many ≤ 1000 → (many ≤ most ∨ many ≤ 24) →
      (uSeq (uAsg (uLst uNil) (uName 5)) (uSeq (uFor (uRng1 (uCons (uCopy 4) uNil)) (uName 6)
  (uSeq (uAsg (uLst uNil) (uName 7))
  (uSeq (uFor (uRng1 (uCons (uCall ms__law_draw m__law_draw (uCons (uPlace' 0) (uCons (uC (.int 4)) uNil))) uNil)) (uName 8)
  (uIfS (uTest (uFn2 (fEq false) (uCall ms__law_draw m__law_draw (uCons (uPlace' 0) (uCons (uC (.int 3)) uNil))) (uC (.int 0))))
  (uAppend 7 (uCons (uTup (uCons (uC (.str "tell")) (uCons (uCall ms__law_part m__law_part (uCons (uPlace' 0) (uCons (uPlace' 2) (uCons (uPlace' 3) uNil)))) uNil))) uNil))
  (uSeq (uAsg (uFn2 fIxL (uPlace' 2) (uCall ms__law_draw m__law_draw (uCons (uPlace' 0) (uCons (uFn fLen (uCons (uPlace' 2) uNil)) uNil)))) (uName 9))
  (uAppend 7 (uCons (uTup (uCons (uC (.str "put")) (uCons (uCopy 9) (uCons (uCall ms__law_worth m__law_worth (uCons (uPlace' 0) (uCons (uPlace' 2) (uCons (uPlace' 3) uNil)))) uNil)))) uNil)))))
  (uAppend 5 (uCons (uTup (uCons (uMove 7) (uCons (uCall ms__law_ending m__law_ending (uCons (uPlace' 0) (uCons (uPlace' 2) (uCons (uPlace' 3) (uCons (uPlace' 6) (uCons (uPlace' 4) uNil)))))) uNil))) uNil)))))
  (uRet (uTup (uCons (uCopy 3) (uCons (uMove 5) uNil)))))) (ends0 [true, false] P) [some (purse z y), some (.int most), some (.lst false (xs.map .str)), some (.int m), some (.int many), none, none, none, none, none] := by
    intro xs many z x0 x1 x2 n0 n1 n2
    have eN : frz (.lst false (xs.map D.str)) = .lst false (xs.map D.str) := by rw [q_frz1, frzL_str]
    repeat walk_at "u"
    refine for_ind (fun is e => (∀ x ∈ is, ∃ i : Int, x = .int i ∧ 0 ≤ i ∧ i < many) ∧ ∃ (z : Int) (bs : List Blk) (o6 o7 o8 o9 : Option D), (bs.length + is.length : Int) = many ∧ (∀ b ∈ bs, Blk.ok xs m many b) ∧ e = [some (purse z y), some (.int most), some (.lst false (xs.map .str)), some (.int m), some (.int many), some (.lst true (bs.map (blkD true))), o6, o7, o8, o9]) ?_ ?_ _ _ ⟨fun x h => ?_, z, [], _, _, _, _, ?_, fun b h => by simp at h, rfl⟩
    · rintro e ⟨-, z, bs, o6, o7, o8, o9, hl, hb, rfl⟩
      simp only [List.length_nil] at hl
      repeat walk_at "u"
      exact k xs m bs z x0 x1 x2 m0 m1 (by omega) (by omega) fun b h => by have := hb b h; rwa [show many = (bs.length : Int) by omega] at this
    · rintro x is e ih ⟨hx, z, bs, o6, o7, o8, o9, hl, hb, rfl⟩
      obtain ⟨i, rfl, i0, i1⟩ := hx x (.head _)
      simp only [List.length_cons] at hl
      have hbl : (bs.map (blkD true)).length ≤ 1000000 := by rw [List.length_map]; omega
      repeat walk_at "u"
      refine i_draw (by omega) (by omega) fun a z a0 a1 => ?_
      repeat walk_at "u"
      refine for_ind (fun js e => ∃ (z : Int) (ds : List Deed) (o8 o9 : Option D), (ds.length + js.length : Int) ≤ 3 ∧ (∀ d ∈ ds, d.ok xs m) ∧ e = [some (purse z y), some (.int most), some (.lst false (xs.map .str)), some (.int m), some (.int many), some (.lst true (bs.map (blkD true))), some (.int i), some (.lst true (ds.map Deed.d)), o8, o9]) ?_ ?_ _ _ ⟨z, [], _, _, ?_, fun d h => by simp at h, rfl⟩
      · rintro e ⟨z, ds, o8, o9, hl2, hd, rfl⟩
        simp only [List.length_nil] at hl2
        repeat walk_at "u"
        rw [eN]
        refine i_ending x0 (by omega) m0 (by omega) i0 n0 (by omega) fun w z hw => ?_
        have hwn := w.noF
        repeat walk_at "u"
        refine ih _ ⟨fun x h => hx x (.tail _ h), z, bs ++ [(ds, w)], _, _, _, _, by simp only [List.length_append, List.length_cons, List.length_nil]; omega, fun b h => ?_, by rw [List.map_append]; rfl⟩
        rcases List.mem_append.mp h with h | h
        · exact hb b h
        · rw [List.mem_singleton.mp h]; exact ⟨by simp only []; omega, hd, hw⟩
      · rintro x js e ih2 ⟨z, ds, o8, o9, hl2, hd, rfl⟩
        simp only [List.length_cons] at hl2
        have hdl : (ds.map Deed.d).length ≤ 1000000 := by rw [List.length_map]; omega
        have nil : ∀ d : Deed, Unit → d.ok xs m → ∀ x ∈ ds ++ [d], x.ok xs m := fun d _ h x hx => by
          rcases List.mem_append.mp hx with hx | hx
          · exact hd x hx
          · rw [List.mem_singleton.mp hx]; exact h
        repeat walk_at "u"
        refine i_draw (by omega) (by omega) fun a z a0 a1 => ?_
        repeat walk_at "u"
        with_reducible refine i_ite ?_ ?_
        · intro h
          repeat walk_at "u"
          rw [eN]
          refine i_part x0 (by omega) m0 (by omega) fun p z hp => ?_
          have hpn := p.noF
          repeat walk_at "u"
          exact ih2 _ ⟨z, ds ++ [.tell p], _, _, by simp only [List.length_append, List.length_cons, List.length_nil]; omega, nil (.tell p) () hp, by rw [List.map_append]; rfl⟩
        · intro h
          have hl : (0 : Int) < ((xs.map D.str).length : Int) := by rw [List.length_map]; omega
          have hl2' : ((xs.map D.str).length : Int) ≤ 2 ^ 62 := by rw [List.length_map]; omega
          repeat walk_at "u"
          refine i_draw hl hl2' fun a z a0 a1 => ?_
          obtain ⟨s, hs, es⟩ := atI_mapx (f := D.str) (xs := xs) a0 (by simpa using a1)
          repeat walk_at "u"
          rw [eN]
          refine i_worth x0 (by omega) m0 (by omega) fun p z hp => ?_
          have hpn := p.noF
          repeat walk_at "u"
          exact ih2 _ ⟨z, ds ++ [.put s p], _, _, by simp only [List.length_append, List.length_cons, List.length_nil]; omega, nil (.put s p) () ⟨hs, hp⟩, by rw [List.map_append]; rfl⟩
      · simp [intsD]; omega
    · obtain ⟨i, rfl, a, b⟩ := intsD_mem h
      exact ⟨i, rfl, a, by omega⟩
    · simp [intsD]; omega
  generalize (uSeq (uAsg (uLst uNil) (uName 5)) (uSeq (uFor (uRng1 (uCons (uCopy 4) uNil)) (uName 6)
  (uSeq (uAsg (uLst uNil) (uName 7))
  (uSeq (uFor (uRng1 (uCons (uCall ms__law_draw m__law_draw (uCons (uPlace' 0) (uCons (uC (.int 4)) uNil))) uNil)) (uName 8)
  (uIfS (uTest (uFn2 (fEq false) (uCall ms__law_draw m__law_draw (uCons (uPlace' 0) (uCons (uC (.int 3)) uNil))) (uC (.int 0))))
  (uAppend 7 (uCons (uTup (uCons (uC (.str "tell")) (uCons (uCall ms__law_part m__law_part (uCons (uPlace' 0) (uCons (uPlace' 2) (uCons (uPlace' 3) uNil)))) uNil))) uNil))
  (uSeq (uAsg (uFn2 fIxL (uPlace' 2) (uCall ms__law_draw m__law_draw (uCons (uPlace' 0) (uCons (uFn fLen (uCons (uPlace' 2) uNil)) uNil)))) (uName 9))
  (uAppend 7 (uCons (uTup (uCons (uC (.str "put")) (uCons (uCopy 9) (uCons (uCall ms__law_worth m__law_worth (uCons (uPlace' 0) (uCons (uPlace' 2) (uCons (uPlace' 3) uNil)))) uNil)))) uNil)))))
  (uAppend 5 (uCons (uTup (uCons (uMove 7) (uCons (uCall ms__law_ending m__law_ending (uCons (uPlace' 0) (uCons (uPlace' 2) (uCons (uPlace' 3) (uCons (uPlace' 6) (uCons (uPlace' 4) uNil)))))) uNil))) uNil)))))
  (uRet (uTup (uCons (uCopy 3) (uCons (uMove 5) uNil)))))) = T at rest ⊢
  with_reducible refine i_ite ?_ ?_
  · intro h
    repeat walk_at "u"
    refine i_draw (by omega) (by omega) fun a z a0 a1 => ?_
    repeat walk_at "u"
    with_reducible refine i_ite ?_ ?_
    · intro h
      have hbx := bareL_str (xs := xs)
      repeat walk_at "u"
      rw [cutL_map, q_frz1, frzL_str]
      have hlen : 0 < (cutL xs none (some 4)).length := by
        match xs, x0 with
        | a :: as, _ =>
          have : cutL (a :: as) none (some 4) = (a :: as).take (HT.sIx (as.length + 1) (as.length + 1) (some 4)) := by simp [cutL, HT.sIx]
          rw [this]; simp [HT.sIx]; omega
      exact rest _ 24 z hlen (by have := cutL_len (xs := xs) (a := none) (b := some 4); omega) (fun x h => x2 x (cutL_mem h)) (by omega) (by omega) (by omega)
    · intro h
      repeat walk_at "u"
      exact rest xs (1 + c) z x0 x1 x2 (by omega) (by omega) (by omega)
  · intro h
    repeat walk_at "u"
    exact rest xs (1 + c) z x0 x1 x2 (by omega) (by omega) (by omega)
theorem i_program {x y most : Int} {P : D → VEnv → Prop} (h1 : 0 < most) (h2 : most ≤ 1000) (k : ∀ (xs : List Str) (m : Int) (bs : List Blk) z, 0 < xs.length → xs.length ≤ 20 → (∀ x ∈ xs, nmOk x) → 2 ≤ m → m ≤ 1000000000 → 0 < bs.length → (bs.length ≤ most ∨ bs.length ≤ 24) → progOk xs m bs → P (progD true m bs) [some (purse z y), none]) : m__law_program [purse x y, .int most] P := ⟨x, y, most, rfl, h1, h2, k⟩
theorem envN (W : WEnv) : envD false W = dicN (W.map (fun p => Sum.inr p.1), W.map (·.2)) := by
  simp only [envD, sD, dicN, List.map_map]; rfl
theorem i_neLD {W0 W1 : WEnv} {P : D → Prop} (h : P (.bl false)) : fNeLD (.lst false [envD false W0, envD false W1]) (.lst false [envD false W0, envD false W1]) P := ⟨false, false, [(W0.map (fun p => Sum.inr p.1), W0.map (·.2)), (W1.map (fun p => Sum.inr p.1), W1.map (·.2))], by rw [envN, envN]; rfl, by rw [envN, envN]; rfl, h⟩
theorem runS_len {m : Int} {bs : List Blk} {K : Nat} (hK : ∀ b ∈ bs, b.1.length ≤ K) : ∀ (n : Nat) (b : Int) (W : WEnv) (T : List Int), (runS m bs n b W T).1.length ≤ T.length + n * K
  | 0, b, W, T => by simp [runS]
  | n + 1, b, W, T => by
    simp only [runS]
    cases hb : bs[b.toNat]? with
    | none => simp
    | some blk =>
      obtain ⟨dl, e⟩ := blk
      have h1 := hK _ (List.mem_of_getElem? hb)
      have h2 := (deedsS_len (m := m) (dl := dl) (W := W) (T := T)).2
      have e2 : (n + 1) * K = n * K + K := Nat.succ_mul n K
      simp only [] at h1
      cases e with
      | stop => simp only []; omega
      | go a => have := runS_len (m := m) hK n ((End.go a).next (deedsS m dl (W, T)).1) (deedsS m dl (W, T)).1 (deedsS m dl (W, T)).2; simp only []; omega
      | choose p a c => have := runS_len (m := m) hK n ((End.choose p a c).next (deedsS m dl (W, T)).1) (deedsS m dl (W, T)).1 (deedsS m dl (W, T)).2; simp only []; omega
theorem frzE_env {d : D} {px py m j k : Int} {bs : List Blk} {W0 W1 : WEnv} {R : List Int × Bool} (h : VS.frz d = d) : frzE [some d, some (purse px py), some (progD false m bs), some (.lst false [envD false W0, envD false W1]), some (progD false m bs), some (.lst false [envD false W0, envD false W1]), some (.int j), some (.int k), some (ranD true R)] = [some d, some (.lst false [.int px, .int py]), some (progD false m bs), some (.lst false [envD false W0, envD false W1]), some (progD false m bs), some (.lst false [envD false W0, envD false W1]), some (.int j), some (.int k), some (ranD false R)] := by
  simp only [frzE_s, frzE_0, h, prog_frz, ran_frz, q_frz1, frzL_cons, frzL_nil, env_frz, q_frz4]
theorem two_frz (o : Bool) (W0 W1 : WEnv) : VS.frz (.lst o [envD o W0, envD o W1]) = .lst false [envD false W0, envD false W1] := by rw [q_frz1, frzL_cons, frzL_cons, frzL_nil, env_frz, env_frz]
theorem two_dic (W0 W1 : WEnv) : (D.lst false [envD false W0, envD false W1]) = .lst false [.dic false false (W0.map fun p => DK.s (.inr p.1)) (W0.map fun p => D.int p.2), .dic false false (W1.map fun p => DK.s (.inr p.1)) (W1.map fun p => D.int p.2)] := rfl
theorem two_dicT (W0 W1 : WEnv) : (D.lst true [.dic true false (W0.map fun p => DK.s (.inr p.1)) (W0.map fun p => D.int p.2), .dic true false (W1.map fun p => DK.s (.inr p.1)) (W1.map fun p => D.int p.2)]) = .lst true [envD true W0, envD true W1] := rfl
abbrev ms_law : List Bool := [false]
def m_law (L : Addr → List Int → Prop) : USp := fun ds P => ∃ (ns : List Int) (d : D), ds = [d] ∧ (d = .lst false (ns.map .int) ∨ ∃ a, d = .fn a ∧ L a ns) ∧ ns.length ≤ 100000 ∧ P (.bl true) [none]
def U_law (L : Addr → List Int → Prop) : US :=
  (uSeq (uAsg (uCall ms__law_purse (m__law_purse L) (uCons (uPlace' 0) uNil)) (uName 1))
  (uSeq (uAsg (uCall ms__law_program m__law_program (uCons (uPlace' 1) (uCons (uC (.int 6)) uNil))) (uNameF 2))
  (uSeq (uAsg (uLst (uCons (uCall ms__law_given m__law_given (uCons (uPlace' 1) (uCons (uPlace' 2) uNil))) (uCons (uCall ms__law_given m__law_given (uCons (uPlace' 1) (uCons (uPlace' 2) uNil))) uNil))) (uNameF 3))
  (uSeq (uAsg (uCall ms__law_copy m__law_copy (uCons (uPlace' 2) uNil)) (uNameF 4))
  (uSeq (uAsg (uLst (uCons (uFn1 fDCopy (uFn2 fIxL (uPlace' 3) (uC (.int 0)))) (uCons (uFn1 fDCopy (uFn2 fIxL (uPlace' 3) (uC (.int 1)))) uNil))) (uNameF 5))
  (uSeq (uFor (uSrc itemsL (uLst (uCons (uC (.int 0)) (uCons (uC (.int 1)) (uCons (uFn2 fIxL (uLst (uCons (uFn2 (fI0 fun i j => .int (i + j)) (uC (.int 2)) (uCall ms__law_draw m__law_draw (uCons (uPlace' 1) (uCons (uC (.int 39)) uNil)))) (uCons (uC (.int 300)) uNil))) (uFn fInt (uCons (uFn2 (fEq false) (uCall ms__law_draw m__law_draw (uCons (uPlace' 1) (uCons (uC (.int 4)) uNil))) (uC (.int 0))) uNil))) uNil))))) (uName 6)
  (uFor (uSrc itemsL (uLst (uCons (uC (.int 0)) (uCons (uC (.int 1)) (uCons (uC (.int 0)) uNil))))) (uName 7)
  (uSeq (uAsg (uCall ms_run m_run (uCons (uPlace' 4) (uCons (uFn2 fIxL (uPlace' 5) (uPlace' 7)) (uCons (uPlace' 6) uNil)))) (uName 8))
  (uSeq (uIfS (uPureT (uOr (uNot (uTruth (uIsi .tup (uPlace' 8)))) (uOr (uTest (uFn2 (fEq true) (uFn fLen (uCons (uPlace' 8) uNil)) (uC (.int 2)))) (uNot (uTruth (uIsi .bool (uFn2 fIxT (uPlace' 8) (uC (.int 1)))))))))
  (uRet (uC (.bl false)))
  uNext)
  (uSeq (uIfS (uPureT (uOr (uNot (uTruth (uIsi .lst (uFn2 fIxT (uPlace' 8) (uC (.int 0)))))) (uNot (uTruth (uCall ms__law_plainly_1 m__law_plainly_1 (uCons (uFn2 fIxT (uPlace' 8) (uC (.int 0))) uNil))))))
  (uRet (uC (.bl false)))
  uNext)
  (uSeq (uIfS (uPureT (uTest (uFn2 (fEqD true) (uPlace' 8) (uCall ms__law_run m__law_run (uCons (uPlace' 2) (uCons (uFn2 fIxL (uPlace' 3) (uPlace' 7)) (uCons (uPlace' 6) uNil)))))))
  (uRet (uC (.bl false)))
  uNext)
  (uSeq (uAppendAt .tup 8 (xC (.int 0)) (xC (.int 5)))
  (uIfS (uOr (uTest (uFn2 (fEqD true) (uPlace' 4) (uPlace' 2))) (uTest (uFn2 fNeLD (uPlace' 5) (uPlace' 3))))
  (uRet (uC (.bl false)))
  uNext))))))))
  (uRet (uC (.bl true)))))))))
theorem pure_law {L : Addr → List Int → Prop} : ∀ ds P, ds.length = ms_law.length → m_law L ds P → U_law L (ends0 ms_law P) (start0 (9 - ms_law.length) ds) := by
  rintro ds P - ⟨ns, d, rfl, hd, hl, k⟩
  simp only [start0, ms_law, List.map_cons, List.map_nil, List.length_cons, List.length_nil, Nat.reduceAdd, Nat.reduceSub, List.replicate, List.cons_append, List.nil_append]
  unfold U_law
  have hdf : frz d = d := by
    rcases hd with rfl | ⟨a, rfl, _⟩
    · rw [q_frz1, frzL_int]
    · simp only [frz]
  repeat walk_at "u"
  rw [hdf]
  refine i_purse hd hl fun px py => ?_
  repeat walk_at "u"
  refine i_program (by omega) (by omega) fun xs m bs px x0 x1 x2 m0 m1 b0 b1 ok => ?_
  have hb24 : bs.length ≤ 24 := by omega
  have hpn := prog_noF m bs
  have hnb := ok.nb
  have hop : ∀ b ∈ bs, ∀ d ∈ b.1, d.opOk := fun b hb d hd => Deed.nb.op (m := m) ((hnb b hb).1 d hd)
  have hdl := ok.deeds
  have hK : ∀ b ∈ bs, b.1.length ≤ 8 := fun b hb => (ok b hb).1
  have hm61 : m ≤ 2 ^ 61 := by omega
  have hpe := progOk.okE x2 ok
  repeat walk_at "u"
  rw [prog_frz]
  repeat walk_at "u"
  rw [prog_frz]
  refine i_given m0 hm61 hop (by omega) fun W0 px hW0 hWl0 => ?_
  have hWn0 := env_noF W0
  repeat walk_at "u"
  rw [prog_frz]
  refine i_given m0 hm61 hop (by omega) fun W1 px hW1 hWl1 => ?_
  have hWn1 := env_noF W1
  repeat walk_at "u"
  rw [prog_frz]
  refine i_copy (by omega) (fun b hb => by have := hK b hb; omega) ?_
  have hB0 := env_bareL W0
  have hB1 := env_bareL W1
  have hE0 : VS.bare (.dic false false (W0.map fun p => DK.s (.inr p.1)) (W0.map fun p => D.int p.2)) = true := env_bare W0
  have hE1 : VS.bare (.dic false false (W1.map fun p => DK.s (.inr p.1)) (W1.map fun p => D.int p.2)) = true := env_bare W1
  rw [two_frz, two_dic]
  repeat walk_at "u"
  rw [prog_frz, two_dicT, two_frz, ← two_dic]
  repeat walk_at "u"
  refine i_draw (by omega) (by omega) fun a px a0 a1 => ?_
  repeat walk_at "u"
  refine i_draw (by omega) (by omega) fun c px c0 c1 => ?_
  obtain ⟨n, hn, hat⟩ : ∃ n : Nat, n ≤ 300 ∧ atI [D.int (2 + a), D.int 300] (if (if false = true then !decide (c = 0) else decide (c = 0)) = true then 1 else 0) = some (D.int n) := by
    by_cases h : c = 0
    · subst h; exact ⟨300, by omega, by with_unfolding_all rfl⟩
    · refine ⟨(2 + a).toNat, by omega, ?_⟩
      simp only [h, decide_false, Bool.false_eq_true, if_false]
      rw [show (((2 + a).toNat : Nat) : Int) = 2 + a by omega]
      with_unfolding_all rfl
  have hrun : ∀ (V : WEnv) (n : Nat) (Q : D → VEnv → Prop), GivOk m V → V.length ≤ 400 → n ≤ 300 → Q (ranD true (runS m bs n 0 V [])) [none, none, none] → m_run [progD false m bs, envD false V, .int n] Q := fun V n Q h1 h2 h3 q => i_run m0 hm61 b0 hnb h1.ok hK (by omega) (by omega) q
  have hlrun : ∀ (V : WEnv) (n : Nat) (Q : D → VEnv → Prop), GivOk m V → V.length ≤ 400 → n ≤ 300 → Q (ranD true (runS m bs n 0 V [])) [none, none, none] → m__law_run [progD false m bs, envD false V, .int n] Q := fun V n Q h1 h2 h3 q => i_lrun m0 hm61 b0 hnb h1.ok hK (by omega) (by omega) q
  have hrn := fun V n => ran_noF (runS m bs n 0 V [])
  repeat walk_at "u"
  refine for_ind (fun ws e => ∃ (js : List Nat) (o6 o7 o8 : Option D), ws = js.map (fun (j : Nat) => D.int j) ∧ (∀ j ∈ js, j ≤ 300) ∧ e = [some d, some (purse px py), some (progD false m bs), some (.lst false [envD false W0, envD false W1]), some (progD false m bs), some (.lst false [envD false W0, envD false W1]), o6, o7, o8]) ?_ ?_ _ _ ⟨[0, 1, n], _, _, _, rfl, by simp; omega, rfl⟩
  · rintro e ⟨js, o6, o7, o8, hw, hj, rfl⟩
    repeat walk_at "u"
    exact k
  · rintro x ws e ih ⟨js, o6, o7, o8, hw, hj, rfl⟩
    cases js with
    | nil => simp at hw
    | cons j js =>
      simp only [List.map_cons, List.cons.injEq] at hw
      obtain ⟨rfl, rfl⟩ := hw
      have hj0 := hj j (.head _)
      have nxt := fun o7 o8 => ih [some d, some (purse px py), some (progD false m bs), some (.lst false [envD false W0, envD false W1]), some (progD false m bs), some (.lst false [envD false W0, envD false W1]), some (.int j), o7, o8] ⟨js, _, o7, o8, rfl, fun q hq => hj q (.tail _ hq), rfl⟩
      repeat walk_at "u"
      refine for_ind (fun ws e => ∃ (ks : List Nat) (o7 o8 : Option D), ws = ks.map (fun (j : Nat) => D.int j) ∧ (∀ j ∈ ks, j ≤ 1) ∧ e = [some d, some (purse px py), some (progD false m bs), some (.lst false [envD false W0, envD false W1]), some (progD false m bs), some (.lst false [envD false W0, envD false W1]), some (.int j), o7, o8]) ?_ ?_ _ _ ⟨[0, 1, 0], _, _, rfl, by simp, rfl⟩
      · rintro e ⟨ks, o7, o8, hw, hj, rfl⟩
        exact nxt _ _
      · rintro x ws e ih ⟨ks, o7, o8, hw, hk, rfl⟩
        cases ks with
        | nil => simp at hw
        | cons i ks =>
          simp only [List.map_cons, List.cons.injEq] at hw
          obtain ⟨rfl, rfl⟩ := hw
          have hi := hk i (.head _)
          obtain ⟨W, hW, hWl, hai⟩ : ∃ W, GivOk m W ∧ W.length ≤ 400 ∧ atI [envD false W0, envD false W1] (i : Int) = some (envD false W) := by
            rcases (by omega : i = 0 ∨ i = 1) with rfl | rfl
            · exact ⟨W0, hW0, by omega, by with_unfolding_all rfl⟩
            · exact ⟨W1, hW1, by omega, by with_unfolding_all rfl⟩
          have hWb := env_bare W
          have nx2 := fun o8 => ih [some d, some (purse px py), some (progD false m bs), some (.lst false [envD false W0, envD false W1]), some (progD false m bs), some (.lst false [envD false W0, envD false W1]), some (.int j), some (.int i), o8] ⟨ks, _, o8, rfl, fun q hq => hk q (.tail _ hq), rfl⟩
          have hrj := hrn W j
          repeat walk_at "u"
          rw [prog_frz, env_frz]
          refine hrun W j _ hW hWl hj0 ?_
          repeat walk_at "u"
          refine i_PureT ?_
          rw [frzE_env hdf]
          generalize hR : runS m bs j 0 W [] = R at hrj ⊢
          obtain ⟨T, v⟩ := R
          have hTf : VS.frz (.lst false (T.map D.int)) = .lst false (T.map D.int) := by rw [q_frz1, frzL_int]
          have hTb : VS.bare (.lst false (T.map D.int)) = true := by rw [q_b1, bareL_int]; rfl
          repeat walk_at "u"
          refine i_PureT ?_
          rw [frzE_env hdf]
          repeat walk_at "u"
          rw [hTf]
          refine i_plain1 ?_
          repeat walk_at "u"
          refine i_PureT ?_
          rw [frzE_env hdf]
          repeat walk_at "u"
          rw [prog_frz, env_frz]
          refine hlrun W j _ hW hWl hj0 ?_
          rw [hR]
          have hk1 := ran_ok true (T, v)
          have hk2 := ran_ok false (T, v)
          repeat walk_at "u"
          rw [ran_eq]
          repeat walk_at "u"
          have hTl : (T.map D.int).length ≤ 1000000 := by
            have := runS_len (m := m) hK j 0 W []
            rw [hR] at this
            simp at this ⊢; omega
          refine i_AppendAt ⟨_, .int 0, .int 5, T.map D.int, _, rfl, ?_, rfl, rfl, rfl, hTl, ?_⟩
          · exact ⟨_, rfl⟩
          have hee : eqT (progD false m bs) (progD false m bs) = true := eqT_frz hpe rfl
          repeat walk_at "u"
          rw [hee]
          repeat walk_at "u"
          refine i_neLD ?_
          repeat walk_at "u"
          exact nx2 _
end ON
end
section
set_option maxHeartbeats 4000000
namespace ON
open PySem L2 VS
structure Txt (mg : Str → Option Value) : Prop where
  range : mg "range" = none
  len : mg "len" = none
  list : mg "list" = none
  dict : mg "dict" = none
  int : mg "int" = none
  isinstance : mg "isinstance" = none
  str : mg "str" = none
  tuple : mg "tuple" = none
  bool : mg "bool" = none
def sig (K : PySem.W.Frag) : List Ent := [⟨"plus", 1, ms_plus, m_plus⟩, ⟨"less", 1, ms_less, m_less⟩, ⟨"times", 1, ms_times, m_times⟩, ⟨"below", 1, ms_below, m_below⟩, ⟨"same", 1, ms_same, m_same⟩, ⟨"part_now", 1, ms_part_now, m_part_now⟩, ⟨"worth_now", 2, ms_worth_now, m_worth_now⟩, ⟨"led_on", 2, ms_led_on, m_led_on⟩, ⟨"do_deeds", 3, ms_do_deeds, m_do_deeds⟩, ⟨"run", 4, ms_run, m_run⟩, ⟨"_law_mixed", 1, ms__law_mixed, m__law_mixed⟩, ⟨"_law_purse", 2, ms__law_purse, (m__law_purse (KL K))⟩, ⟨"_law_draw", 1, ms__law_draw, m__law_draw⟩, ⟨"_law_names", 2, ms__law_names, m__law_names⟩, ⟨"_law_part", 2, ms__law_part, m__law_part⟩, ⟨"_law_worth", 3, ms__law_worth, m__law_worth⟩, ⟨"_law_ending", 3, ms__law_ending, m__law_ending⟩, ⟨"_law_program", 4, ms__law_program, m__law_program⟩, ⟨"_law_copy", 1, ms__law_copy, m__law_copy⟩, ⟨"_law_given", 2, ms__law_given, m__law_given⟩, ⟨"_law_at_part", 1, ms__law_at_part, m__law_at_part⟩, ⟨"_law_at_worth", 2, ms__law_at_worth, m__law_at_worth⟩, ⟨"_law_block", 3, ms__law_block, m__law_block⟩, ⟨"_law_run", 4, ms__law_run, m__law_run⟩, ⟨"_law_plainly", 1, ms__law_plainly_b, m__law_plainly_b⟩, ⟨"_law_plainly", 2, ms__law_plainly_0, m__law_plainly_0⟩, ⟨"_law_plainly", 3, ms__law_plainly_1, m__law_plainly_1⟩, ⟨"law", 5, ms_law, (m_law (KL K))⟩]
def top (i : Nat) : Stmt := PySem.Challenge.pw_oncenames_k01_runs.main.body.getD i (.Pass ⟨0, 0, 0, 0⟩)
abbrev s_plus : Stmt := top 1
theorem sc_plus : FnScope ["first", "second", "measure"] ["first", "second", "measure"] (defScope s_plus) := ⟨rfl, rfl, rfl, by decide +kernel, rfl, by decide +kernel, by decide +kernel⟩
abbrev s_less : Stmt := top 2
theorem sc_less : FnScope ["first", "second", "measure"] ["first", "second", "measure"] (defScope s_less) := ⟨rfl, rfl, rfl, by decide +kernel, rfl, by decide +kernel, by decide +kernel⟩
abbrev s_times : Stmt := top 3
theorem sc_times : FnScope ["first", "second", "measure"] ["first", "second", "measure"] (defScope s_times) := ⟨rfl, rfl, rfl, by decide +kernel, rfl, by decide +kernel, by decide +kernel⟩
abbrev s_below : Stmt := top 4
theorem sc_below : FnScope ["first", "second", "measure"] ["first", "second", "measure"] (defScope s_below) := ⟨rfl, rfl, rfl, by decide +kernel, rfl, by decide +kernel, by decide +kernel⟩
abbrev s_same : Stmt := top 5
theorem sc_same : FnScope ["first", "second", "measure"] ["first", "second", "measure"] (defScope s_same) := ⟨rfl, rfl, rfl, by decide +kernel, rfl, by decide +kernel, by decide +kernel⟩
abbrev s_part_now : Stmt := top 11
theorem sc_part_now : FnScope ["part", "worths"] ["part", "worths"] (defScope s_part_now) := ⟨rfl, rfl, rfl, by decide +kernel, rfl, by decide +kernel, by decide +kernel⟩
abbrev s_worth_now : Stmt := top 10
theorem sc_worth_now : FnScope ["worth", "worths", "measure", "op"] ["worth", "worths", "measure"] (defScope s_worth_now) := ⟨rfl, rfl, rfl, by decide +kernel, rfl, by decide +kernel, by decide +kernel⟩
abbrev s_led_on : Stmt := top 9
theorem sc_led_on : FnScope ["ending", "worths"] ["ending", "worths"] (defScope s_led_on) := ⟨rfl, rfl, rfl, by decide +kernel, rfl, by decide +kernel, by decide +kernel⟩
abbrev s_do_deeds : Stmt := top 8
theorem sc_do_deeds : FnScope ["deeds", "worths", "told", "measure", "deed"] ["deeds", "worths", "told", "measure"] (defScope s_do_deeds) := ⟨rfl, rfl, rfl, by decide +kernel, rfl, by decide +kernel, by decide +kernel⟩
abbrev s_run : Stmt := top 7
theorem sc_run : FnScope ["program", "given", "many", "measure", "blocks", "worths", "told", "block", "entered", "deeds", "ending"] ["program", "given", "many"] (defScope s_run) := ⟨rfl, rfl, rfl, by decide +kernel, rfl, by decide +kernel, by decide +kernel⟩
abbrev s__law_mixed : Stmt := top 13
theorem sc__law_mixed : FnScope ["_law_cell", "_law_k", "_law_number"] ["_law_cell", "_law_k"] (defScope s__law_mixed) := ⟨rfl, rfl, rfl, by decide +kernel, rfl, by decide +kernel, by decide +kernel⟩
abbrev s__law_purse : Stmt := top 14
theorem sc__law_purse : FnScope ["_law_script", "_law_cells", "_law_number", "_law_k"] ["_law_script"] (defScope s__law_purse) := ⟨rfl, rfl, rfl, by decide +kernel, rfl, by decide +kernel, by decide +kernel⟩
abbrev s__law_draw : Stmt := top 15
theorem sc__law_draw : FnScope ["_law_purse_here", "_law_out_of", "_law_drawn"] ["_law_purse_here", "_law_out_of"] (defScope s__law_draw) := ⟨rfl, rfl, rfl, by decide +kernel, rfl, by decide +kernel, by decide +kernel⟩
abbrev s__law_names : Stmt := top 16
theorem sc__law_names : FnScope ["_law_purse_here", "_law_letters", "_law_stem", "_law_base", "_law_some"] ["_law_purse_here"] (defScope s__law_names) := ⟨rfl, rfl, rfl, by decide +kernel, rfl, by decide +kernel, by decide +kernel⟩
abbrev s__law_part : Stmt := top 17
theorem sc__law_part : FnScope ["_law_purse_here", "_law_names_here", "_law_measure"] ["_law_purse_here", "_law_names_here", "_law_measure"] (defScope s__law_part) := ⟨rfl, rfl, rfl, by decide +kernel, rfl, by decide +kernel, by decide +kernel⟩
abbrev s__law_worth : Stmt := top 18
theorem sc__law_worth : FnScope ["_law_purse_here", "_law_names_here", "_law_measure", "_law_way", "_law_one"] ["_law_purse_here", "_law_names_here", "_law_measure"] (defScope s__law_worth) := ⟨rfl, rfl, rfl, by decide +kernel, rfl, by decide +kernel, by decide +kernel⟩
abbrev s__law_ending : Stmt := top 19
theorem sc__law_ending : FnScope ["_law_purse_here", "_law_names_here", "_law_measure", "_law_block_here", "_law_many", "_law_way", "_law_one", "_law_other"] ["_law_purse_here", "_law_names_here", "_law_measure", "_law_block_here", "_law_many"] (defScope s__law_ending) := ⟨rfl, rfl, rfl, by decide +kernel, rfl, by decide +kernel, by decide +kernel⟩
abbrev s__law_program : Stmt := top 20
theorem sc__law_program : FnScope ["_law_purse_here", "_law_most", "_law_names_here", "_law_measure", "_law_many", "_law_blocks", "_law_block_here", "_law_deeds", "_law_k", "_law_name"] ["_law_purse_here", "_law_most"] (defScope s__law_program) := ⟨rfl, rfl, rfl, by decide +kernel, rfl, by decide +kernel, by decide +kernel⟩
abbrev s__law_copy : Stmt := top 21
theorem sc__law_copy : FnScope ["_law_program_here"] ["_law_program_here"] (defScope s__law_copy) := ⟨rfl, rfl, rfl, by decide +kernel, rfl, by decide +kernel, by decide +kernel⟩
abbrev s__law_given : Stmt := top 22
theorem sc__law_given : FnScope ["_law_purse_here", "_law_program_here", "_law_given_here", "_law_deeds", "_law_ending_here", "_law_deed", "_law_part_here"] ["_law_purse_here", "_law_program_here"] (defScope s__law_given) := ⟨rfl, rfl, rfl, by decide +kernel, rfl, by decide +kernel, by decide +kernel⟩
abbrev s__law_at_part : Stmt := top 23
theorem sc__law_at_part : FnScope ["_law_part_here", "_law_worths"] ["_law_part_here", "_law_worths"] (defScope s__law_at_part) := ⟨rfl, rfl, rfl, by decide +kernel, rfl, by decide +kernel, by decide +kernel⟩
abbrev s__law_at_worth : Stmt := top 24
theorem sc__law_at_worth : FnScope ["_law_worth_here", "_law_worths", "_law_measure", "_law_one", "_law_other"] ["_law_worth_here", "_law_worths", "_law_measure"] (defScope s__law_at_worth) := ⟨rfl, rfl, rfl, by decide +kernel, rfl, by decide +kernel, by decide +kernel⟩
abbrev s__law_block : Stmt := top 25
theorem sc__law_block : FnScope ["_law_deeds", "_law_ending_here", "_law_worths", "_law_measure", "_law_told", "_law_deed"] ["_law_deeds", "_law_ending_here", "_law_worths", "_law_measure", "_law_told"] (defScope s__law_block) := ⟨rfl, rfl, rfl, by decide +kernel, rfl, by decide +kernel, by decide +kernel⟩
abbrev s__law_run : Stmt := top 26
theorem sc__law_run : FnScope ["_law_program_here", "_law_given_here", "_law_many", "_law_worths", "_law_told", "_law_here", "_law_turn", "_law_deeds", "_law_ending_here"] ["_law_program_here", "_law_given_here", "_law_many"] (defScope s__law_run) := ⟨rfl, rfl, rfl, by decide +kernel, rfl, by decide +kernel, by decide +kernel⟩
abbrev s__law_plainly_b : Stmt := top 27
abbrev s__law_plainly_0 : Stmt := top 27
theorem sc__law_plainly_0 : FnScope ["_law_found"] ["_law_found"] (defScope s__law_plainly_0) := ⟨rfl, rfl, rfl, by decide +kernel, rfl, by decide +kernel, by decide +kernel⟩
abbrev s__law_plainly_1 : Stmt := top 27
theorem sc__law_plainly_1 : FnScope ["_law_found"] ["_law_found"] (defScope s__law_plainly_1) := ⟨rfl, rfl, rfl, by decide +kernel, rfl, by decide +kernel, by decide +kernel⟩
abbrev s_law : Stmt := top 28
theorem sc_law : FnScope ["_law_script", "_law_purse_here", "_law_program_here", "_law_given_here", "_law_handed", "_law_kept", "_law_many", "_law_k", "_law_found"] ["_law_script"] (defScope s_law) := ⟨rfl, rfl, rfl, by decide +kernel, rfl, by decide +kernel, by decide +kernel⟩
section
variable {P : Program} {w : World} {K : PySem.W.Frag} {mg : Str → Option Value} {base : Heap} {f : Addr} {fd : FuncData}
theorem ok_plus (F : Fun K "plus" "plus" s_plus f fd) (T : Txt mg) (G : Gs P w K mg base (sig K) 0) : FnOk P w K mg base CX0 1 f fd ["first", "second", "measure"] (spU ms_plus m_plus) :=
  okF F sc_plus rfl (by decide) pure_plus fun cdv A outer s H E hr hu hu64 =>
    (vss_one (vs_ret (ve_op2 op_mod fn_int (ve_op2 op_add fn_int0 pP pP) pP)))
theorem ok_less (F : Fun K "less" "less" s_less f fd) (T : Txt mg) (G : Gs P w K mg base (sig K) 1) : FnOk P w K mg base CX0 1 f fd ["first", "second", "measure"] (spU ms_less m_less) :=
  okF F sc_less rfl (by decide) pure_less fun cdv A outer s H E hr hu hu64 =>
    (vss_one (vs_ret (ve_op2 op_mod fn_int (ve_op2 op_sub fn_int0 pP pP) pP)))
theorem ok_times (F : Fun K "times" "times" s_times f fd) (T : Txt mg) (G : Gs P w K mg base (sig K) 2) : FnOk P w K mg base CX0 1 f fd ["first", "second", "measure"] (spU ms_times m_times) :=
  okF F sc_times rfl (by decide) pure_times fun cdv A outer s H E hr hu hu64 =>
    (vss_one (vs_ret (ve_op2 op_mod fn_int (ve_op2 op_mul fn_int pP pP) pP)))
theorem ok_below (F : Fun K "below" "below" s_below f fd) (T : Txt mg) (G : Gs P w K mg base (sig K) 3) : FnOk P w K mg base CX0 1 f fd ["first", "second", "measure"] (spU ms_below m_below) :=
  okF F sc_below rfl (by decide) pure_below fun cdv A outer s H E hr hu hu64 =>
    (vss_one (vs_ret (ve_if (vt_cmp2 op_lt fn_bl0 pP pP (nomark _)) ve_int ve_int)))
theorem ok_same (F : Fun K "same" "same" s_same f fd) (T : Txt mg) (G : Gs P w K mg base (sig K) 4) : FnOk P w K mg base CX0 1 f fd ["first", "second", "measure"] (spU ms_same m_same) :=
  okF F sc_same rfl (by decide) pure_same fun cdv A outer s H E hr hu hu64 =>
    (vss_one (vs_ret (ve_if (vt_cmp2 op_eq fn_eq pP pP (nomark _)) ve_int ve_int)))
theorem ok_part_now (F : Fun K "part_now" "part_now" s_part_now f fd) (T : Txt mg) (G : Gs P w K mg base (sig K) 5) : FnOk P w K mg base CX0 1 f fd ["part", "worths"] (spU ms_part_now m_part_now) :=
  okF F sc_part_now rfl (by decide) pure_part_now fun cdv A outer s H E hr hu hu64 =>
    (vss_one (vs_ret (ve_if (vt_cmp2 op_eq fn_eq (eT pP ve_int) ve_str (nomark _)) (eT pP ve_int) (g2 pP (eT pP ve_int) ve_int))))
theorem ok_worth_now (F : Fun K "worth_now" "worth_now" s_worth_now f fd) (T : Txt mg) (G : Gs P w K mg base (sig K) 6) {a_OPS a_plus a_less a_times a_below a_same : Addr} (m_OPS : mg "OPS" = some (.ref a_OPS)) (D_OPS : ModD P w base a_OPS (opsK [("plus", a_plus), ("less", a_less), ("times", a_times), ("below", a_below), ("same", a_same)])) (L_OPS : ∀ a m, opS a_plus a_less a_times a_below a_same a m → OwnAt P w K mg base a 1 (spU ms_plus m)) : FnOk P w K mg base CX0 2 f fd ["worth", "worths", "measure"] (spU ms_worth_now m_worth_now) :=
  okF F sc_worth_now rfl (by decide) (pure_worth_now a_plus a_less a_times a_below a_same) fun cdv A outer s H E hr hu hu64 =>
    (vss_cons (vs_if (vt_cmp (oO m_OPS D_OPS (eT pP ve_int)))
      (vss_one (vs_ret (cl (G.at 5) (va_cons pP (va_cons pP va_nil)))))
      vss_nil)
      (vss_cons (sO (oG m_OPS D_OPS (eT pP ve_int)))
      (vss_one (vs_ret (cL L_OPS (va_cons (cl (G.at 5) (va_cons (eT pP ve_int) (va_cons pP va_nil))) (va_cons (cl (G.at 5) (va_cons (eT pP ve_int) (va_cons pP va_nil))) (va_cons pP va_nil))))))))
theorem ok_led_on (F : Fun K "led_on" "led_on" s_led_on f fd) (T : Txt mg) (G : Gs P w K mg base (sig K) 7) : FnOk P w K mg base CX0 2 f fd ["ending", "worths"] (spU ms_led_on m_led_on) :=
  okF F sc_led_on rfl (by decide) pure_led_on fun cdv A outer s H E hr hu hu64 =>
    (vss_cons (vs_if (vt_cmp2 op_eq fn_eq (eT pP ve_int) ve_str (nomark _))
      (vss_one (vs_ret (eT pP ve_int)))
      vss_nil)
      (vss_one (vs_ret (ve_if (vt_cmp2 op_ne fn_ne (cl (G.at 5) (va_cons (eT pP ve_int) (va_cons pP va_nil))) ve_int (nomark _)) (eT pP ve_int) (eT pP ve_int)))))
theorem ok_do_deeds (F : Fun K "do_deeds" "do_deeds" s_do_deeds f fd) (T : Txt mg) (G : Gs P w K mg base (sig K) 8) : FnOk P w K mg base CX0 3 f fd ["deeds", "worths", "told", "measure"] (spU ms_do_deeds m_do_deeds) :=
  okF F sc_do_deeds rfl (by decide) pure_do_deeds fun cdv A outer s H E hr hu hu64 =>
    (vss_one (vs_for PassesOwn.never rfl (vi_list pP) gN
      (vss_one (vs_if (vt_cmp2 op_eq fn_eq (eT pP ve_int) ve_str (nomark _))
      (vss_one (dP (eT pP ve_int) (cl (G.at 6) (va_cons (eT pP ve_int) (va_cons pP (va_cons pP va_nil))))))
      (vss_one (mA (va_cons (cl (G.at 5) (va_cons (eT pP ve_int) (va_cons pP va_nil))) va_nil)))))))
theorem ok_run (F : Fun K "run" "run" s_run f fd) (T : Txt mg) (G : Gs P w K mg base (sig K) 9) : FnOk P w K mg base CX0 4 f fd ["program", "given", "many"] (spU ms_run m_run) :=
  okF F sc_run rfl (by decide) pure_run fun cdv A outer s H E hr hu hu64 =>
    (vss_cons (vs_asg pC (vg_tup rfl (vgs_cons gN (vgs_cons gF vgs_nil))))
      (vss_cons (sO (nD T.dict (va_cons pP va_nil)))
      (vss_cons (sO (ve_lst va_nil))
      (vss_cons (sO ve_int)
      (vss_cons (vs_for PassesOwn.never rfl (iR T.range (va_cons pC va_nil)) gN
      (vss_cons (vs_asg (eL pP pP) (vg_tup rfl (vgs_cons gF (vgs_cons gF vgs_nil))))
      (vss_cons (vs_expr (cl (G.at 8) (va_cons pP (va_cons pP (va_cons pP (va_cons pP va_nil))))))
      (vss_cons (vs_if (vt_cmp2 op_eq fn_eq (eT pP ve_int) ve_str (nomark _))
      (vss_one (vs_ret (ve_tup (va_cons pM (va_cons ve_bl va_nil)))))
      vss_nil)
      (vss_one (sO (cl (G.at 7) (va_cons pP (va_cons pP va_nil)))))))))
      (vss_one (vs_ret (ve_tup (va_cons pM (va_cons ve_bl va_nil))))))))))
theorem ok__law_mixed (F : Fun K "_law_mixed" "_law_mixed" s__law_mixed f fd) (T : Txt mg) (G : Gs P w K mg base (sig K) 10) : FnOk P w K mg base CX0 1 f fd ["_law_cell", "_law_k"] (spU ms__law_mixed m__law_mixed) :=
  okF F sc__law_mixed rfl (by decide) pure__law_mixed fun cdv A outer s H E hr hu hu64 =>
    (vss_cons (sO (ve_op2 op_mod fn_int pP ve_int))
      (vss_cons (sO (ve_op2 op_mod fn_int (ve_op2 op_mul fn_int (ve_op2 op_add fn_int0 (ve_op2 op_add fn_int0 (ve_op2 op_add fn_int0 (ve_op2 op_mul fn_int pP pP) (ve_op2 op_mul fn_int ve_int pP)) (ve_op2 op_mul fn_int ve_int pP)) ve_int) ve_int) ve_int))
      (vss_cons (sO (ve_op2 op_mod fn_int (ve_op2 op_add fn_int0 (ve_op2 op_mul fn_int pP pP) ve_int) ve_int))
      (vss_one (vs_ret (ve_op2 op_mod fn_int (ve_op2 op_mul fn_int pP (ve_op2 op_add fn_int0 pP ve_int)) ve_int))))))
theorem ok__law_purse (F : Fun K "_law_purse" "_law_purse" s__law_purse f fd) (T : Txt mg) (G : Gs P w K mg base (sig K) 11) : FnOk P w K mg base CX0 2 f fd ["_law_script"] (spU ms__law_purse (m__law_purse (KL K))) :=
  okF F sc__law_purse rfl (by decide) pure__law_purse fun cdv A outer s H E hr hu hu64 =>
    (vss_cons (sF (ve_op2 op_catG fn_cat (ve_sliceS pP vo_none (vo_some ve_int)) (ve_lst (va_cons ve_int va_nil))))
      (vss_cons (sO ve_int)
      (vss_cons (vs_for PassesOwn.never rfl (iR T.range (va_cons ve_int va_nil)) gN
      (vss_one (sO (ve_op2 op_add fn_int0 (ve_op2 op_mul fn_int pP ve_int) (cl (G.at 10) (va_cons (eL pP (ve_op2 op_mod fn_int pP (nL T.len (va_cons pP va_nil)))) (va_cons pP va_nil)))))))
      (vss_cons (vs_if (vt_cmp2 op_ge fn_bl0 (eL pP ve_int) (ve_op2 op_pow fn_int ve_int ve_int) (nomark _))
      (vss_one (vs_ret (ve_lst (va_cons (ve_op2 op_fdivL fn_int (eL pP ve_int) (ve_op2 op_pow fn_int ve_int ve_int)) (va_cons pC va_nil)))))
      vss_nil)
      (vss_one (vs_ret (ve_lst (va_cons pC (va_cons pC va_nil)))))))))
theorem ok__law_draw (F : Fun K "_law_draw" "_law_draw" s__law_draw f fd) (T : Txt mg) (G : Gs P w K mg base (sig K) 12) : FnOk P w K mg base CX0 1 f fd ["_law_purse_here", "_law_out_of"] (spU ms__law_draw m__law_draw) :=
  okF F sc__law_draw rfl (by decide) pure__law_draw fun cdv A outer s H E hr hu hu64 =>
    (vss_cons (vs_if (vt_cmp2 op_eq fn_eq (eL pP ve_int) ve_int (nomark _))
      (vss_one (lP ve_int (eL pP ve_int)))
      vss_nil)
      (vss_cons (sO (ve_op2 op_mod fn_int (eL pP ve_int) pP))
      (vss_cons (lP ve_int (ve_op2 op_fdivL fn_int (eL pP ve_int) pP))
      (vss_one (vs_ret pC)))))
theorem ok__law_names (F : Fun K "_law_names" "_law_names" s__law_names f fd) (T : Txt mg) (G : Gs P w K mg base (sig K) 13) : FnOk P w K mg base CX0 2 f fd ["_law_purse_here"] (spU ms__law_names m__law_names) :=
  okF F sc__law_names rfl (by decide) pure__law_names fun cdv A outer s H E hr hu hu64 =>
    (vss_cons (sO ve_str)
      (vss_cons (sO (ve_op2 op_mulS fn_mulS (eS pP (cl (G.at 12) (va_cons pP (va_cons ve_int va_nil)))) (cl (G.at 12) (va_cons pP (va_cons ve_int va_nil)))))
      (vss_cons (sO (cl (G.at 12) (va_cons pP (va_cons ve_int va_nil))))
      (vss_cons (sO (ve_op2 op_catG fn_cat (ve_comp (cscX (ks := ["_law_k"]) (N2 := ["#0", "_law_letters", "_law_stem", "_law_base", "#4"]) (by decide +kernel)) rfl (iR T.range (va_cons ve_int va_nil)) (fun _ _ _ _ _ => gN) (fun _ _ _ _ _ => vts_nil) (fun _ _ _ _ _ => (ve_op2 op_add_str fn_addS pP (eS pP (ve_op2 op_mod fn_int (ve_op2 op_add fn_int0 pP (ve_op2 op_mul fn_int ve_int pP)) ve_int))))) (ve_lst (va_cons (ve_op2 op_add_str fn_addS pP ve_str) va_nil))))
      (vss_cons (vs_if (vt_cmp2 op_eq fn_eq (cl (G.at 12) (va_cons pP (va_cons ve_int va_nil))) ve_int (nomark _))
      (vss_one (vs_ret (ve_comp (cscX (ks := ["_law_k"]) (N2 := ["#0", "_law_letters", "_law_stem", "_law_base", "#4"]) (by decide +kernel)) rfl (iR T.range (va_cons ve_int va_nil)) (fun _ _ _ _ _ => gN) (fun _ _ _ _ _ => vts_nil) (fun _ _ _ _ _ => (ve_op2 op_add_str fn_addS pP (eS pP (ve_op2 op_mod fn_int (ve_op2 op_add fn_int0 pP (ve_op2 op_mul fn_int ve_int pP)) ve_int)))))))
      vss_nil)
      (vss_one (vs_ret (ve_slice pP vo_none (vo_some (ve_op2 op_add fn_int0 ve_int (cl (G.at 12) (va_cons pP (va_cons ve_int va_nil)))))))))))))
theorem ok__law_part (F : Fun K "_law_part" "_law_part" s__law_part f fd) (T : Txt mg) (G : Gs P w K mg base (sig K) 14) : FnOk P w K mg base CX0 2 f fd ["_law_purse_here", "_law_names_here", "_law_measure"] (spU ms__law_part m__law_part) :=
  okF F sc__law_part rfl (by decide) pure__law_part fun cdv A outer s H E hr hu hu64 =>
    (vss_cons (vs_if (vt_cmp2 op_eq fn_eq (cl (G.at 12) (va_cons pP (va_cons ve_int va_nil))) ve_int (nomark _))
      (vss_one (vs_ret (ve_tup (va_cons ve_str (va_cons (eL (ve_lst (va_cons ve_int (va_cons ve_int (va_cons (ve_op2 op_sub fn_int0 pP ve_int) (va_cons (cl (G.at 12) (va_cons pP (va_cons pP va_nil))) va_nil))))) (cl (G.at 12) (va_cons pP (va_cons ve_int va_nil)))) va_nil)))))
      vss_nil)
      (vss_one (vs_ret (ve_tup (va_cons ve_str (va_cons (eL pP (cl (G.at 12) (va_cons pP (va_cons (nL T.len (va_cons pP va_nil)) va_nil)))) va_nil))))))
theorem ok__law_worth (F : Fun K "_law_worth" "_law_worth" s__law_worth f fd) (T : Txt mg) (G : Gs P w K mg base (sig K) 15) : FnOk P w K mg base CX0 3 f fd ["_law_purse_here", "_law_names_here", "_law_measure"] (spU ms__law_worth m__law_worth) :=
  okF F sc__law_worth rfl (by decide) pure__law_worth fun cdv A outer s H E hr hu hu64 =>
    (vss_cons (sO (cl (G.at 12) (va_cons pP (va_cons ve_int va_nil))))
      (vss_cons (sF (cl (G.at 14) (va_cons pP (va_cons pP (va_cons pP va_nil)))))
      (vss_cons (vs_if (vt_cmp2 op_lt fn_bl0 pP ve_int (nomark _))
      (vss_one (vs_ret pC))
      vss_nil)
      (vss_one (vs_ret (ve_tup (va_cons (eL (ve_lst (va_cons ve_str (va_cons ve_str (va_cons ve_str (va_cons ve_str (va_cons ve_str (va_cons ve_str va_nil))))))) (ve_op2 op_sub fn_int0 pP ve_int)) (va_cons pC (va_cons (cl (G.at 14) (va_cons pP (va_cons pP (va_cons pP va_nil)))) va_nil)))))))))
theorem ok__law_ending (F : Fun K "_law_ending" "_law_ending" s__law_ending f fd) (T : Txt mg) (G : Gs P w K mg base (sig K) 16) : FnOk P w K mg base CX0 3 f fd ["_law_purse_here", "_law_names_here", "_law_measure", "_law_block_here", "_law_many"] (spU ms__law_ending m__law_ending) :=
  okF F sc__law_ending rfl (by decide) pure__law_ending fun cdv A outer s H E hr hu hu64 =>
    (vss_cons (sO (cl (G.at 12) (va_cons pP (va_cons ve_int va_nil))))
      (vss_cons (sO (eL (ve_lst (va_cons (ve_op2 op_mod fn_int (ve_op2 op_add fn_int0 pP ve_int) pP) (va_cons (cl (G.at 12) (va_cons pP (va_cons pP va_nil))) va_nil))) (cl (G.at 12) (va_cons pP (va_cons ve_int va_nil)))))
      (vss_cons (sO (eL (ve_lst (va_cons (ve_op2 op_mod fn_int (ve_op2 op_add fn_int0 pP ve_int) pP) (va_cons (cl (G.at 12) (va_cons pP (va_cons pP va_nil))) va_nil))) (cl (G.at 12) (va_cons pP (va_cons ve_int va_nil)))))
      (vss_cons (vs_if (vt_cmp2 op_eq fn_eq pP ve_int (nomark _))
      (vss_one (vs_ret (ve_tup (va_cons ve_str va_nil))))
      vss_nil)
      (vss_cons (vs_if (vt_cmp2 op_lt fn_bl0 pP ve_int (nomark _))
      (vss_one (vs_ret (ve_tup (va_cons ve_str (va_cons pC va_nil)))))
      vss_nil)
      (vss_one (vs_ret (ve_tup (va_cons ve_str (va_cons (cl (G.at 14) (va_cons pP (va_cons pP (va_cons pP va_nil)))) (va_cons pC (va_cons pC va_nil))))))))))))
theorem ok__law_program (F : Fun K "_law_program" "_law_program" s__law_program f fd) (T : Txt mg) (G : Gs P w K mg base (sig K) 17) : FnOk P w K mg base CX0 4 f fd ["_law_purse_here", "_law_most"] (spU ms__law_program m__law_program) :=
  okF F sc__law_program rfl (by decide) pure__law_program fun cdv A outer s H E hr hu hu64 =>
    (vss_cons (sF (cl (G.at 13) (va_cons pP va_nil)))
      (vss_cons (sO (eL (ve_lst (va_cons ve_int (va_cons ve_int (va_cons ve_int (va_cons (ve_op2 op_pow fn_int ve_int ve_int) (va_cons (ve_op2 op_add fn_int0 ve_int (cl (G.at 12) (va_cons pP (va_cons ve_int va_nil)))) va_nil)))))) (cl (G.at 12) (va_cons pP (va_cons ve_int va_nil)))))
      (vss_cons (sO (ve_op2 op_add fn_int0 ve_int (cl (G.at 12) (va_cons pP (va_cons pP va_nil)))))
      (vss_cons (vs_if (vw_and (vt_cmp2 op_gt fn_bl0 pP ve_int (nomark _)) (vw_and1 (vt_cmp2 op_eq fn_eq (cl (G.at 12) (va_cons pP (va_cons ve_int va_nil))) ve_int (nomark _)))).vt
      (vss_cons (sO ve_int)
      (vss_one (sF (ve_slice pP vo_none (vo_some ve_int)))))
      vss_nil)
      (vss_cons (sO (ve_lst va_nil))
      (vss_cons (vs_for PassesOwn.never rfl (iR T.range (va_cons pC va_nil)) gN
      (vss_cons (sO (ve_lst va_nil))
      (vss_cons (vs_for PassesOwn.never rfl (iR T.range (va_cons (cl (G.at 12) (va_cons pP (va_cons ve_int va_nil))) va_nil)) gN
      (vss_one (vs_if (vt_cmp2 op_eq fn_eq (cl (G.at 12) (va_cons pP (va_cons ve_int va_nil))) ve_int (nomark _))
      (vss_one (mA (va_cons (ve_tup (va_cons ve_str (va_cons (cl (G.at 14) (va_cons pP (va_cons pP (va_cons pP va_nil)))) va_nil))) va_nil)))
      (vss_cons (sO (eL pP (cl (G.at 12) (va_cons pP (va_cons (nL T.len (va_cons pP va_nil)) va_nil)))))
      (vss_one (mA (va_cons (ve_tup (va_cons ve_str (va_cons pC (va_cons (cl (G.at 15) (va_cons pP (va_cons pP (va_cons pP va_nil)))) va_nil)))) va_nil)))))))
      (vss_one (mA (va_cons (ve_tup (va_cons pM (va_cons (cl (G.at 16) (va_cons pP (va_cons pP (va_cons pP (va_cons pP (va_cons pP va_nil)))))) va_nil))) va_nil))))))
      (vss_one (vs_ret (ve_tup (va_cons pC (va_cons pM va_nil)))))))))))
theorem ok__law_copy (F : Fun K "_law_copy" "_law_copy" s__law_copy f fd) (T : Txt mg) (G : Gs P w K mg base (sig K) 18) : FnOk P w K mg base CX0 1 f fd ["_law_program_here"] (spU ms__law_copy m__law_copy) :=
  okF F sc__law_copy rfl (by decide) pure__law_copy fun cdv A outer s H E hr hu hu64 =>
    (vss_one (vs_ret (ve_tup (va_cons (eT pP ve_int) (va_cons (ve_comp (cscX (ks := ["_law_deeds", "_law_ending_here"]) (N2 := ["#0"]) (by decide +kernel)) rfl (vi_list (eT pP ve_int)) (fun _ _ _ _ _ => (vg_tup rfl (vgs_cons gN (vgs_cons gN vgs_nil)))) (fun _ _ _ _ _ => vts_nil) (fun _ _ _ _ _ => (ve_tup (va_cons (nT T.list (va_cons pP va_nil)) (va_cons pC va_nil))))) va_nil)))))
theorem ok__law_given (F : Fun K "_law_given" "_law_given" s__law_given f fd) (T : Txt mg) (G : Gs P w K mg base (sig K) 19) : FnOk P w K mg base CX0 2 f fd ["_law_purse_here", "_law_program_here"] (spU ms__law_given m__law_given) :=
  okF F sc__law_given rfl (by decide) pure__law_given fun cdv A outer s H E hr hu hu64 =>
    (vss_cons (sO (ve_disp1 ve_str ve_int))
      (vss_cons (vs_for PassesOwn.never rfl (vi_list (eT pP ve_int)) (vg_tup rfl (vgs_cons gN (vgs_cons gN vgs_nil)))
      (vss_one (vs_for PassesOwn.never rfl (vi_list pP) gN
      (vss_one (vs_for PassesOwn.never rfl (vi_tup (ve_sliceT pP (vo_some ve_int) vo_none)) gN
      (vss_cons (vs_if (vw_and (vt_truth (is_str T.isinstance T.str pP) (fun _ => rfl)) (vw_and1 (vt_cmp2 op_eq fn_eq (cl (G.at 12) (va_cons pP (va_cons ve_int va_nil))) ve_int (nomark _)))).vt
      (vss_one (dP pP (cl (G.at 12) (va_cons pP (va_cons (eT pP ve_int) va_nil)))))
      vss_nil)
      (vss_one (vs_if (vw_and (vt_truth (is_tup T.isinstance T.tuple pP) (fun _ => rfl)) (vw_and (vt_cmp2 op_eq fn_eq (eT pP ve_int) ve_str (nomark _)) (vw_and1 (vt_cmp2 op_gt fn_bl0 (cl (G.at 12) (va_cons pP (va_cons ve_int va_nil))) ve_int (nomark _))))).vt
      (vss_one (dP (eT pP ve_int) (cl (G.at 12) (va_cons pP (va_cons (eT pP ve_int) va_nil)))))
      vss_nil))))))))
      (vss_one (vs_ret pM))))
theorem ok__law_at_part (F : Fun K "_law_at_part" "_law_at_part" s__law_at_part f fd) (T : Txt mg) (G : Gs P w K mg base (sig K) 20) : FnOk P w K mg base CX0 1 f fd ["_law_part_here", "_law_worths"] (spU ms__law_at_part m__law_at_part) :=
  okF F sc__law_at_part rfl (by decide) pure__law_at_part fun cdv A outer s H E hr hu hu64 =>
    (vss_cons (vs_if (vt_cmp2 op_eq fn_eq (eT pP ve_int) ve_str (nomark _))
      (vss_one (vs_ret (eT pP ve_int)))
      vss_nil)
      (vss_one (vs_ret (g2 pP (eT pP ve_int) ve_int))))
theorem ok__law_at_worth (F : Fun K "_law_at_worth" "_law_at_worth" s__law_at_worth f fd) (T : Txt mg) (G : Gs P w K mg base (sig K) 21) : FnOk P w K mg base CX0 2 f fd ["_law_worth_here", "_law_worths", "_law_measure"] (spU ms__law_at_worth m__law_at_worth) :=
  okF F sc__law_at_worth rfl (by decide) pure__law_at_worth fun cdv A outer s H E hr hu hu64 =>
    (vss_cons (vs_if (vt_cmp2 op_in_seq fn_in (eT pP ve_int) (ve_lst (va_cons ve_str (va_cons ve_str va_nil))) (by with_unfolding_all rfl))
      (vss_one (vs_ret (cl (G.at 20) (va_cons pP (va_cons pP va_nil)))))
      vss_nil)
      (vss_cons (sO (cl (G.at 20) (va_cons (eT pP ve_int) (va_cons pP va_nil))))
      (vss_cons (sO (cl (G.at 20) (va_cons (eT pP ve_int) (va_cons pP va_nil))))
      (vss_cons (vs_if (vt_cmp2 op_eq fn_eq (eT pP ve_int) ve_str (nomark _))
      (vss_one (vs_ret (ve_op2 op_mod fn_int (ve_op2 op_add fn_int0 pP pP) pP)))
      vss_nil)
      (vss_cons (vs_if (vt_cmp2 op_eq fn_eq (eT pP ve_int) ve_str (nomark _))
      (vss_one (vs_ret (ve_op2 op_mod fn_int (ve_op2 op_sub fn_int0 pP pP) pP)))
      vss_nil)
      (vss_cons (vs_if (vt_cmp2 op_eq fn_eq (eT pP ve_int) ve_str (nomark _))
      (vss_one (vs_ret (ve_op2 op_mod fn_int (ve_op2 op_mul fn_int pP pP) pP)))
      vss_nil)
      (vss_cons (vs_if (vt_cmp2 op_eq fn_eq (eT pP ve_int) ve_str (nomark _))
      (vss_one (vs_ret (nI T.int (va_cons (ve_cmp2 op_lt fn_bl0 pP pP (nomark _)) va_nil))))
      vss_nil)
      (vss_one (vs_ret (nI T.int (va_cons (ve_cmp2 op_eq fn_eq pP pP (nomark _)) va_nil)))))))))))
theorem ok__law_block (F : Fun K "_law_block" "_law_block" s__law_block f fd) (T : Txt mg) (G : Gs P w K mg base (sig K) 22) : FnOk P w K mg base CX0 3 f fd ["_law_deeds", "_law_ending_here", "_law_worths", "_law_measure", "_law_told"] (spU ms__law_block m__law_block) :=
  okF F sc__law_block rfl (by decide) pure__law_block fun cdv A outer s H E hr hu hu64 =>
    (vss_cons (vs_for PassesOwn.never rfl (vi_list pP) gN
      (vss_one (vs_if (vt_cmp2 op_eq fn_eq (eT pP ve_int) ve_str (nomark _))
      (vss_one (dP (eT pP ve_int) (cl (G.at 21) (va_cons (eT pP ve_int) (va_cons pP (va_cons pP va_nil))))))
      (vss_one (mA (va_cons (cl (G.at 20) (va_cons (eT pP ve_int) (va_cons pP va_nil))) va_nil))))))
      (vss_cons (vs_if (vt_cmp2 op_eq fn_eq (eT pP ve_int) ve_str (nomark _))
      (vss_one (vs_ret (ve_neg ve_int)))
      vss_nil)
      (vss_cons (vs_if (vt_cmp2 op_eq fn_eq (eT pP ve_int) ve_str (nomark _))
      (vss_one (vs_ret (eT pP ve_int)))
      vss_nil)
      (vss_cons (vs_if (vt_cmp2 op_eq fn_eq (cl (G.at 20) (va_cons (eT pP ve_int) (va_cons pP va_nil))) ve_int (nomark _))
      (vss_one (vs_ret (eT pP ve_int)))
      vss_nil)
      (vss_one (vs_ret (eT pP ve_int)))))))
theorem ok__law_run (F : Fun K "_law_run" "_law_run" s__law_run f fd) (T : Txt mg) (G : Gs P w K mg base (sig K) 23) : FnOk P w K mg base CX0 4 f fd ["_law_program_here", "_law_given_here", "_law_many"] (spU ms__law_run m__law_run) :=
  okF F sc__law_run rfl (by decide) pure__law_run fun cdv A outer s H E hr hu hu64 =>
    (vss_cons (sO (ve_dcopy pP))
      (vss_cons (sO (ve_lst va_nil))
      (vss_cons (sO ve_int)
      (vss_cons (vs_for PassesOwn.never rfl (iR T.range (va_cons pC va_nil)) gN
      (vss_cons (vs_asg (eL (eT pP ve_int) pP) (vg_tup rfl (vgs_cons gF (vgs_cons gF vgs_nil))))
      (vss_cons (sO (cl (G.at 22) (va_cons pP (va_cons pP (va_cons pP (va_cons (eT pP ve_int) (va_cons pP va_nil)))))))
      (vss_one (vs_if (vt_cmp2 op_lt fn_bl0 pP ve_int (nomark _))
      (vss_one (vs_ret (ve_tup (va_cons pM (va_cons ve_bl va_nil)))))
      vss_nil)))))
      (vss_one (vs_ret (ve_tup (va_cons pM (va_cons ve_bl va_nil)))))))))
theorem ok__law_plainly_b : FnOk P w K mg base CX0 1 f fd ["_law_found"] (spU ms__law_plainly_b m__law_plainly_b) := fn_bot rfl
theorem ok__law_plainly_0 (F : Fun K "_law_plainly" "_law_plainly" s__law_plainly_0 f fd) (T : Txt mg) (G : Gs P w K mg base (sig K) 25) : FnOk P w K mg base CX0 2 f fd ["_law_found"] (spU ms__law_plainly_0 m__law_plainly_0) :=
  okF F sc__law_plainly_0 rfl (by decide) pure__law_plainly_0 fun cdv A outer s H E hr hu hu64 =>
    (vss_cons (vs_if (vw_or (vt_truth (is_tup T.isinstance T.tuple pP) (fun _ => rfl)) (vw_or1 (vt_truth (is_lst T.isinstance T.list pP) (fun _ => rfl)))).vt
      (vss_one (vs_ret (ve_cmp2 op_eq fn_eq (nL T.len (va_cons (ve_comp (cscX (ks := ["_law_part_here"]) (N2 := ["#0"]) (by decide +kernel)) rfl (vi_list pP) (fun _ _ _ _ _ => gN) (fun _ _ _ _ _ => (vts_one (vt_not (vt_truth (cl (G.at 24) (va_cons pP va_nil)) (fun _ => rfl))))) (fun _ _ _ _ _ => pC)) va_nil)) ve_int (nomark _))))
      vss_nil)
      (vss_cons (vs_if (vw_or (vt_cmp (vc_isN pP)) (vw_or1 (vt_truth (is_str T.isinstance T.str pP) (fun _ => rfl)))).vt
      (vss_one (vs_ret ve_bl))
      vss_nil)
      (vss_one (vs_ret (ve_and (is_int T.isinstance T.int pP) (ve_one (ve_not (is_bool T.isinstance T.bool pP))))))))
theorem ok__law_plainly_1 (F : Fun K "_law_plainly" "_law_plainly" s__law_plainly_1 f fd) (T : Txt mg) (G : Gs P w K mg base (sig K) 26) : FnOk P w K mg base CX0 3 f fd ["_law_found"] (spU ms__law_plainly_1 m__law_plainly_1) :=
  okF F sc__law_plainly_1 rfl (by decide) pure__law_plainly_1 fun cdv A outer s H E hr hu hu64 =>
    (vss_cons (vs_if (vw_or (vt_truth (is_tup T.isinstance T.tuple pP) (fun _ => rfl)) (vw_or1 (vt_truth (is_lst T.isinstance T.list pP) (fun _ => rfl)))).vt
      (vss_one (vs_ret (ve_cmp2 op_eq fn_eq (nL T.len (va_cons (ve_comp (cscX (ks := ["_law_part_here"]) (N2 := ["#0"]) (by decide +kernel)) rfl (vi_list pP) (fun _ _ _ _ _ => gN) (fun _ _ _ _ _ => (vts_one (vt_not (vt_truth (cl (G.at 25) (va_cons pP va_nil)) (fun _ => rfl))))) (fun _ _ _ _ _ => pC)) va_nil)) ve_int (nomark _))))
      vss_nil)
      (vss_cons (vs_if (vw_or (vt_cmp (vc_isN pP)) (vw_or1 (vt_truth (is_str T.isinstance T.str pP) (fun _ => rfl)))).vt
      (vss_one (vs_ret ve_bl))
      vss_nil)
      (vss_one (vs_ret (ve_and (is_int T.isinstance T.int pP) (ve_one (ve_not (is_bool T.isinstance T.bool pP))))))))
theorem ok_law (F : Fun K "law" "law" s_law f fd) (T : Txt mg) (G : Gs P w K mg base (sig K) 27) : FnOk P w K mg base CX0 5 f fd ["_law_script"] (spU ms_law (m_law (KL K))) :=
  okF F sc_law rfl (by decide) pure_law fun cdv A outer s H E hr hu hu64 =>
    (vss_cons (sO (cl (G.at 11) (va_cons pP va_nil)))
      (vss_cons (sF (cl (G.at 17) (va_cons pP (va_cons ve_int va_nil))))
      (vss_cons (sF (ve_lst (va_cons (cl (G.at 19) (va_cons pP (va_cons pP va_nil))) (va_cons (cl (G.at 19) (va_cons pP (va_cons pP va_nil))) va_nil))))
      (vss_cons (sF (cl (G.at 18) (va_cons pP va_nil)))
      (vss_cons (sF (ve_lst (va_cons (ve_dcopy (eL pP ve_int)) (va_cons (ve_dcopy (eL pP ve_int)) va_nil))))
      (vss_cons (vs_for PassesOwn.never rfl (vi_list (ve_lst (va_cons ve_int (va_cons ve_int (va_cons (eL (ve_lst (va_cons (ve_op2 op_add fn_int0 ve_int (cl (G.at 12) (va_cons pP (va_cons ve_int va_nil)))) (va_cons ve_int va_nil))) (nI T.int (va_cons (ve_cmp2 op_eq fn_eq (cl (G.at 12) (va_cons pP (va_cons ve_int va_nil))) ve_int (nomark _)) va_nil))) va_nil))))) gN
      (vss_one (vs_for PassesOwn.never rfl (vi_list (ve_lst (va_cons ve_int (va_cons ve_int (va_cons ve_int va_nil))))) gN
      (vss_cons (sO (cl (G.at 9) (va_cons pP (va_cons (eL pP pP) (va_cons pP va_nil)))))
      (vss_cons (vs_if (vt_pure (vw_or (vt_not (vt_truth (is_tup T.isinstance T.tuple pP) (fun _ => rfl))) (vw_or (vt_cmp2 op_ne fn_ne (nL T.len (va_cons pP va_nil)) ve_int (nomark _)) (vw_or1 (vt_not (vt_truth (is_bool T.isinstance T.bool (eT pP ve_int)) (fun _ => rfl)))))).vt)
      (vss_one (vs_ret ve_bl))
      vss_nil)
      (vss_cons (vs_if (vt_pure (vw_or (vt_not (vt_truth (is_lst T.isinstance T.list (eT pP ve_int)) (fun _ => rfl))) (vw_or1 (vt_not (vt_truth (cl (G.at 26) (va_cons (eT pP ve_int) va_nil)) (fun _ => rfl))))).vt)
      (vss_one (vs_ret ve_bl))
      vss_nil)
      (vss_cons (vs_if (vt_pure (vt_cmp2 (op_neD hu64) fn_neD pP (cl (G.at 23) (va_cons pP (va_cons (eL pP pP) (va_cons pP va_nil)))) (nomark _)))
      (vss_one (vs_ret ve_bl))
      vss_nil)
      (vss_cons (vs_appendAt (tT vx_int) vx_int)
      (vss_one (vs_if (vw_or (vt_cmp2 (op_neD hu64) fn_neD pP pP (nomark _)) (vw_or1 (vt_cmp2 (op_neLD hu64) fn_neLD pP pP (nomark _)))).vt
      (vss_one (vs_ret ve_bl))
      vss_nil))))))))))
      (vss_one (vs_ret ve_bl))))))))
end
end ON
end
set_option maxHeartbeats 4000000
namespace ON
open PySem L2 VS
theorem all_mk {l : PySem.W.OpenLaw} {w : World} {K : PySem.W.Frag} {h : Heap} {mg : Str → Option Value} {fa f1 f2 f3 f4 f5 f6 f7 f8 f9 f10 f11 f12 f13 f14 f15 f16 f17 f18 f19 f20 f21 f22 f23 f24 f25 f26 f27 f28 : Addr} (X : K.In h) (N : h.Ns mainGlobals mg) (hfa : mg "law" = some (.ref fa))
    {aO : Addr} {tk1 tk2 tk3 tk4 tk5 : Tok} {nO : Nat}
    (d1 : FD K "plus" s_plus f1) (d2 : FD K "less" s_less f2) (d3 : FD K "times" s_times f3) (d4 : FD K "below" s_below f4) (d5 : FD K "same" s_same f5) (d6 : FD K "part_now" s_part_now f6) (d7 : FD K "worth_now" s_worth_now f7) (d8 : FD K "led_on" s_led_on f8) (d9 : FD K "do_deeds" s_do_deeds f9) (d10 : FD K "run" s_run f10) (d11 : FD K "_law_mixed" s__law_mixed f11) (d12 : FD K "_law_purse" s__law_purse f12) (d13 : FD K "_law_draw" s__law_draw f13) (d14 : FD K "_law_names" s__law_names f14) (d15 : FD K "_law_part" s__law_part f15) (d16 : FD K "_law_worth" s__law_worth f16) (d17 : FD K "_law_ending" s__law_ending f17) (d18 : FD K "_law_program" s__law_program f18) (d19 : FD K "_law_copy" s__law_copy f19) (d20 : FD K "_law_given" s__law_given f20) (d21 : FD K "_law_at_part" s__law_at_part f21) (d22 : FD K "_law_at_worth" s__law_at_worth f22) (d23 : FD K "_law_block" s__law_block f23) (d24 : FD K "_law_run" s__law_run f24) (d25 : FD K "_law_plainly" s__law_plainly_b f25) (d26 : FD K "_law_plainly" s__law_plainly_0 f26) (d27 : FD K "_law_plainly" s__law_plainly_1 f27) (d28 : FD K "law" s_law f28)
    (aD : PySem.W.nsIn K mainGlobals "OPS" = some (some (.ref aO))) (nO' : (aO == sysModules) = false) (lD : K.lookup aO = some { cls := .type "dict", data := .dict #[{ hash := PyData.keyHash w.params "plus", key := .str "plus" tk1, val := .ref f1 }, { hash := PyData.keyHash w.params "less", key := .str "less" tk2, val := .ref f2 }, { hash := PyData.keyHash w.params "times", key := .str "times" tk3, val := .ref f3 }, { hash := PyData.keyHash w.params "below", key := .str "below" tk4, val := .ref f4 }, { hash := PyData.keyHash w.params "same", key := .str "same" tk5, val := .ref f5 }] nO })
    (z1 : PySem.W.nsIn K mainGlobals "range" = some none) (z2 : PySem.W.nsIn K mainGlobals "len" = some none) (z3 : PySem.W.nsIn K mainGlobals "list" = some none) (z4 : PySem.W.nsIn K mainGlobals "dict" = some none) (z5 : PySem.W.nsIn K mainGlobals "int" = some none) (z6 : PySem.W.nsIn K mainGlobals "isinstance" = some none) (z7 : PySem.W.nsIn K mainGlobals "str" = some none) (z8 : PySem.W.nsIn K mainGlobals "tuple" = some none) (z9 : PySem.W.nsIn K mainGlobals "bool" = some none) :
    ∃ fd : FuncData, (∀ (s : Shared) (v : Value), BindsTo s fd ⟨[v], []⟩ [("_law_script", v)]) ∧ ∀ base : Heap, K.In base → base.Ns mainGlobals mg → FnOk l.prog w K mg base CX0 5 fa fd ["_law_script"] (spU ms_law (m_law (KL K))) := by
  have T : Txt mg := ⟨PySem.W.mg_none_of X N z1, PySem.W.mg_none_of X N z2, PySem.W.mg_none_of X N z3, PySem.W.mg_none_of X N z4, PySem.W.mg_none_of X N z5, PySem.W.mg_none_of X N z6, PySem.W.mg_none_of X N z7, PySem.W.mg_none_of X N z8, PySem.W.mg_none_of X N z9⟩
  have m_OPS := PySem.W.mg_of X N aD
  obtain ⟨_, ⟨_, _, _, _, _, _, rfl⟩, F1, m1, k1⟩ := d1.fun X N
  have b1 := F1.binds (ps := ["first", "second", "measure"]) fun _ _ _ _ _ _ us hl => match us, hl with | [_, _, _], _ => rfl
  obtain ⟨_, ⟨_, _, _, _, _, _, rfl⟩, F2, m2, k2⟩ := d2.fun X N
  have b2 := F2.binds (ps := ["first", "second", "measure"]) fun _ _ _ _ _ _ us hl => match us, hl with | [_, _, _], _ => rfl
  obtain ⟨_, ⟨_, _, _, _, _, _, rfl⟩, F3, m3, k3⟩ := d3.fun X N
  have b3 := F3.binds (ps := ["first", "second", "measure"]) fun _ _ _ _ _ _ us hl => match us, hl with | [_, _, _], _ => rfl
  obtain ⟨_, ⟨_, _, _, _, _, _, rfl⟩, F4, m4, k4⟩ := d4.fun X N
  have b4 := F4.binds (ps := ["first", "second", "measure"]) fun _ _ _ _ _ _ us hl => match us, hl with | [_, _, _], _ => rfl
  obtain ⟨_, ⟨_, _, _, _, _, _, rfl⟩, F5, m5, k5⟩ := d5.fun X N
  have b5 := F5.binds (ps := ["first", "second", "measure"]) fun _ _ _ _ _ _ us hl => match us, hl with | [_, _, _], _ => rfl
  obtain ⟨_, ⟨_, _, _, _, _, _, rfl⟩, F6, m6, k6⟩ := d6.fun X N
  have b6 := F6.binds (ps := ["part", "worths"]) fun _ _ _ _ _ _ us hl => match us, hl with | [_, _], _ => rfl
  obtain ⟨_, ⟨_, _, _, _, _, _, rfl⟩, F7, m7, k7⟩ := d7.fun X N
  have b7 := F7.binds (ps := ["worth", "worths", "measure"]) fun _ _ _ _ _ _ us hl => match us, hl with | [_, _, _], _ => rfl
  obtain ⟨_, ⟨_, _, _, _, _, _, rfl⟩, F8, m8, k8⟩ := d8.fun X N
  have b8 := F8.binds (ps := ["ending", "worths"]) fun _ _ _ _ _ _ us hl => match us, hl with | [_, _], _ => rfl
  obtain ⟨_, ⟨_, _, _, _, _, _, rfl⟩, F9, m9, k9⟩ := d9.fun X N
  have b9 := F9.binds (ps := ["deeds", "worths", "told", "measure"]) fun _ _ _ _ _ _ us hl => match us, hl with | [_, _, _, _], _ => rfl
  obtain ⟨_, ⟨_, _, _, _, _, _, rfl⟩, F10, m10, k10⟩ := d10.fun X N
  have b10 := F10.binds (ps := ["program", "given", "many"]) fun _ _ _ _ _ _ us hl => match us, hl with | [_, _, _], _ => rfl
  obtain ⟨_, ⟨_, _, _, _, _, _, rfl⟩, F11, m11, k11⟩ := d11.fun X N
  have b11 := F11.binds (ps := ["_law_cell", "_law_k"]) fun _ _ _ _ _ _ us hl => match us, hl with | [_, _], _ => rfl
  obtain ⟨_, ⟨_, _, _, _, _, _, rfl⟩, F12, m12, k12⟩ := d12.fun X N
  have b12 := F12.binds (ps := ["_law_script"]) fun _ _ _ _ _ _ us hl => match us, hl with | [_], _ => rfl
  obtain ⟨_, ⟨_, _, _, _, _, _, rfl⟩, F13, m13, k13⟩ := d13.fun X N
  have b13 := F13.binds (ps := ["_law_purse_here", "_law_out_of"]) fun _ _ _ _ _ _ us hl => match us, hl with | [_, _], _ => rfl
  obtain ⟨_, ⟨_, _, _, _, _, _, rfl⟩, F14, m14, k14⟩ := d14.fun X N
  have b14 := F14.binds (ps := ["_law_purse_here"]) fun _ _ _ _ _ _ us hl => match us, hl with | [_], _ => rfl
  obtain ⟨_, ⟨_, _, _, _, _, _, rfl⟩, F15, m15, k15⟩ := d15.fun X N
  have b15 := F15.binds (ps := ["_law_purse_here", "_law_names_here", "_law_measure"]) fun _ _ _ _ _ _ us hl => match us, hl with | [_, _, _], _ => rfl
  obtain ⟨_, ⟨_, _, _, _, _, _, rfl⟩, F16, m16, k16⟩ := d16.fun X N
  have b16 := F16.binds (ps := ["_law_purse_here", "_law_names_here", "_law_measure"]) fun _ _ _ _ _ _ us hl => match us, hl with | [_, _, _], _ => rfl
  obtain ⟨_, ⟨_, _, _, _, _, _, rfl⟩, F17, m17, k17⟩ := d17.fun X N
  have b17 := F17.binds (ps := ["_law_purse_here", "_law_names_here", "_law_measure", "_law_block_here", "_law_many"]) fun _ _ _ _ _ _ us hl => match us, hl with | [_, _, _, _, _], _ => rfl
  obtain ⟨_, ⟨_, _, _, _, _, _, rfl⟩, F18, m18, k18⟩ := d18.fun X N
  have b18 := F18.binds (ps := ["_law_purse_here", "_law_most"]) fun _ _ _ _ _ _ us hl => match us, hl with | [_, _], _ => rfl
  obtain ⟨_, ⟨_, _, _, _, _, _, rfl⟩, F19, m19, k19⟩ := d19.fun X N
  have b19 := F19.binds (ps := ["_law_program_here"]) fun _ _ _ _ _ _ us hl => match us, hl with | [_], _ => rfl
  obtain ⟨_, ⟨_, _, _, _, _, _, rfl⟩, F20, m20, k20⟩ := d20.fun X N
  have b20 := F20.binds (ps := ["_law_purse_here", "_law_program_here"]) fun _ _ _ _ _ _ us hl => match us, hl with | [_, _], _ => rfl
  obtain ⟨_, ⟨_, _, _, _, _, _, rfl⟩, F21, m21, k21⟩ := d21.fun X N
  have b21 := F21.binds (ps := ["_law_part_here", "_law_worths"]) fun _ _ _ _ _ _ us hl => match us, hl with | [_, _], _ => rfl
  obtain ⟨_, ⟨_, _, _, _, _, _, rfl⟩, F22, m22, k22⟩ := d22.fun X N
  have b22 := F22.binds (ps := ["_law_worth_here", "_law_worths", "_law_measure"]) fun _ _ _ _ _ _ us hl => match us, hl with | [_, _, _], _ => rfl
  obtain ⟨_, ⟨_, _, _, _, _, _, rfl⟩, F23, m23, k23⟩ := d23.fun X N
  have b23 := F23.binds (ps := ["_law_deeds", "_law_ending_here", "_law_worths", "_law_measure", "_law_told"]) fun _ _ _ _ _ _ us hl => match us, hl with | [_, _, _, _, _], _ => rfl
  obtain ⟨_, ⟨_, _, _, _, _, _, rfl⟩, F24, m24, k24⟩ := d24.fun X N
  have b24 := F24.binds (ps := ["_law_program_here", "_law_given_here", "_law_many"]) fun _ _ _ _ _ _ us hl => match us, hl with | [_, _, _], _ => rfl
  obtain ⟨_, ⟨_, _, _, _, _, _, rfl⟩, F25, m25, k25⟩ := d25.fun X N
  have b25 := F25.binds (ps := ["_law_found"]) fun _ _ _ _ _ _ us hl => match us, hl with | [_], _ => rfl
  obtain ⟨_, ⟨_, _, _, _, _, _, rfl⟩, F26, m26, k26⟩ := d26.fun X N
  have b26 := F26.binds (ps := ["_law_found"]) fun _ _ _ _ _ _ us hl => match us, hl with | [_], _ => rfl
  obtain ⟨_, ⟨_, _, _, _, _, _, rfl⟩, F27, m27, k27⟩ := d27.fun X N
  have b27 := F27.binds (ps := ["_law_found"]) fun _ _ _ _ _ _ us hl => match us, hl with | [_], _ => rfl
  obtain ⟨_, ⟨kV, dc, pm, an, cd, ct, rfl⟩, F28, m28, k28⟩ := d28.fun X N
  cases hfa.symm.trans m28
  refine ⟨PySem.W.fnOf "law" "law" (defArgs s_law) (defBody s_law) (defScope s_law) .none kV dc pm an cd ct, fun s v => .of_eq rfl, fun base KB GB => ?_⟩
  have D_OPS : ModD l.prog w base aO (opsK [("plus", f1), ("less", f2), ("times", f3), ("below", f4), ("same", f5)]) := modD_of [("plus", tk1, f1), ("less", tk2, f2), ("times", tk3, f3), ("below", tk4, f4), ("same", tk5, f5)] (KB _ _ lD) (show ([Sum.inr "plus", Sum.inr "less", Sum.inr "times", Sum.inr "below", Sum.inr "same"] : List Key).Nodup by decide +kernel) nO'
  have G0 : Gs l.prog w K mg base (sig K) 0 := Gs.zero
  have G1 := G0.snoc rfl (own_mk m1 (ok_plus F1 T G0) k1 b1)
  have G2 := G1.snoc rfl (own_mk m2 (ok_less F2 T G1) k2 b2)
  have G3 := G2.snoc rfl (own_mk m3 (ok_times F3 T G2) k3 b3)
  have G4 := G3.snoc rfl (own_mk m4 (ok_below F4 T G3) k4 b4)
  have G5 := G4.snoc rfl (own_mk m5 (ok_same F5 T G4) k5 b5)
  have L_OPS : ∀ a m, opS f1 f2 f3 f4 f5 a m → OwnAt l.prog w K mg base a 1 (spU ms_plus m) := by
    rintro a m (⟨rfl, rfl⟩ | ⟨rfl, rfl⟩ | ⟨rfl, rfl⟩ | ⟨rfl, rfl⟩ | ⟨rfl, rfl⟩)
    · exact ⟨_, _, ok_plus F1 T G0, k1, b1⟩
    · exact ⟨_, _, ok_less F2 T G1, k2, b2⟩
    · exact ⟨_, _, ok_times F3 T G2, k3, b3⟩
    · exact ⟨_, _, ok_below F4 T G3, k4, b4⟩
    · exact ⟨_, _, ok_same F5 T G4, k5, b5⟩
  have G6 := G5.snoc rfl (own_mk m6 (ok_part_now F6 T G5) k6 b6)
  have G7 := G6.snoc rfl (own_mk m7 (ok_worth_now F7 T G6 m_OPS D_OPS L_OPS) k7 b7)
  have G8 := G7.snoc rfl (own_mk m8 (ok_led_on F8 T G7) k8 b8)
  have G9 := G8.snoc rfl (own_mk m9 (ok_do_deeds F9 T G8) k9 b9)
  have G10 := G9.snoc rfl (own_mk m10 (ok_run F10 T G9) k10 b10)
  have G11 := G10.snoc rfl (own_mk m11 (ok__law_mixed F11 T G10) k11 b11)
  have G12 := G11.snoc rfl (own_mk m12 (ok__law_purse F12 T G11) k12 b12)
  have G13 := G12.snoc rfl (own_mk m13 (ok__law_draw F13 T G12) k13 b13)
  have G14 := G13.snoc rfl (own_mk m14 (ok__law_names F14 T G13) k14 b14)
  have G15 := G14.snoc rfl (own_mk m15 (ok__law_part F15 T G14) k15 b15)
  have G16 := G15.snoc rfl (own_mk m16 (ok__law_worth F16 T G15) k16 b16)
  have G17 := G16.snoc rfl (own_mk m17 (ok__law_ending F17 T G16) k17 b17)
  have G18 := G17.snoc rfl (own_mk m18 (ok__law_program F18 T G17) k18 b18)
  have G19 := G18.snoc rfl (own_mk m19 (ok__law_copy F19 T G18) k19 b19)
  have G20 := G19.snoc rfl (own_mk m20 (ok__law_given F20 T G19) k20 b20)
  have G21 := G20.snoc rfl (own_mk m21 (ok__law_at_part F21 T G20) k21 b21)
  have G22 := G21.snoc rfl (own_mk m22 (ok__law_at_worth F22 T G21) k22 b22)
  have G23 := G22.snoc rfl (own_mk m23 (ok__law_block F23 T G22) k23 b23)
  have G24 := G23.snoc rfl (own_mk m24 (ok__law_run F24 T G23) k24 b24)
  have G25 := G24.snoc rfl (own_mk m25 ok__law_plainly_b k25 b25)
  have G26 := G25.snoc rfl (own_mk m26 (ok__law_plainly_0 F26 T G25) k26 b26)
  have G27 := G26.snoc rfl (own_mk m27 (ok__law_plainly_1 F27 T G26) k27 b27)
  exact ok_law F28 T G27
theorem walk {l : PySem.W.OpenLaw} {q : Program} {loose : List Str} {XP : (Str → Option Value) → Heap → Prop} {YP : World → Heap → Prop} {d : DefRec} {K : Params → PySem.W.Frag} (hn : l.most = some 63) (hdf : d.params.defaults = [])
    (hY : ∀ (w : World) (h : Heap), YP w h → (K w.params).In h)
    (F : ∀ (w : World) (mg : Str → Option Value) (fa : Addr) (h : Heap), (K w.params).In h → h.Ns mainGlobals mg → mg d.name = some (.ref fa) →
      ∃ fd : FuncData, (∀ (s : Shared) (u : Value), BindsTo s fd ⟨[u], []⟩ [("_law_script", u)]) ∧ ∀ base : Heap, (K w.params).In base → base.Ns mainGlobals mg → FnOk l.prog w (K w.params) mg base CX0 5 fa fd ["_law_script"] (spU ms_law (m_law (KL (K w.params))))) :
    PySem.W.WalkO q loose XP YP l.row.toRowW d [] (fun f vs => PySem.call f vs) :=
  L2.walk_of (n := 63) (k := 5) (x := "_law_script") (CX := fun _ => CX0) (sp := fun w => spU ms_law (m_law (KL (K w.params)))) hn (by decide) hdf ⟨rfl, by decide, by decide⟩ hY F (fun _ _ a ns hl _ hS => sp_script hS fun d hd => ⟨ns, d, rfl, hd.imp id fun z => ⟨a, z.1, z.2⟩, by omega, rfl⟩) fun _ _ _ _ _ z => z
end ON
open PySem PySem.W PyProof.Rows
local macro_rules | `(tactic| walk_at "fd") => `(tactic| (refine' VS.fd_mk ?na ?nl ?nc ?nk; (case na => k_is); (case nl => k_is); (case nc => k_is); (case nk => k_is)))
set_option maxRecDepth 100000 in
set_option maxHeartbeats 0 in
theorem PySem.Challenge.cw_oncenames_k01_runs_holds : PySem.Challenge.rw_oncenames_k01_runs.Holds := by
  w_on; o_law; k_head; (case hw => w_witness2)
  k_fill
  refine ON.walk (l := PySem.Challenge.rw_oncenames_k01_runs) rfl rfl (fun w h Y => PySem.W.kIn_of Y) ?F
  case F =>
    intro w mg fa h KX G hmg
    refine' ON.all_mk KX G hmg ?d1 ?d2 ?d3 ?d4 ?d5 ?d6 ?d7 ?d8 ?d9 ?d10 ?d11 ?d12 ?d13 ?d14 ?d15 ?d16 ?d17 ?d18 ?d19 ?d20 ?d21 ?d22 ?d23 ?d24 ?d25 ?d26 ?d27 ?d28 ?aD ?nO ?lD ?z1 ?z2 ?z3 ?z4 ?z5 ?z6 ?z7 ?z8 ?z9
    (case d1 => walk_at "fd")
    (case d2 => walk_at "fd")
    (case d3 => walk_at "fd")
    (case d4 => walk_at "fd")
    (case d5 => walk_at "fd")
    (case d6 => walk_at "fd")
    (case d7 => walk_at "fd")
    (case d8 => walk_at "fd")
    (case d9 => walk_at "fd")
    (case d10 => walk_at "fd")
    (case d11 => walk_at "fd")
    (case d12 => walk_at "fd")
    (case d13 => walk_at "fd")
    (case d14 => walk_at "fd")
    (case d15 => walk_at "fd")
    (case d16 => walk_at "fd")
    (case d17 => walk_at "fd")
    (case d18 => walk_at "fd")
    (case d19 => walk_at "fd")
    (case d20 => walk_at "fd")
    (case d21 => walk_at "fd")
    (case d22 => walk_at "fd")
    (case d23 => walk_at "fd")
    (case d24 => walk_at "fd")
    (case d25 => walk_at "fd")
    (case d26 => walk_at "fd")
    (case d27 => walk_at "fd")
    (case d28 => walk_at "fd")
    (case aD => k_is)
    (case nO => decide)
    (case lD => k_is)
    (case z1 => k_is)
    (case z2 => k_is)
    (case z3 => k_is)
    (case z4 => k_is)
    (case z5 => k_is)
    (case z6 => k_is)
    (case z7 => k_is)
    (case z8 => k_is)
    (case z9 => k_is)
#print axioms PySem.Challenge.cw_oncenames_k01_runs_holds
