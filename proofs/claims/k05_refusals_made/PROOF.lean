import PyProof.Rows.All
import Wide.All
import OpenK.AllK
import Wide.FinOn
import PySem.Challenge.RW_oncenames_k05_refusals_made
set_option Elab.async false
set_option linter.all false
section S1
open PySem PySem.W PyProof.Rows
namespace Toy

abbrev mT (m : Str → Option Value) (t : Str) (tt : Tok) : Str → Option Value := fun y => if y = Str.ofString "_law_text" then some (Value.str t tt) else m y

def LS (i : Nat) (h₀ : Heap) (L I l c : Addr) (oI : Obj) (m : Str → Option Value) (s : Shared) (Q : Flow → Shared → Prop) (f : Flow) (s₂ : Shared) : Prop :=
  match f with
  | .ret v => Q (.ret v) s₂
  | .brk => Q .next s₂
  | _ => ∃ h' tk t tt x tx y ty w v, s₂ = { s with heap := h', toks := tk } ∧ w.data = Data.cell v ∧ t.length ≤ i + 1 ∧
      Fr h₀ L h' (fun y => if y = Str.ofString "_law_text" then some (Value.str t tt) else m y) ∧
      News h₀ L h' [(I, oI), (l, W.listOf #[Value.int x tx, Value.int y ty] 0), (c, w)]

section
variable {prog : Program} {w : World} {A : Around} {E : Value → Shared → Prop} {s : Shared} {env : Env} {h₀ : Heap} {body : List Stmt} {Q : Flow → Shared → Prop} {m : Str → Option Value} {xk : Str} {px : Pos}

def St1 (prog : Program) (w : World) (A : Around) (E : Value → Shared → Prop) (s : Shared) (env : Env) (h₀ : Heap) (body : List Stmt) (Q : Flow → Shared → Prop) (m : Str → Option Value) (xk : Str) (px : Pos) (l c : Addr) : Prop :=
  ∀ (i : Nat) (ti : Tok) (t : Str) (tt : Tok) (x : Int) (tx : Tok) (y : Int) (ty : Tok) (o : Obj) (v : Option Value) (h₁ : Heap) (tk₁ : Nat) (oI : Obj), t.length ≤ i → t.length ≤ 1000 → o.data = Data.cell v →
      l ≠ s.heap.objs.size → c ≠ s.heap.objs.size → s.heap.objs.size ≠ l → s.heap.objs.size ≠ c → l ≠ c → c ≠ l →
      Fr h₀ env.locals h₁ (fun y => if y = Str.ofString "_law_text" then some (Value.str t tt) else m y) →
      News h₀ env.locals h₁ [(s.heap.objs.size, oI), (l, W.listOf #[Value.int x tx, Value.int y ty] 0), (c, o)] →
      wpAny (model prog w) A (assign (.Name xk px) env (.int (i : Int) ti)) (fun _ s₃ => wpAny (model prog w) A (execs body env) (LS i h₀ env.locals s.heap.objs.size l c oI m s Q) E s₃) E { s with heap := h₁, toks := tk₁ }
def Dn1 (s : Shared) (env : Env) (h₀ : Heap) (Q : Flow → Shared → Prop) (m : Str → Option Value) (l c : Addr) : Prop :=
  ∀ (t : Str) (tt : Tok) (x : Int) (tx : Tok) (y : Int) (ty : Tok) (o : Obj) (v : Option Value) (h' : Heap) (tk : Nat), t.length ≤ 1000 → o.data = Data.cell v → l ≠ c → c ≠ l →
      Fr h₀ env.locals h' (fun y => if y = Str.ofString "_law_text" then some (Value.str t tt) else m y) →
      News h₀ env.locals h' [(l, W.listOf #[Value.int x tx, Value.int y ty] 0), (c, o)] → Q .next { s with heap := h', toks := tk }
theorem loop05 {r l c : Addr} {b₀ : Int} {t₀ u₀ v₀ : Tok} {x y : Int} {tx ty : Tok} {rest : List (Addr × Obj)} {o : Obj} {v : Option Value} {t : Str} {tt : Tok}
    (hh : A.handled = none) (hr : IsRange s.heap r 0 b₀ 1 t₀ u₀ v₀) (hb0 : 0 ≤ b₀) (hb1 : b₀ < 1000) (F : Fr h₀ env.locals s.heap m)
    (N : News h₀ env.locals s.heap ((l, W.listOf #[Value.int x tx, Value.int y ty] 0) :: rest)) (hc : (c, o) ∈ rest) (hw : o.data = Data.cell v)
    (ht : m (Str.ofString "_law_text") = some (.str t tt)) (htl : t.length = 0)
    (step : St1 prog w A E s env h₀ body Q m xk px l c) (done : Dn1 s env h₀ Q m l c) :
    wpAny (model prog w) A (pyIter (.ref r)) (fun it s₂ => TurnsAt prog w A h₀ env (.Name xk px) body Q E it s₂) E s := by
  have hn : Builtin.Range.rangeSize 0 b₀ 1 = b₀ := by rw [rangeSize_one]; split <;> omega
  have hsmall := small_one (a := 0) (b := b₀) (by decide) (by decide) (by omega) (by omega)
  have Nl := N _ (List.Mem.head _)
  have Nc := N (c, o) (.tail _ hc)
  have ll : l ≠ s.heap.objs.size := Nat.ne_of_lt (Heap.lt_size Nl.1)
  have lc : c ≠ s.heap.objs.size := Nat.ne_of_lt (Heap.lt_size Nc.1)
  have llc : l ≠ c := fun e => by
    have a := Nl.1
    have b := Nc.1
    dsimp only at a b
    rw [e, b] at a
    cases a
    cases hw
  have lN : env.locals ≠ s.heap.objs.size := by
    obtain ⟨oL, _, _, hL, _⟩ := F.ns
    exact Nat.ne_of_lt (Heap.lt_size hL)
  refine wpAny_pyIter_range hr hsmall ?_
  let J : Nat → (Str → Option Value) → List (Addr × Obj) → Prop := fun i m₁ news₁ => ∃ (t : Str) (tt : Tok) (x : Int) (tx : Tok) (y : Int) (ty : Tok) (o : Obj) (v : Option Value),
    t.length ≤ i ∧ o.data = Data.cell v ∧ m₁ = mT m t tt ∧ news₁ = [(l, W.listOf #[Value.int x tx, Value.int y ty] 0), (c, o)]
  refine ⟨s.heap.objs.size, [s.heap.objs.size], [s.heap.objs.size], b₀.toNat, _, _, _, m, [(l, W.listOf #[Value.int x tx, Value.int y ty] 0), (c, o)], J, rfl,
    KTurns.ofWalks (Walks.range hh s.heap.objs.size 0 1 b₀.toNat) (fun i v s' Q' E' _ hq => by unfold letOwnedTupleGo; exact wpAny_pure hq), ?_, ?_, ?_, ?_, F.push _, ?_, ?_, ?_, ?_⟩
  · intro h
    exact lN (List.mem_singleton.mp h)
  · intro b hb
    rw [List.mem_singleton.mp hb]
    exact next_is_new F
  · intro p hp hq
    have e := List.mem_singleton.mp hq
    rcases List.mem_cons.mp hp with rfl | hp
    · exact ll e
    · rw [List.mem_singleton.mp hp] at e
      exact lc e
  · show IsRangeIter _ _ _ _ _
    rw [hn]
    have e1 : ((b₀.toNat : Nat) : Int) = b₀ := Int.toNat_of_nonneg hb0
    simp only [e1]
    simpa using Heap.get?_push_size _ rfl
  · intro p hp
    rcases List.mem_cons.mp hp with rfl | hp
    · exact ⟨Heap.get?_push_of_some _ Nl.1, Nl.2⟩
    · rw [List.mem_singleton.mp hp]
      exact ⟨Heap.get?_push_of_some _ Nc.1, Nc.2⟩
  · refine ⟨t, tt, x, tx, y, ty, o, v, by omega, hw, ?_, rfl⟩
    funext z
    show m z = if z = _ then _ else m z
    by_cases e : z = Str.ofString "_law_text"
    · rw [if_pos e, e, ht]
    · rw [if_neg e]
  · rintro i v m₁ news₁ h₁ tk₁ own hi ⟨ti, rfl⟩ ⟨t', tt', x', tx', y', ty', o', v', htl', hw', rfl, rfl⟩ hoff hown hget hall hst F₁ N₁
    obtain ⟨oI, hoI⟩ : ∃ oI, h₁.get? s.heap.objs.size = some oI := ⟨_, hst⟩
    have hmem : (s.heap.objs.size, oI) ∈ own := hall _ (List.mem_singleton.mpr rfl) (next_is_new F) _ hoI
    have e0 : (0 : Int) + (i : Int) * 1 = (i : Int) := by omega
    rw [e0]
    have N₂ : News h₀ env.locals h₁ [(s.heap.objs.size, oI), (l, W.listOf #[Value.int x' tx', Value.int y' ty'] 0), (c, o')] := by
      intro p hp
      rcases List.mem_cons.mp hp with rfl | hp
      · exact N₁ _ (List.mem_append_left _ hmem)
      · exact N₁ _ (List.mem_append_right _ hp)
    have hib : i < 1000 := by omega
    refine wpAny_mono (step i ti t' tt' x' tx' y' ty' o' v' h₁ tk₁ oI htl' (by omega) hw' ll lc ll.symm lc.symm llc llc.symm F₁ N₂) (fun _ s₂ q => wpAny_mono q (fun f s₃ q₃ => ?_) fun _ _ e => e) fun _ _ e => e
    have fin : (∃ h' tk t tt x tx y ty w v, s₃ = { s with heap := h', toks := tk } ∧ w.data = Data.cell v ∧ t.length ≤ i + 1 ∧
      Fr h₀ env.locals h' (fun y => if y = Str.ofString "_law_text" then some (Value.str t tt) else m y) ∧
      News h₀ env.locals h' [(s.heap.objs.size, oI), (l, W.listOf #[Value.int x tx, Value.int y ty] 0), (c, w)]) →
      LoopStepU h₀ env.locals [s.heap.objs.size] own (J (i + 1)) { s with heap := h₁, toks := tk₁ } .next s₃ := by
      rintro ⟨h', tk, t, tt, x, tx, y, ty, w', v, rfl, hwd, hlen, F', N'⟩
      refine ⟨rfl, h', tk, _, [(l, W.listOf #[Value.int x tx, Value.int y ty] 0), (c, w')], rfl, F', ?_, ?_, ⟨t, tt, x, tx, y, ty, w', v, hlen, hwd, rfl, rfl⟩⟩
      · intro p hp
        rcases List.mem_append.mp hp with hp | hp
        · have e1 := List.mem_singleton.mp (hown p hp)
          have e2 := hget p hp
          rw [e1, hoI] at e2
          have e3 : p = (s.heap.objs.size, oI) := by cases p; simp_all
          rw [e3]
          exact N' _ (.head _)
        · exact N' _ (.tail _ hp)
      · intro p hp hq
        have e := List.mem_singleton.mp hq
        rcases List.mem_cons.mp hp with rfl | hp
        · exact ll e
        · rw [List.mem_singleton.mp hp] at e
          exact lc e
    cases f with
    | ret v => exact q₃
    | brk => exact q₃
    | cont => exact fin q₃
    | next => exact fin q₃
  · rintro h' tk m' news' F' N' hoff ⟨t, tt, x, tx, y, ty, o, v, hlen, hw, rfl, rfl⟩
    exact done t tt x tx y ty o v h' tk (by omega) hw llc llc.symm F' N'
end

section
variable {prog : Program} {w : World} {A : Around} {E : Value → Shared → Prop} {s : Shared} {h₀ : Heap} {L C : Addr} {m mg : Str → Option Value} {news : List (Addr × Obj)} {vs : List Value} {Q : Value → Shared → Prop} {x : Str}
theorem mkExc (F : Fr h₀ L s.heap m) (N : News h₀ L s.heap news)
    (O : OwnCls x C [.type "ValueError", .type "Exception", .type "BaseException", .type "object"] "ValueError.__new__" mg h₀) (hl : vs.length ≤ 20)
    (h : ∀ h' e t, Fr h₀ L h' m → News h₀ L h' ((e, { cls := .ref C, data := .fields #[.ref t, .none, .none, .none, .bool false, .none] }) :: news) → Q (.ref e) { s with heap := h' }) :
    wpAny (model prog w) A (call (.ref C) vs) Q E s := by
  obtain ⟨tl, N', nm, q, bs, hdct, sn, sub, ab, col, dd, k0, k1, k2, k3, k5, mN, hC, hN, hni, T⟩ := O.obj
  refine wpAny_call_exc_subT (hrest := Nat.le_trans hl (by rw [sizeLine_eq]; decide)) PySem.F.excBase_ValueError (T.keeps F.keep) (F.keep _ _ hC) (hN.keeps F.keep) hni fun h' e hm => ?_
  obtain ⟨kp, hnew, t, he, ht, hargs⟩ := hm
  have F' : Fr h₀ L h' m := ⟨F.ns.at' (fun o e => kp _ o e), fun b o e => kp _ _ (F.keep b o e), F.above⟩
  have N1 : News h₀ L h' news := fun p hp => ⟨kp _ _ (N p hp).1, (N p hp).2⟩
  refine h h' e t F' (News.more F' N1 he (fun es n q => by cases q) ?_)
  cases hq : h₀.get? e with
  | none => rfl
  | some o => have := F.keep _ _ hq; rw [hnew] at this; cases this
end

theorem Fr.twice {h₀ h : Heap} {L : Addr} {m : Str → Option Value} {x : Str} {a b : Option Value} (F : Fr h₀ L h (fun y => if y = x then a else if y = x then b else m y)) : Fr h₀ L h (fun y => if y = x then a else m y) := by
  have e : (fun y => if y = x then a else if y = x then b else m y) = (fun y => if y = x then a else m y) := by
    funext y
    split <;> simp_all
  exact e ▸ F

def NC (o : Obj) : Prop := ∀ v, o.data ≠ Data.cell v
theorem NC.list {a : Array Value} {n : Nat} : NC (W.listOf a n) := fun _ h => by cases h
theorem NC.exc {c : Value} {a : Array Value} : NC { cls := c, data := .fields a } := fun _ h => by cases h

inductive UpdC (c : Addr) (o : Obj) : List (Addr × Obj) → (Obj → List (Addr × Obj)) → Prop
  | head {r} : (∀ p ∈ r, NC p.2) → UpdC c o ((c, o) :: r) (fun o' => (c, o') :: r)
  | tail {p r g} : NC p.2 → UpdC c o r g → UpdC c o (p :: r) (fun o' => p :: g o')

theorem UpdC.upd {c : Addr} {o : Obj} {h₀ h : Heap} {L : Addr} {v : Option Value} (hd : o.data = Data.cell v) (hc : h.get? c = some o) : ∀ {l : List (Addr × Obj)} {g : Obj → List (Addr × Obj)}, UpdC c o l g → News h₀ L h l → UpdF c o l g
  | _, _, .head a, N => .head fun p hp e => by
    have := (N p (.tail _ hp)).1
    rw [e, hc] at this
    cases this
    exact a p hp _ hd
  | _, _, .tail (p := p) a r, N => .tail (fun e => by
    have := (N p (.head _)).1
    rw [e, hc] at this
    exact a v ((congrArg Obj.data (Option.some.inj this)).symm.trans hd)) (r.upd hd hc fun q hq => N q (.tail _ hq))
theorem UpdC.mem {c : Addr} {o : Obj} : ∀ {l : List (Addr × Obj)} {g : Obj → List (Addr × Obj)}, UpdC c o l g → (c, o) ∈ l
  | _, _, .head _ => .head _
  | _, _, .tail _ r => .tail _ r.mem
theorem UpdC.at {c : Addr} {o : Obj} : ∀ {l : List (Addr × Obj)} {g : Obj → List (Addr × Obj)}, UpdC c o l g → l = g o
  | _, _, .head _ => rfl
  | _, _, .tail (p := p) _ r => congrArg (List.cons p) r.at
theorem UpdC.addr {c : Addr} {o o' : Obj} : ∀ {l : List (Addr × Obj)} {g : Obj → List (Addr × Obj)}, UpdC c o l g → ∀ {p}, p ∈ g o' → p.1 = c ∨ p ∈ l
  | _, _, .head _, p, h => by
    rcases List.mem_cons.mp h with rfl | h
    · exact .inl rfl
    · exact .inr (.tail _ h)
  | _, _, .tail _ r, p, h => by
    rcases List.mem_cons.mp h with rfl | h
    · exact .inr (.head _)
    · exact (r.addr h).imp id (.tail _)
theorem UpdC.keep {c : Addr} {o o' : Obj} : ∀ {l : List (Addr × Obj)} {g : Obj → List (Addr × Obj)}, UpdC c o l g → ∀ {p}, p ∈ l → p = (c, o) ∨ p ∈ g o'
  | _, _, .head _, p, h => by
    rcases List.mem_cons.mp h with rfl | h
    · exact .inl rfl
    · exact .inr (.tail _ h)
  | _, _, .tail _ r, p, h => by
    rcases List.mem_cons.mp h with rfl | h
    · exact .inr (.head _)
    · exact (r.keep h).imp id (.tail _)

section
variable {M : Model} {A : Around} {E : Value → Shared → Prop} {s : Shared} {h₀ : Heap} {L a : Addr} {m : Str → Option Value} {cn : Str} {cs : Scope} {ccd : Value} {cl : List (Str × Addr)}
  {x : Str} {v : Value} {Q : Unit → Shared → Prop} {news : List (Addr × Obj)} {g : Obj → List (Addr × Obj)} {c : Addr} {o : Obj} {v₀ : Option Value}
theorem storeC (F : Fr h₀ L s.heap m) (N : News h₀ L s.heap news) (hc : cl.lookup x = some c) (U : UpdC c o news g) (hd : o.data = .cell v₀)
    (h : ∀ h' o', Fr h₀ L h' m → News h₀ L h' (g o') → o'.data = .cell (some v) → Q () { s with heap := h' })
    (hk : cs.kind = .function := by rfl) (hx : (envX cn cs L a ccd cl).kindOf x = some .cell := by rfl) : wpAny M A (storeName (envX cn cs L a ccd cl) x v) Q E s :=
  storeX_C F N hc (U.upd hd (N _ U.mem).1 N) hd h hk hx
end

def LS6 (h₀ : Heap) (L I : Addr) (oI : Obj) (g : Obj → List (Addr × Obj)) (m : Str → Option Value) (s : Shared) (Q : Flow → Shared → Prop) (f : Flow) (s₂ : Shared) : Prop :=
  match f with
  | .ret v => Q (.ret v) s₂
  | .brk => Q .next s₂
  | _ => ∃ h' tk o v due, s₂ = { s with heap := h', toks := tk } ∧ o.data = Data.cell v ∧
      Fr h₀ L h' (fun y => if y = Str.ofString "_law_due" then due else m y) ∧ News h₀ L h' ((I, oI) :: g o)

section
variable {prog : Program} {w : World} {A : Around} {E : Value → Shared → Prop} {s : Shared} {env : Env} {h₀ : Heap} {body : List Stmt} {Q : Flow → Shared → Prop} {m : Str → Option Value} {xk : Str} {px : Pos}
  {news : List (Addr × Obj)} {g : Obj → List (Addr × Obj)} {c : Addr} {o : Obj} {v : Option Value}
def St6 (prog : Program) (w : World) (A : Around) (E : Value → Shared → Prop) (s : Shared) (env : Env) (h₀ : Heap) (body : List Stmt) (Q : Flow → Shared → Prop) (m : Str → Option Value) (xk : Str) (px : Pos) (g : Obj → List (Addr × Obj)) (i : Int) : Prop :=
  ∀ (ti : Tok) (o : Obj) (v due : Option Value) (h₁ : Heap) (tk₁ : Nat) (oI : Obj), o.data = Data.cell v → NC oI →
      Fr h₀ env.locals h₁ (fun y => if y = Str.ofString "_law_due" then due else m y) → News h₀ env.locals h₁ ((s.heap.objs.size, oI) :: g o) →
      wpAny (model prog w) A (assign (.Name xk px) env (.int i ti)) (fun _ s₃ => wpAny (model prog w) A (execs body env) (LS6 h₀ env.locals s.heap.objs.size oI g m s Q) E s₃) E { s with heap := h₁, toks := tk₁ }
def Dn6 (s : Shared) (env : Env) (h₀ : Heap) (Q : Flow → Shared → Prop) (m : Str → Option Value) (g : Obj → List (Addr × Obj)) : Prop :=
  ∀ (o : Obj) (v due : Option Value) (h' : Heap) (tk : Nat), o.data = Data.cell v → Fr h₀ env.locals h' (fun y => if y = Str.ofString "_law_due" then due else m y) →
      News h₀ env.locals h' (g o) → Q .next { s with heap := h', toks := tk }
theorem loop6 {r : Addr} {t₀ u₀ v₀ : Tok} (hh : A.handled = none) (hr : IsRange s.heap r 0 6 1 t₀ u₀ v₀) (F : Fr h₀ env.locals s.heap m)
    (N : News h₀ env.locals s.heap news) (U : UpdC c o news g) (hw : o.data = Data.cell v)
    (s0 : St6 prog w A E s env h₀ body Q m xk px g 0) (s1 : St6 prog w A E s env h₀ body Q m xk px g 1) (s2 : St6 prog w A E s env h₀ body Q m xk px g 2) (s3 : St6 prog w A E s env h₀ body Q m xk px g 3) (s4 : St6 prog w A E s env h₀ body Q m xk px g 4) (s5 : St6 prog w A E s env h₀ body Q m xk px g 5)
    (done : Dn6 s env h₀ Q m g) :
    wpAny (model prog w) A (pyIter (.ref r)) (fun it s₂ => TurnsAt prog w A h₀ env (.Name xk px) body Q E it s₂) E s := by
  have lN : env.locals ≠ s.heap.objs.size := by
    obtain ⟨oL, _, _, hL, _⟩ := F.ns
    exact Nat.ne_of_lt (Heap.lt_size hL)
  have off : ∀ o', ∀ p ∈ g o', p.1 ≠ s.heap.objs.size := fun o' p hp => by
    rcases U.addr hp with e | hp
    · rw [e]; exact Nat.ne_of_lt (Heap.lt_size (N _ U.mem).1)
    · exact Nat.ne_of_lt (Heap.lt_size (N _ hp).1)
  refine wpAny_pyIter_range hr (small_one (by decide) (by decide) (by decide) (by decide)) ?_
  let J : Nat → (Str → Option Value) → List (Addr × Obj) → Prop := fun i m₁ news₁ => ∃ (o : Obj) (v due : Option Value),
    o.data = Data.cell v ∧ m₁ = (fun y => if y = Str.ofString "_law_due" then due else m y) ∧ news₁ = g o
  refine ⟨s.heap.objs.size, [s.heap.objs.size], [s.heap.objs.size], 6, _, _, _, m, g o, J, rfl,
    KTurns.ofWalks (Walks.range hh s.heap.objs.size 0 1 6) (fun i v s' Q' E' _ hq => by unfold letOwnedTupleGo; exact wpAny_pure hq), ?_, ?_, ?_, ?_, F.push _, ?_, ?_, ?_, ?_⟩
  · intro h
    exact lN (List.mem_singleton.mp h)
  · intro b hb
    rw [List.mem_singleton.mp hb]
    exact next_is_new F
  · intro p hp hq
    exact off _ p hp (List.mem_singleton.mp hq)
  · show IsRangeIter _ _ _ _ _
    exact Heap.get?_push_size _ rfl
  · intro p hp
    rw [← U.at] at hp
    exact ⟨Heap.get?_push_of_some _ (N p hp).1, (N p hp).2⟩
  · refine ⟨o, v, m (Str.ofString "_law_due"), hw, ?_, rfl⟩
    funext z
    by_cases e : z = Str.ofString "_law_due"
    · rw [if_pos e, e]
    · rw [if_neg e]
  · rintro i v m₁ news₁ h₁ tk₁ own hi ⟨ti, rfl⟩ ⟨o', v', due', hw', rfl, rfl⟩ hoff hown hget hall hst F₁ N₁
    have hst' : IsRangeIter h₁ s.heap.objs.size _ _ _ := hst
    obtain ⟨oI, hoI, hNC⟩ : ∃ oI, h₁.get? s.heap.objs.size = some oI ∧ NC oI := ⟨_, hst', fun _ h => by cases h⟩
    have hmem : (s.heap.objs.size, oI) ∈ own := hall _ (List.mem_singleton.mpr rfl) (next_is_new F) _ hoI
    have N₂ : News h₀ env.locals h₁ ((s.heap.objs.size, oI) :: g o') := by
      intro p hp
      rcases List.mem_cons.mp hp with rfl | hp
      · exact N₁ _ (List.mem_append_left _ hmem)
      · exact N₁ _ (List.mem_append_right _ hp)
    have step : St6 prog w A E s env h₀ body Q m xk px g (0 + (i : Int) * 1) := by
      rcases i with _ | _ | _ | _ | _ | _ | i
      · exact s0
      · exact s1
      · exact s2
      · exact s3
      · exact s4
      · exact s5
      · exfalso; omega
    refine wpAny_mono (step ti o' v' due' h₁ tk₁ oI hw' hNC F₁ N₂) (fun _ s₂ q => wpAny_mono q (fun f s₃ q₃ => ?_) fun _ _ e => e) fun _ _ e => e
    have fin : (∃ h' tk o v due, s₃ = { s with heap := h', toks := tk } ∧ o.data = Data.cell v ∧
      Fr h₀ env.locals h' (fun y => if y = Str.ofString "_law_due" then due else m y) ∧ News h₀ env.locals h' ((s.heap.objs.size, oI) :: g o)) →
      LoopStepU h₀ env.locals [s.heap.objs.size] own (J (i + 1)) { s with heap := h₁, toks := tk₁ } .next s₃ := by
      rintro ⟨h', tk, o2, v2, due2, rfl, hwd, F', N'⟩
      refine ⟨rfl, h', tk, _, g o2, rfl, F', ?_, fun p hp hq => off _ p hp (List.mem_singleton.mp hq), ⟨o2, v2, due2, hwd, rfl, rfl⟩⟩
      intro p hp
      rcases List.mem_append.mp hp with hp | hp
      · have e1 := List.mem_singleton.mp (hown p hp)
        have e2 := hget p hp
        rw [e1, hoI] at e2
        have e3 : p = (s.heap.objs.size, oI) := by cases p; simp_all
        rw [e3]
        exact N' _ (.head _)
      · exact N' _ (.tail _ hp)
    cases f with
    | ret v => exact q₃
    | brk => exact q₃
    | cont => exact fin q₃
    | next => exact fin q₃
  · rintro h' tk m' news' F' N' hoff ⟨o2, v2, due2, hw2, rfl, rfl⟩
    exact done o2 v2 due2 h' tk hw2 F' N'
end

theorem memCons {α : Type} {a : α} {l : List α} {b : α} (h : a ∈ l) : a ∈ b :: l := .tail _ h
theorem newsSub {h₀ h : Heap} {L : Addr} {a b : List (Addr × Obj)} (N : News h₀ L h a) (hs : ∀ p ∈ b, p ∈ a) : News h₀ L h b := fun p hp => N p (hs p hp)

def LS2 (h₀ : Heap) (L I : Addr) (oI : Obj) (g : Obj → List (Addr × Obj)) (m : Str → Option Value) (s : Shared) (Q : Flow → Shared → Prop) (f : Flow) (s₂ : Shared) : Prop :=
  match f with
  | .ret v => Q (.ret v) s₂
  | .brk => Q .next s₂
  | _ => ∃ h' tk o v sm due, s₂ = { s with heap := h', toks := tk } ∧ o.data = Data.cell v ∧
      Fr h₀ L h' (fun y => if y = Str.ofString "_law_some" then sm else if y = Str.ofString "_law_due" then due else m y) ∧ News h₀ L h' ((I, oI) :: g o)

section
variable {prog : Program} {w : World} {A : Around} {E : Value → Shared → Prop} {s : Shared} {env : Env} {h₀ : Heap} {body : List Stmt} {Q : Flow → Shared → Prop} {m : Str → Option Value} {xk : Str} {px : Pos}
  {news : List (Addr × Obj)} {g : Obj → List (Addr × Obj)} {c : Addr} {o : Obj} {v : Option Value}
def St2 (prog : Program) (w : World) (A : Around) (E : Value → Shared → Prop) (s : Shared) (env : Env) (h₀ : Heap) (body : List Stmt) (Q : Flow → Shared → Prop) (m : Str → Option Value) (xk : Str) (px : Pos) (g : Obj → List (Addr × Obj)) (val : Value) : Prop :=
  ∀ (o : Obj) (v sm due : Option Value) (h₁ : Heap) (tk₁ : Nat) (oI : Obj), o.data = Data.cell v → NC oI →
      Fr h₀ env.locals h₁ (fun y => if y = Str.ofString "_law_some" then sm else if y = Str.ofString "_law_due" then due else m y) → News h₀ env.locals h₁ ((s.heap.objs.size, oI) :: g o) →
      wpAny (model prog w) A (assign (.Name xk px) env val) (fun _ s₃ => wpAny (model prog w) A (execs body env) (LS2 h₀ env.locals s.heap.objs.size oI g m s Q) E s₃) E { s with heap := h₁, toks := tk₁ }
def Dn2 (s : Shared) (env : Env) (h₀ : Heap) (Q : Flow → Shared → Prop) (m : Str → Option Value) (g : Obj → List (Addr × Obj)) : Prop :=
  ∀ (o : Obj) (v sm due : Option Value) (h' : Heap) (tk : Nat), o.data = Data.cell v → Fr h₀ env.locals h' (fun y => if y = Str.ofString "_law_some" then sm else if y = Str.ofString "_law_due" then due else m y) →
      News h₀ env.locals h' (g o) → Q .next { s with heap := h', toks := tk }
theorem loop2 {l : Addr} {v0 v1 : Value} (hh : A.handled = none) (F : Fr h₀ env.locals s.heap m)
    (N : News h₀ env.locals s.heap news) (hl : (l, W.listOf #[v0, v1] 0) ∈ news) (hw : o.data = Data.cell v) (U : UpdC c o news g)
    (s0 : St2 prog w A E s env h₀ body Q m xk px g v0) (s1 : St2 prog w A E s env h₀ body Q m xk px g v1)
    (done : Dn2 s env h₀ Q m g) :
    wpAny (model prog w) A (pyIter (.ref l)) (fun it s₂ => TurnsAt prog w A h₀ env (.Name xk px) body Q E it s₂) E s := by
  have lN : env.locals ≠ s.heap.objs.size := by
    obtain ⟨oL, _, _, hL, _⟩ := F.ns
    exact Nat.ne_of_lt (Heap.lt_size hL)
  have off : ∀ o', ∀ p ∈ g o', p.1 ≠ s.heap.objs.size := fun o' p hp => by
    rcases U.addr hp with e | hp
    · rw [e]; exact Nat.ne_of_lt (Heap.lt_size (N _ U.mem).1)
    · exact Nat.ne_of_lt (Heap.lt_size (N _ hp).1)
  have hlg : ∀ o', (l, W.listOf #[v0, v1] 0) ∈ g o' := fun o' => by
    rcases U.keep (o' := o') hl with e | e
    · cases e; cases hw
    · exact e
  have hls : l ≠ s.heap.objs.size := Nat.ne_of_lt (Heap.lt_size (N _ hl).1)
  have hL : s.heap.IsList l #[v0, v1] := ⟨_, (N _ hl).1, rfl, _, rfl⟩
  refine wpAny_pyIter_list hL ?_
  let J : Nat → (Str → Option Value) → List (Addr × Obj) → Prop := fun i m₁ news₁ => ∃ (o : Obj) (v sm due : Option Value),
    o.data = Data.cell v ∧ m₁ = (fun y => if y = Str.ofString "_law_some" then sm else if y = Str.ofString "_law_due" then due else m y) ∧ news₁ = g o
  refine ⟨s.heap.objs.size, [s.heap.objs.size, l], [s.heap.objs.size], 2, _, _, _, m, g o, J, rfl,
    KTurns.ofWalks (Walks.list hh s.heap.objs.size l hls #[v0, v1]) (fun i v s' Q' E' _ hq => by unfold letOwnedTupleGo; exact wpAny_pure hq), ?_, ?_, ?_, ?_, F.push _, ?_, ?_, ?_, ?_⟩
  · intro h
    rcases List.mem_cons.mp h with h | h
    · exact lN h
    · exact (N _ hl).2.1 (List.mem_singleton.mp h).symm
  · intro b hb
    rw [List.mem_singleton.mp hb]
    exact next_is_new F
  · intro p hp hq
    exact off _ p hp (List.mem_singleton.mp hq)
  · exact ⟨⟨_, Heap.get?_push_size _ rfl, rfl, rfl⟩, ⟨_, Heap.get?_push_of_some _ (N _ hl).1, rfl, _, rfl⟩⟩
  · intro p hp
    rw [← U.at] at hp
    exact ⟨Heap.get?_push_of_some _ (N p hp).1, (N p hp).2⟩
  · refine ⟨o, v, m (Str.ofString "_law_some"), m (Str.ofString "_law_due"), hw, ?_, rfl⟩
    funext z
    by_cases e : z = Str.ofString "_law_some"
    · rw [if_pos e, e]
    · rw [if_neg e]
      by_cases e : z = Str.ofString "_law_due"
      · rw [if_pos e, e]
      · rw [if_neg e]
  · rintro i v m₁ news₁ h₁ tk₁ own hi hv ⟨o', v', sm', due', hw', rfl, rfl⟩ hoff hown hget hall hst F₁ N₁
    obtain ⟨⟨oI, hoI, _, hId⟩, _⟩ := hst
    have hNC : NC oI := fun _ h => by rw [hId] at h; cases h
    have hmem : (s.heap.objs.size, oI) ∈ own := hall _ (.head _) (next_is_new F) _ hoI
    have N₂ : News h₀ env.locals h₁ ((s.heap.objs.size, oI) :: g o') := by
      intro p hp
      rcases List.mem_cons.mp hp with rfl | hp
      · exact N₁ _ (List.mem_append_left _ hmem)
      · exact N₁ _ (List.mem_append_right _ hp)
    have hval : v = v0 ∨ v = v1 := by
      rcases i with _ | _ | i
      · left; have q : some v0 = some v := hv; exact (Option.some.inj q).symm
      · right; have q : some v1 = some v := hv; exact (Option.some.inj q).symm
      · exfalso; have q : i + 1 + 1 < 2 := hi; omega
    have step : St2 prog w A E s env h₀ body Q m xk px g v := by
      rcases hval with e | e
      · exact e ▸ s0
      · exact e ▸ s1
    refine wpAny_mono (step o' v' sm' due' h₁ tk₁ oI hw' hNC F₁ N₂) (fun _ s₂ q => wpAny_mono q (fun f s₃ q₃ => ?_) fun _ _ e => e) fun _ _ e => e
    have fin : (∃ h' tk o v sm due, s₃ = { s with heap := h', toks := tk } ∧ o.data = Data.cell v ∧
      Fr h₀ env.locals h' (fun y => if y = Str.ofString "_law_some" then sm else if y = Str.ofString "_law_due" then due else m y) ∧ News h₀ env.locals h' ((s.heap.objs.size, oI) :: g o)) →
      LoopStepU h₀ env.locals [s.heap.objs.size] own (J (i + 1)) { s with heap := h₁, toks := tk₁ } .next s₃ := by
      rintro ⟨h', tk, o2, v2, sm2, due2, rfl, hwd, F', N'⟩
      refine ⟨rfl, h', tk, _, g o2, rfl, F', ?_, fun p hp hq => off _ p hp (List.mem_singleton.mp hq), ⟨o2, v2, sm2, due2, hwd, rfl, rfl⟩⟩
      intro p hp
      rcases List.mem_append.mp hp with hp | hp
      · rcases List.mem_cons.mp (hown p hp) with e1 | e1
        · have e2 := hget p hp
          rw [e1, hoI] at e2
          have e3 : p = (s.heap.objs.size, oI) := by cases p; simp_all
          rw [e3]
          exact N' _ (.head _)
        · have e1 := List.mem_singleton.mp e1
          have e2 := hget p hp
          have e4 := (N₁ _ (List.mem_append_right _ (hlg o'))).1
          dsimp only at e4
          rw [e1, e4] at e2
          have e3 : p = (l, W.listOf #[v0, v1] 0) := by cases p; simp_all
          rw [e3]
          exact N' _ (.tail _ (hlg o2))
      · exact N' _ (.tail _ hp)
    cases f with
    | ret v => exact q₃
    | brk => exact q₃
    | cont => exact fin q₃
    | next => exact fin q₃
  · rintro h' tk m' news' F' N' hoff ⟨o2, v2, sm2, due2, hw2, rfl, rfl⟩
    exact done o2 v2 sm2 due2 h' tk hw2 F' N'
end

theorem Fr.conv {h₀ h : Heap} {L : Addr} {m m' : Str → Option Value} (F : Fr h₀ L h m) (e : ∀ y, m y = m' y) : Fr h₀ L h m' := (funext e : m = m') ▸ F
theorem Fr.conv2 {h₀ h : Heap} {L : Addr} {m : Str → Option Value} {S D : Str} {a b c d : Option Value} (F : Fr h₀ L h (fun y => if y = D then a else if y = S then b else if y = S then c else if y = D then d else m y)) (hSD : S ≠ D) :
    Fr h₀ L h (fun y => if y = S then b else if y = D then a else m y) := by
  refine Fr.conv F fun y => ?_
  by_cases e1 : y = D
  · rw [if_pos e1, if_neg (fun e => hSD (e.symm.trans e1)), if_pos e1]
  · by_cases e2 : y = S
    · rw [if_neg e1, if_pos e2, if_pos e2]
    · rw [if_neg e1, if_neg e2, if_neg e2, if_neg e1, if_neg e2, if_neg e1]

section
variable {M : Model} {A : Around} {E : Value → Shared → Prop}
variable {nm q : Str} {C N : Addr} {bs bm : List Value} {hdct : Bool} {sn : List Str} {sub : List Value} {ab : Bool} {col : Option Bool} {dd : Option Addr} {k0 k1 k2 k3 k5 : Option Value} {newId : String}
variable {nm' q' : Str} {D N' : Addr} {bs' bm' : List Value} {hdct' : Bool} {sn' : List Str} {sub' : List Value} {ab' : Bool} {col' : Option Bool} {dd' : Option Addr} {k0' k1' k2' k3' k5' : Option Value} {newId' : String}
theorem matchesBase {h : Heap} {g : Array GenState} {d : Drawn} {t : Nat} {os : OsState} {e : Addr} {oe : Obj} {Q : Bool → Shared → Prop}
    (hC : h.get? C = some (excClassObj nm q C N bs bm hdct sn sub ab col dd k0 k1 k2 k3 k5 newId)) (hD : h.get? D = some (excClassObj nm' q' D N' bs' bm' hdct' sn' sub' ab' col' dd' k0' k1' k2' k3' k5' newId'))
    (he : h.get? e = some oe) (hcls : oe.cls = .ref D) (hbase : bm.contains (.type "BaseException") = true) (hsub : (Value.ref D :: bm').contains (.ref C) = true)
    (hq : Q true ⟨h, g, d, t, os⟩) : wpAny M A (excMatches (.ref e) (.ref C)) Q E ⟨h, g, d, t, os⟩ := by
  have cB : (Value.ref C :: bm).contains (.type "BaseException") = true := by
    rw [List.contains_cons, hbase]
    exact Bool.or_true _
  have nt := tc_notTuple
  unfold excMatches
  repeat (first | (with_reducible refine wpAny_isSubtype_exc hC ?_; rw [cB]) | (with_reducible refine wpAny_isSubtype_exc hD ?_; rw [hsub]) | (with_reducible refine wpAny_loadPart_at he ?_; rw [hcls]) | with_reducible refine wpAny_loadPart_at hC ?_ | wp_step)
  exact hq
end

def baseIn (K : Frag) (D C : Addr) : Bool := match K.lookup D with
  | some ⟨_, _, .cls cd, _⟩ => cd.mro.contains (.ref C)
  | _ => false

section
variable {prog : Program} {w : World} {A₀ : Around} {E : Value → Shared → Prop} {s' : Shared} {h₀ h : Heap} {outer : List Env} {L a e t : Addr} {m : Str → Option Value} {name : Str} {scope : Scope} {cd : Value} {cl : List (Str × Addr)}
  {vs : List Value} {n : Str} {b₀ : Stmt} {suite : List Stmt} {pos np : Pos} {rest : List ExceptHandler} {Q : Flow → Shared → Prop} {news : List (Addr × Obj)} {KF : Frag} {C D : Addr} {bmB : List Value} {newId : String}
  {p : Program} {loose : List Str} {mg mb : Str → Option Value} {x y : Str}
theorem goesX {M : Model} {A : Around} {s : Shared} {Q : Unit → Shared → Prop} (F : Fr h₀ L s.heap m) (N : News h₀ L s.heap news)
    (h : ∀ h' v, Fr h₀ L h' (fun x => if x = n then v else m x) → News h₀ L h' news → Q () { s with heap := h', toks := s.toks + 1 })
    (hk : scope.kind = .function := by rfl) (hl : (envX name scope L a cd cl).kindOf n = some .local := by rfl) :
    wpAny M A (do bindName (envX name scope L a cd cl) n .none; unbindBehindTheSuite (envX name scope L a cd cl) n pos) Q E s :=
  wpAny_nameGoes_keeps hl F.ns (by show (scope.kind == .class || (scope.kind == .module && L != mainGlobals)) = false; rw [hk]; rfl) fun h' v hn hs => h h' v (F.set hn hs) (N.set hs)
abbrev dp (A : Around) (name : Str) (scope : Scope) (L a : Addr) (cd : Value) (cl : List (Str × Addr)) : Around := A.deeper (envX name scope L a cd cl)
theorem caughtX (B : Below A₀ h₀ outer h₀) (F : Fr h₀ L h m) (up : h.UpToSlots s'.heap) (R : RaisedK h₀ (envX name scope L a cd cl :: outer) e (.ref D) t vs news s'.heap)
    (X : KF.In h₀) (T : TopRead p loose mg mb h₀) (ex : nsIn KF mainGlobals x = some (some (.ref C))) (q : excIn KF C bmB newId = true) (hbase : bmB.contains (.type "BaseException") = true)
    (ey : nsIn KF mainGlobals y = some (some (.ref D))) (qy : excIn KF D bmB newId = true) (hb : baseIn KF D C = true)
    (k : ∀ h' oe tk, Fr h₀ L h' (fun y => if y = n then some (.ref e) else m y) → oe.cls = .ref D → News h₀ L h' ((e, oe) :: news) →
      wpAny (model prog w) ((dp A₀ name scope L a cd cl).mark (some (.ref e))) (execs (b₀ :: suite) (envX name scope L a cd cl))
        (fun f s₄ => wpAny (model prog w) (dp A₀ name scope L a cd cl) (do bindName (envX name scope L a cd cl) n .none; unbindBehindTheSuite (envX name scope L a cd cl) n pos) (fun _ s₅ => Q f s₅) E s₄)
        (AsSuiteRaised (model prog w) ((dp A₀ name scope L a cd cl).mark (some (.ref e))) (envX name scope L a cd cl) n pos (notedBy (model prog w) ((dp A₀ name scope L a cd cl).mark (some (.ref e))) (envX name scope L a cd cl) (cameBackBy (model prog w) (dp A₀ name scope L a cd cl) (envX name scope L a cd cl) E)))
        { s' with heap := h', toks := tk })
    (fk : scope.kind = .function := by rfl) (nl : (envX name scope L a cd cl).kindOf n = some .local := by rfl) (xg : (envX name scope L a cd cl).kindOf x = some .globalImplicit := by rfl) (xd : (x == ("__debug__" : Str)) = false := by decide) :
    wpAny (model prog w) (dp A₀ name scope L a cd cl) (noteFrame (.ref e) (envX name scope L a cd cl))
      (fun _ s₂ => wpAny (model prog w) (dp A₀ name scope L a cd cl) (setFlight (.ref e) none) (fun _ s₃ =>
        wpAny (model prog w) (dp A₀ name scope L a cd cl) (handleBy (.ref e) (envX name scope L a cd cl) (.ExceptHandler (some (.Name x np)) (some n) (b₀ :: suite) pos :: rest)) Q E s₃) E s₂) E s' := by
  obtain ⟨⟨G, st, inn, fly, _⟩, _⟩ := R
  have gL : G.get? L = none := by
    obtain ⟨_, ⟨L₁, _, e₁, e₂, _⟩, _⟩ := fly.2.2.1
    cases e₁
    exact e₂
  refine wpAny_looks_onW (Around.frames_deeper B.stack) rfl fly fun g₁ w₁ u₁ => ?_
  refine wpAny_landsW w₁ fun g₂ w₂ u₂ => ?_
  have v₂ := flyingW_base st w₂
  have F₂ := F.of_stays v₂.1 (up.trans (u₁.trans u₂))
  obtain ⟨oe, he, hec⟩ := v₂.there
  refine wpAny_handleBy_cons (codeAny_handlers_test (nameX_K F₂ X T ex ?_ fk xg xd)) (fun z => nomatch z)
  obtain ⟨_, _, _, _, _, _, _, _, _, _, _, _, _, _, _, _, _, c₁, _, _, tl⟩ := ((own_of_in X T ex q).keeps F₂.keep).obj
  obtain ⟨bm', _, _, _, _, _, _, _, _, _, _, _, _, _, _, _, _, d₁, _, _, _⟩ := ((own_of_in X T ey qy).keeps F₂.keep).obj
  have sb : (Value.ref D :: bm').contains (.ref C) = true := by
    unfold baseIn at hb
    split at hb
    · rename_i lk
      have z := F₂.keep _ _ (X _ _ lk)
      rw [d₁] at z
      cases z
      exact hb
    · cases hb
  refine matchesBase c₁ d₁ he hec (tl.hasType hbase) sb (codeAny_handlers_suite_as (lands_againW w₂ fun g₃ w₃ u₃ => ?_))
  have v₃ := flyingW_base st w₃
  have F₃ := F.of_stays v₃.1 ((up.trans (u₁.trans u₂)).trans u₃)
  obtain ⟨of, wf, hf, hfc, hfd, _⟩ := v₃.first
  have N₃ : News h₀ L g₃ ((e, of) :: news) := by
    refine News.more F₃ (fun z hz => ⟨w₃.1 _ _ (inn z hz).1, fun eL => ?_, (inn z hz).2⟩) hf (fun es n z => by rw [hfd] at z; cases z) v₃.2.1
    have z₁ := (inn z hz).1
    rw [eL, gL] at z₁
    cases z₁
  exact storeX_L F₃ N₃ (fun g₄ F₄ N₄ => k g₄ of _ F₄ hfc N₄) fk nl
end
end Toy
end S1
section S2
open PySem PySem.W PyProof.Rows PySem.Spec PySem.Calls PySem.Builtin PySem.Builtin.ObjectAttr PySem.Builtin.Getset_descriptor
set_option maxRecDepth 100000
namespace Toy
def Ex (h : Heap) (x D : Addr) : Prop := ∃ o, h.get? x = some o ∧ o.cls = .ref D
theorem Ex.kind {h : Heap} {x D : Addr} (I : Ex h x D) (M : Model) : Looks M h (typeOf (.ref x)) (.ref D) := by
  obtain ⟨o, ho, hc⟩ := I
  exact hc ▸ (Looks.ld ho).andThen .now

structure ExcK (K : Frag) (D : Addr) : Prop where
  cls : (clsIn K D).isSome = true
  ga : findIn K (.ref D) "__getattribute__" = some (some (.builtin "BaseException.__getattribute__"))
  gt : findIn K (.ref D) "__getattr__" = some none
  kl : findIn K (.ref D) "__class__" = some (some (.builtin "object.__class__"))
  gg : specialIn K (.builtin "object.__class__") "__get__" = some (some (.builtin "getset_descriptor.__get__"))
  tk : takesIn K (.builtin "object.__class__") = some true
  ob : mroIn K D (.type "object") = some true
  be : mroIn K D (.type "BaseException") = some true

theorem ExcK.find {K : Frag} {D x : Addr} {h : Heap} (k : ExcK K D) (X : K.In h) (M : Model) : Looks M h (find (.ref x) (.ref D) "__class__") (.bind (.builtin "getset_descriptor.__get__") (.builtin "object.__class__")) := by
  have a : Looks M h (getOf (some (.builtin "object.__class__"))) (some (.builtin "getset_descriptor.__get__")) := looks_specialIn X k.gg
  have b : Looks M h (dataDescriptor? (some (.builtin "object.__class__")) (some (.builtin "getset_descriptor.__get__"))) (some (.builtin "getset_descriptor.__get__", .builtin "object.__class__")) := (looks_takesIn X k.tk).andThen .now
  exact (looks_findIn X k.kl).andThen (a.andThen (b.andThen (Looks.tag .now)))

theorem looksCls {K : Frag} {C : Addr} {M : Model} {h : Heap} (X : K.In h) (e : (clsIn K C).isSome = true) : Looks M h (isType (.ref C)) true := by
  unfold clsIn at e
  cases q : K.lookup C with
  | none => rw [q] at e; cases e
  | some o =>
    intro A P E s kp hp
    unfold isType loadHead
    refine wpAny_bind (wpAny_loadPart (kp _ _ (X _ _ q)) ?_)
    rw [q] at e
    obtain ⟨c, d, dt, sl⟩ := o
    cases dt with
    | cls cd => exact wpAny_pure hp
    | _ => cases e

section
variable {prog : Program} {w : World} {A : Around} {E : Value → Shared → Prop} {s : Shared} {K : Frag} {x C D : Addr}

theorem exGet {R : Result → Shared → Prop} {v : Value} (X : K.In s.heap) (I : Ex s.heap x D) (k : ExcK K D) (hR : R (.ok (.ret (.ref D))) s) :
    codeAny (model prog w) A (.call (.builtin "getset_descriptor.__get__") ⟨[.builtin "object.__class__", .ref x, v], []⟩) R s := by
  obtain ⟨h, g, dr, t, os⟩ := s
  have l := I.kind (model prog w)
  have lo := looks_mroIn (M := model prog w) X k.ob
  refine codeAny_call_builtin KF.slot_gs.plain KF.entry_gs (KF.slot_gs.check _ _ _ _ _ _ _ _ KF.type_class (KF.args_gs _ _ _) ?_)
  unfold Builtin.«getset_descriptor.__get__» descrGet; rw [dga_obj]
  refine wpAny_bind (wpAny_pure ?_)
  unfold descrGetter descrCheckInstance descrNameAndClass isInstance; simp only [KF.owner_class]
  repeat lk
  refine ⟨Code.quiet_builtin _ (by decide +kernel), codeAny_builtin KF.entry_class ?_⟩
  unfold Builtin.«object.__class__» shownTypeOf; repeat lk
  exact hR

theorem exEntry {tk : Tok} {P : Fin → Shared → Prop} (X : K.In s.heap) (I : Ex s.heap x D) (k : ExcK K D) (hP : P (.done (.ret (.ref D))) s) :
    wpAny (model prog w) A (Builtin.«object.__getattribute__» ⟨[.ref x, .str "__class__" tk], []⟩) P E s := by
  obtain ⟨h, g, dr, t, os⟩ := s
  have l := I.kind (model prog w)
  have lf := k.find (x := x) X (model prog w)
  repeat (any_goals (first | assumption | with_reducible refine l.at ?_ | with_reducible refine lf.at ?_ | wp_step))
  exact exGet X I k (wpAny_pure hP)

theorem exCheck {M : Model} {n : Value} {P : Unit → Shared → Prop} (X : K.In s.heap) (I : Ex s.heap x D) (k : ExcK K D) (hP : P () s) : wpAny M A (checkBuiltinCall "BaseException.__getattribute__" ⟨[.ref x, n], []⟩) P E s := by
  have l := I.kind M
  have lb := looks_mroIn (M := M) X k.be
  have e1 : builtinKind "BaseException.__getattribute__" = some .slot := by decide +kernel
  have e2 : splitId "BaseException.__getattribute__" = some ("BaseException", "__getattribute__") := by decide +kernel
  have e3 := F.args_bexc_ga (.ref x) n
  simp only [checkBuiltinCall, e1, e2]
  refine wpAny_bind ?_
  unfold isInstance
  obtain ⟨h, g, dr, t, os⟩ := s
  repeat (first | with_reducible refine l.at ?_ | with_reducible refine lb.at ?_ | wp_step)
  exact hP

theorem exClass {P : Option Value → Shared → Prop} (X : K.In s.heap) (I : Ex s.heap x D) (k : ExcK K D) (hP : P (some (.ref D)) { s with toks := s.toks + 1 }) : wpAny (model prog w) A (getAttr? (.ref x) "__class__") P E s := by
  obtain ⟨h, g, dr, t, os⟩ := s
  have l := I.kind (model prog w)
  have lg := looks_findIn (M := model prog w) X k.ga
  have lh := looks_findIn (M := model prog w) X k.gt
  have hb := PySem.F.excAttr_ValueError.ga.bind (.ref x)
  have e1 : (Value.builtin "BaseException.__getattribute__" == Value.builtin "object.__getattribute__") = false := by decide +kernel
  have e2 : (onTheHeap (Value.ref D) && Value.builtin "BaseException.__getattribute__" == Value.builtin "object.__getattribute__") = false := by rw [e1]; rfl
  unfold getAttr? getAttrBy? getAttrBy
  refine wpAny_bind (wpAny_mkText (wpAny_bind (wpAny_attempt (wpAny_holding (wpAny_bind (l.at (wpAny_bind (lg.at ?_))))))))
  repeat (any_goals (first | assumption | with_reducible refine l.at ?_ | with_reducible refine lg.at ?_ | with_reducible refine lh.at ?_ | wp_step))
  refine codeAny_call_builtin PySem.F.excAttr_ValueError.ga.plain F.entry_bexc_ga (exCheck X I k (exEntry X I k ?_))
  repeat (any_goals (first | assumption | wp_step))

theorem exAsk {b : Bool} {c : Value} {i : Int} {tk : Tok} {P : Fin → Shared → Prop} (X : K.In s.heap) (I : Ex s.heap x D) (hk : b = false → ExcK K D) (ht : Looks (model prog w) s.heap (typeOf c) (.type "type")) (hi : Looks (model prog w) s.heap (isType c) true)
    (hn : b = false → (Value.ref D == c) = false) (hs : Looks (model prog w) s.heap (isSubtype (.ref D) c) b) (h1 : b = true → P (.done (.ret (.bool true))) s) (h0 : b = false → P (.done (.ret (.bool false))) { s with toks := s.toks + 1 }) :
    wpAny (model prog w) A (Builtin.«isinstance.nested» ⟨[.ref x, c, .int i tk], []⟩) P E s := by
  obtain ⟨h, g, dr, t, os⟩ := s
  have l := I.kind (model prog w)
  have li : Looks (model prog w) h (isInstance (.ref x) c) b := l.andThen hs
  unfold Builtin.«isinstance.nested»
  refine wpAny_bind (l.at ?_)
  by_cases q : (Value.ref D == c) = true
  · rw [if_pos q]
    cases b with
    | true => exact wpAny_bind (wpAny_rule (wpAny_bind (wpAny_pure (wpAny_pure (h1 rfl)))))
    | false => rw [hn rfl] at q; cases q
  · rw [if_neg q]
    refine wpAny_bind (ht.at ?_)
    rw [if_pos (by decide)]
    k_delta "plainIsInstance"
    refine wpAny_bind (wpAny_bind (hi.at ?_))
    simp only [Bool.not_true, Bool.false_eq_true, if_false]
    refine wpAny_bind (li.at ?_)
    cases b with
    | true => exact wpAny_pure (wpAny_pure (h1 rfl))
    | false =>
      simp only [Bool.false_eq_true, if_false]
      refine wpAny_bind (exClass X I (hk rfl) ?_)
      refine wpAny_bind ((looksCls X (hk rfl).cls).at ?_)
      simp only [Bool.not_true, Bool.false_eq_true, if_false]
      refine wpAny_bind (wpAny_rule (hs.at ?_))
      first | exact wpAny_pure (h0 rfl) | exact wpAny_pure (wpAny_pure (h0 rfl)) | exact wpAny_bind (wpAny_pure (wpAny_pure (h0 rfl)))

def excKIn (K : Frag) (D : Addr) : Bool := (clsIn K D).isSome && findIn K (.ref D) "__getattribute__" == some (some (.builtin "BaseException.__getattribute__")) && findIn K (.ref D) "__getattr__" == some none && findIn K (.ref D) "__class__" == some (some (.builtin "object.__class__")) &&
  specialIn K (.builtin "object.__class__") "__get__" == some (some (.builtin "getset_descriptor.__get__")) && takesIn K (.builtin "object.__class__") == some true && mroIn K D (.type "object") == some true && mroIn K D (.type "BaseException") == some true
theorem excKIn.of (e : excKIn K D = true) : ExcK K D := by
  unfold excKIn at e
  simp only [Bool.and_eq_true, beq_iff_eq] at e
  obtain ⟨⟨⟨⟨⟨⟨⟨a, b⟩, c⟩, d⟩, e1⟩, f⟩, g⟩, h⟩ := e
  exact ⟨a, b, c, d, e1, f, g, h⟩

variable {h₀ : Heap} {L : Addr} {m : Str → Option Value} {news : List (Addr × Obj)} {vs : List Value} {P : Value → Shared → Prop} {T : String} {o : Obj}
def clsOkIn (K : Frag) (C : Addr) : Bool := (clsIn K C).isSome && typeIn K (.ref C) == some (.type "type")

theorem Ex.of {d : Data} (N : News h₀ L s.heap news) (hm : (x, { cls := .ref D, data := d : Obj }) ∈ news) : Ex s.heap x D := ⟨_, (N _ hm).1, rfl⟩
theorem Ex.var (N : News h₀ L s.heap news) (hm : (x, o) ∈ news) (hc : o.cls = .ref D) : Ex s.heap x D := ⟨_, (N _ hm).1, hc⟩

theorem excIs (F : Fr h₀ L s.heap m) (X : K.In h₀) (I : Ex s.heap x D) (hc : clsOkIn K C = true) (e : mroIn K D (.ref C) = some true) (h : P (.bool true) s) :
    wpAny (model prog w) A (call (.builtin "isinstance") [.ref x, .ref C]) P E s := by
  unfold clsOkIn at hc
  rw [Bool.and_eq_true] at hc
  exact call_isinstance (S := fun _ R s => (K.In s.heap ∧ Ex s.heap x D) ∧ R (.ok (.ret (.bool true))) s)
    (fun _ _ _ _ _ z => isinstance_outer (exAsk (b := true) z.1.1 z.1.2 (fun q => nomatch q) (looks_typeIn z.1.1 (beq_iff_eq.mp hc.2)) (looksCls z.1.1 hc.1) (fun q => nomatch q) (looks_mroIn z.1.1 e) (fun _ => z.2) fun q => nomatch q) (by intro q; cases q)) ⟨⟨X.keeps F.keep, I⟩, h⟩

theorem excNot (F : Fr h₀ L s.heap m) (X : K.In h₀) (I : Ex s.heap x D) (hk : excKIn K D = true) (hc : clsOkIn K C = true) (e : mroIn K D (.ref C) = some false) (hne : D ≠ C)
    (h : P (.bool false) { s with toks := s.toks + 1 }) : wpAny (model prog w) A (call (.builtin "isinstance") [.ref x, .ref C]) P E s := by
  unfold clsOkIn at hc
  rw [Bool.and_eq_true] at hc
  exact call_isinstance (S := fun _ R s => (K.In s.heap ∧ Ex s.heap x D) ∧ R (.ok (.ret (.bool false))) { s with toks := s.toks + 1 })
    (fun _ _ _ _ _ z => isinstance_outer (exAsk (b := false) z.1.1 z.1.2 (fun _ => excKIn.of hk) (looks_typeIn z.1.1 (beq_iff_eq.mp hc.2)) (looksCls z.1.1 hc.1) (fun _ => Bool.eq_false_iff.mpr fun q => hne (by cases beq_iff_eq.mp q; rfl)) (looks_mroIn z.1.1 e) (fun q => nomatch q) fun _ => z.2) (by intro q; cases q)) ⟨⟨X.keeps F.keep, I⟩, h⟩

theorem excIsT (F : Fr h₀ L s.heap m) (X : K.In h₀) (I : Ex s.heap x D) (ht : typeOf (.type T) = pure (.type "type")) (e : mroIn K D (.type T) = some true) (h : P (.bool true) s) :
    wpAny (model prog w) A (call (.builtin "isinstance") [.ref x, .type T]) P E s :=
  call_isinstance (S := fun _ R s => (K.In s.heap ∧ Ex s.heap x D) ∧ R (.ok (.ret (.bool true))) s)
    (fun _ _ _ _ _ z => isinstance_outer (exAsk (b := true) z.1.1 z.1.2 (fun q => nomatch q) (Looks.of_pure ht) (Looks.of_pure rfl) (fun q => nomatch q) (looks_mroIn z.1.1 e) (fun _ => z.2) fun q => nomatch q) (by intro q; cases q)) ⟨⟨X.keeps F.keep, I⟩, h⟩
end
end Toy
end S2
section S3
open PySem PySem.W PyProof.Rows PySem.Spec PySem.Calls
set_option maxRecDepth 100000
namespace Toy
def b5 (i : Int) : List Value := [.bool (decide (i = 0)), .bool (decide (i = 1)), .bool (decide (i = 2)), .bool (decide (i = 3)), .bool (decide (i = 4))]
theorem b5_0 : b5 0 = [.bool true, .bool false, .bool false, .bool false, .bool false] := rfl
theorem b5_1 : b5 1 = [.bool false, .bool true, .bool false, .bool false, .bool false] := rfl
theorem b5_2 : b5 2 = [.bool false, .bool false, .bool true, .bool false, .bool false] := rfl
theorem b5_3 : b5 3 = [.bool false, .bool false, .bool false, .bool true, .bool false] := rfl
theorem b5_4 : b5 4 = [.bool false, .bool false, .bool false, .bool false, .bool true] := rfl
theorem b5_5 : b5 5 = [.bool false, .bool false, .bool false, .bool false, .bool false] := rfl
section
variable {prog : Program} {w : World} {A : Around} {h₀ : Heap} {L : Addr} {m : Str → Option Value} {env : Env} {x xk : Str} {p1 p2 p3 : Pos} {scope : Scope} {cl : List (Str × Addr)} {s : Shared} {S : List (Addr × Obj) → Prop} {Fin : List Value → List (Addr × Obj) → Prop} {news : List (Addr × Obj)}
  {iv : Int} {ti : Tok} {c : Addr} {o : Obj}
theorem compB {j i : Nat} {ys : List Value} (hc : cl.lookup xk = some c) (hm : (c, o) ∈ news) (hd : o.data = .cell (some (.int iv ti))) (hS : S news)
    (k1 : ∀ C, (compEnvC scope cl C env).scope.kind = .function) (k2 : ∀ C, (compEnvC scope cl C env).kindOf xk = some .cell) (k3 : ∀ C, (compEnvC scope cl C env).kindOf x = some .local)
    (n1 : (xk == ("__debug__" : Str)) = false) (n2 : (x == ("__debug__" : Str)) = false)
    (rest : LCg.CompRest prog w A h₀ L m env (.Compare (.Name xk p1) [.Eq] [.Name x p2] p3) x scope cl s S (fun i v => ∃ t, v = .int (0 + (i : Int)) t) Fin j (i + 1) (ys ++ [.bool (decide (iv = (i : Int)))]) news) :
    LCg.CompRest prog w A h₀ L m env (.Compare (.Name xk p1) [.Eq] [.Name x p2] p3) x scope cl s S (fun i v => ∃ t, v = .int (0 + (i : Int)) t) Fin (j + 1) i ys news := by
  refine LCg.CompRest.succ ?_
  rintro v I oI C oC D m₂ h tk E' ⟨t, rfl⟩ hC hx F N off ne
  refine wpAny_Compare1 (kcf_cell N hc (.tail _ (.tail _ (.tail _ hm))) hd (LCgL.ld_own N (.tail _ (.head _)) hC hx (eq_int ?_) (k1 C) (k3 C) n2) (k1 C) (k2 C) n1)
  refine LCg.CompEnd.intro F N news (fun _ q => q) off hS ?_
  rw [Int.zero_add]
  exact rest

theorem comp5 (hc : cl.lookup xk = some c) (hm : (c, o) ∈ news) (hd : o.data = .cell (some (.int iv ti))) (hS : S news)
    (k1 : ∀ C, (compEnvC scope cl C env).scope.kind = .function) (k2 : ∀ C, (compEnvC scope cl C env).kindOf xk = some .cell) (k3 : ∀ C, (compEnvC scope cl C env).kindOf x = some .local)
    (n1 : (xk == ("__debug__" : Str)) = false) (n2 : (x == ("__debug__" : Str)) = false) (fin : Fin (b5 iv) news) :
    LCg.CompRest prog w A h₀ L m env (.Compare (.Name xk p1) [.Eq] [.Name x p2] p3) x scope cl s S (fun i v => ∃ t, v = .int (0 + (i : Int)) t) Fin 5 0 [] news :=
  compB hc hm hd hS k1 k2 k3 n1 n2 (compB hc hm hd hS k1 k2 k3 n1 n2 (compB hc hm hd hS k1 k2 k3 n1 n2 (compB hc hm hd hS k1 k2 k3 n1 n2 (compB hc hm hd hS k1 k2 k3 n1 n2 (LCg.CompRest.zero fin)))))
end
def Rest (g : Array GenState) (d : Drawn) (os : OsState) (env : Env) (h₀ : Heap) (Q : Flow → Shared → Prop) (c : Addr) : Prop :=
  ∀ (m : Str → Option Value) (l : Addr) (hp : Heap) (tk : Nat), Dn1 ⟨hp, g, d, tk, os⟩ env h₀ Q m l c
theorem cut {P R : Prop} (main : R → P) (rest : R) : P := main rest
end Toy
end S3
section S0
open PySem PySem.W PyProof.Rows
set_option maxRecDepth 100000
set_option maxHeartbeats 8000000
open_top hd05 for PySem.Challenge.rw_oncenames_k05_refusals_made
end S0
section S4
open PySem PySem.W PyProof.Rows
set_option maxRecDepth 100000
set_option maxHeartbeats 8000000

local macro_rules | `(tactic| walk_at "call ref") => `(tactic| (k_here; k_dflt (refine' Toy.mkExc ?F ?N ?O ?l ?_; (case F => k_asm); (case N => k_asm); (case O => exact own_of_in (by k_asm) (by k_asm) (by k_ownname) (by k_exc)); (case l => exact Nat.le_of_ble_eq_true rfl); k_whole); intro h' e' t' F' N'; (try k_sweep)))
local macro_rules | `(tactic| kt_len) => `(tactic| exact (Nat.le_refl 1 : (PyProof.Txt.item _ _).length ≤ 1))
local macro_rules | `(tactic| walk_at "ncs") => `(tactic| first | exact List.forall_mem_nil _ | (refine' List.forall_mem_cons.mpr ⟨?a, ?b⟩; (case a => first | exact Toy.NC.list | exact Toy.NC.exc | assumption); (case b => walk_at "ncs")))
local macro_rules | `(tactic| walk_at "updC") => `(tactic| first | (refine' Toy.UpdC.head ?a; (case a => walk_at "ncs")) | (refine' Toy.UpdC.tail ?a ?b; (case a => first | exact Toy.NC.list | exact Toy.NC.exc | assumption); (case b => walk_at "updC")))
local macro_rules | `(tactic| walk_at "memb") => `(tactic| first | exact List.Mem.head _ | (refine' Toy.memCons ?_; walk_at "memb"))
local macro_rules | `(tactic| walk_at "subs") => `(tactic| first | exact List.forall_mem_nil _ | (refine' List.forall_mem_cons.mpr ⟨?a, ?b⟩; (case a => walk_at "memb"); (case b => walk_at "subs")))
local macro_rules | `(tactic| walk_at "storeName") => `(tactic| (k_here; k_dflt (refine' Toy.storeC ?F ?N ?c ?U ?d ?_ ?a ?b; (case a => rfl); (case b => rfl); (case F => k_asm); (case N => k_asm); (case c => rfl); (case U => walk_at "updC"); (case d => assumption); k_whole); intro h' o' F' N' d'; (try dsimp only at N'); (try k_sweep)))
local macro_rules | `(tactic| walk_at "exec For Name List cons nil") => `(tactic| (k_here; (with_reducible rename Fr _ _ _ _ => lF'); (with_unfolding_all refine' For_turns lF' ?_); k_whole))
local macro_rules | `(tactic| walk_at "exec For Name Call") => `(tactic| (k_here; (with_reducible rename Fr _ _ _ _ => lF'); (with_unfolding_all refine' For_turns lF' ?_); k_whole))
local macro_rules | `(tactic| walk_at "exec For") => `(tactic| (k_here; (with_reducible rename Fr _ _ _ _ => lF'); (with_unfolding_all refine' For_turns lF' ?_); k_whole))
local macro_rules | `(tactic| walk_at "St2") => `(tactic| ((unfold Toy.St2); intro o v sm due h₁ tk₁ oI hw hNC F1 N1; (try dsimp only at N1)))
local macro_rules | `(tactic| walk_at "St6") => `(tactic| ((unfold Toy.St6); intro ti o v due h₁ tk₁ oI hw hNC F1 N1; (try dsimp only at N1)))
local macro_rules | `(tactic| walk_at "St1") => `(tactic| ((unfold Toy.St1); intro i ti t tt x tx y ty o v h₁ tk₁ oI hti htm hov hl hc hl' hc' hlc hcl F1 N1))
local macro_rules | `(tactic| walk_at "Dn2") => `(tactic| ((unfold Toy.Dn2); intro o v sm due h₁ tk₁ hw F1 N1; (try dsimp only at N1)))
local macro_rules | `(tactic| walk_at "Dn6") => `(tactic| ((unfold Toy.Dn6); intro o v due h₁ tk₁ hw F1 N1; (try dsimp only at N1)))
local macro_rules | `(tactic| walk_at "Dn1") => `(tactic| ((unfold Toy.Dn1); intro t tt x tx y ty o v h₁ tk₁ htm hov hlc hcl F1 N1))
local macro_rules | `(tactic| walk_at "LS") => `(tactic| ((rename Fr _ _ _ _ => hF2); (rename News _ _ _ _ => hN2); (with_unfolding_all refine' ⟨_, _, _, _, _, _, _, _, _, _, rfl, ?hd, ?len, Toy.Fr.twice hF2, hN2⟩); (case hd => with_unfolding_all assumption); (case len => with_unfolding_all omega)))
local macro_rules | `(tactic| walk_at "LS6") => `(tactic| ((rename Fr _ _ _ _ => hF2); (rename News _ _ _ _ => hN2); (with_unfolding_all refine' ⟨_, _, _, _, _, rfl, ?hd, Toy.Fr.twice hF2, Toy.newsSub hN2 ?sb⟩); (case hd => with_unfolding_all assumption); (case sb => with_unfolding_all walk_at "subs")))
local macro_rules | `(tactic| walk_at "LS2") => `(tactic| ((rename Fr _ _ _ _ => hF2); (rename News _ _ _ _ => hN2); (with_unfolding_all refine' ⟨_, _, _, _, _, _, rfl, ?hd, Toy.Fr.conv2 hF2 ?ne, Toy.newsSub hN2 ?sb⟩); (case hd => with_unfolding_all assumption); (case ne => with_unfolding_all decide); (case sb => with_unfolding_all walk_at "subs")))
local macro_rules | `(tactic| walk_at "pyIter ref") => `(tactic| (k_here; (with_reducible show wpAny _ _ _ (fun it s₂ => TurnsAt _ _ _ _ _ (Expr.Name (Str.ofString "_law_some") _) _ _ _ it s₂) _ _); (rename Fr _ _ _ _ => hF6); (rename News _ _ _ _ => hN6); (with_unfolding_all refine' Toy.loop2 ?hh hF6 hN6 ?hl ?hw ?U ?_ ?_ ?_); (case hl => with_unfolding_all walk_at "memb"); (case hw => with_unfolding_all assumption); (case U => with_unfolding_all walk_at "updC"); (case hh => with_unfolding_all rfl)))
local macro_rules | `(tactic| walk_at "pyIter ref") => `(tactic| (k_here; (with_reducible show wpAny _ _ _ (fun it s₂ => TurnsAt _ _ _ _ _ (Expr.Name (Str.ofString "_law_k") _) _ _ _ it s₂) _ _); (rename IsRange _ _ _ _ _ _ _ _ => hR6); (rename Fr _ _ _ _ => hF6); (rename News _ _ _ _ => hN6); (with_unfolding_all refine' Toy.loop6 ?hh hR6 hF6 hN6 ?U ?hw ?_ ?_ ?_ ?_ ?_ ?_ ?_); (case hw => with_unfolding_all assumption); (case U => with_unfolding_all walk_at "updC"); (case hh => with_unfolding_all rfl)))
local macro_rules | `(tactic| walk_at "exec Try") => `(tactic| (k_here; (with_reducible show wpAny _ _ (exec (Stmt.Try _ (_ :: _) _ [] _) (envOfC _ _ _ _ _)) _ _ _); refine wpAny_Try_except ?_))
local macro_rules | `(tactic| walk_at "noteFrame ref") => `(tactic| (k_here; (rename RaisedK _ _ _ _ _ _ _ _ => rkX); (with_unfolding_all refine' Toy.caughtX (bmB := [.type "ValueError", .type "Exception", .type "BaseException", .type "object"]) (newId := "ValueError.__new__") ?K ?F ?U rkX ?X ?T ?ex ?q ?hb ?ey ?qy ?bi ?_); (case K => with_unfolding_all assumption); (case F => with_unfolding_all assumption); (case U => with_unfolding_all assumption); (case X => k_asm); (case T => k_asm); (case ex => k_is); (case q => k_exc); (case hb => with_unfolding_all rfl); (case ey => k_ownname); (case qy => k_exc); (case bi => kernel_rfl); k_whole; intro h' oe' tk' F' c' N'; (try k_sweep)))
local macro_rules | `(tactic| walk_at "bind") => `(tactic| (k_here; (with_reducible show wpAny _ _ (do bindName _ _ Value.none; unbindBehindTheSuite _ _ _) _ _ _); (rename Fr _ _ _ _ => gF); (rename News _ _ _ _ => gN); (with_unfolding_all refine' Toy.goesX gF gN ?_); k_whole; intro h' v' F' N'; (try k_sweep)))
local macro_rules | `(tactic| walk_at "call builtin:isinstance") => `(tactic| (k_here; (with_reducible show wpAny _ _ (call _ [Value.ref _, Value.type _]) _ _ _); (rename Fr _ _ _ _ => iF); (rename News _ _ _ _ => iN); (with_unfolding_all refine' Toy.excIsT iF ?X (Toy.Ex.var iN ?m ?c) ?ty ?e ?_); (case c => with_unfolding_all assumption); (case m => with_unfolding_all walk_at "memb"); (case X => k_asm); (case ty => kernel_rfl); (case e => k_is)))
local macro_rules | `(tactic| walk_at "call builtin:isinstance") => `(tactic| (k_here; (with_reducible show wpAny _ _ (call _ [Value.ref _, Value.ref _]) _ _ _); (rename Fr _ _ _ _ => iF); (rename News _ _ _ _ => iN); (with_unfolding_all refine' Toy.excNot iF ?X (Toy.Ex.var iN ?m ?c) ?hk ?hc ?e ?ne ?_); (case c => with_unfolding_all assumption); (case m => with_unfolding_all walk_at "memb"); (case X => k_asm); (case hk => kernel_rfl); (case hc => kernel_rfl); (case e => k_is); (case ne => decide)))
local macro_rules | `(tactic| walk_at "call builtin:isinstance") => `(tactic| (k_here; (with_reducible show wpAny _ _ (call _ [Value.ref _, Value.ref _]) _ _ _); (rename Fr _ _ _ _ => iF); (rename News _ _ _ _ => iN); (with_unfolding_all refine' Toy.excIs iF ?X (Toy.Ex.var iN ?m ?c) ?hc ?e ?_); (case c => with_unfolding_all assumption); (case m => with_unfolding_all walk_at "memb"); (case X => k_asm); (case hc => kernel_rfl); (case e => k_is)))
local macro_rules | `(tactic| walk_at "call builtin:isinstance") => `(tactic| (k_here; (with_reducible show wpAny _ _ (call _ [Value.ref _, Value.type _]) _ _ _); (rename Fr _ _ _ _ => iF); (rename News _ _ _ _ => iN); (with_unfolding_all refine' Toy.excIsT iF ?X (Toy.Ex.of iN ?m) ?ty ?e ?_); (case m => with_unfolding_all walk_at "memb"); (case X => k_asm); (case ty => kernel_rfl); (case e => k_is)))
local macro_rules | `(tactic| walk_at "call builtin:isinstance") => `(tactic| (k_here; (with_reducible show wpAny _ _ (call _ [Value.ref _, Value.ref _]) _ _ _); (rename Fr _ _ _ _ => iF); (rename News _ _ _ _ => iN); (with_unfolding_all refine' Toy.excNot iF ?X (Toy.Ex.of iN ?m) ?hk ?hc ?e ?ne ?_); (case m => with_unfolding_all walk_at "memb"); (case X => k_asm); (case hk => kernel_rfl); (case hc => kernel_rfl); (case e => k_is); (case ne => decide)))
local macro_rules | `(tactic| walk_at "call builtin:isinstance") => `(tactic| (k_here; (with_reducible show wpAny _ _ (call _ [Value.ref _, Value.ref _]) _ _ _); (rename Fr _ _ _ _ => iF); (rename News _ _ _ _ => iN); (with_unfolding_all refine' Toy.excIs iF ?X (Toy.Ex.of iN ?m) ?hc ?e ?_); (case m => with_unfolding_all walk_at "memb"); (case X => k_asm); (case hc => kernel_rfl); (case e => k_is)))
local macro_rules | `(tactic| walk_at "CompSrc") => `(tactic| (k_here; (refine LCg.CompSrc.range (by with_unfolding_all rfl) (by k_asm) (by k_asm) (by assumption) (by with_unfolding_all decide) (by with_unfolding_all rfl) (by size_fits) ?_); intro g'; (with_unfolding_all refine' Toy.comp5 ?hc ?hm ?hd ?hS ?k1 ?k2 ?k3 ?n1 ?n2 ?_); (case hd => with_unfolding_all assumption); (case hc => with_unfolding_all rfl); (case hm => with_unfolding_all walk_at "memb"); (case hS => exact True.intro); (case k1 => intro _; with_unfolding_all rfl); (case k2 => intro _; with_unfolding_all rfl); (case k3 => intro _; with_unfolding_all rfl); (case n1 => with_unfolding_all decide); (case n2 => with_unfolding_all decide); (first | rw [Toy.b5_0] | rw [Toy.b5_1] | rw [Toy.b5_2] | rw [Toy.b5_3] | rw [Toy.b5_4] | rw [Toy.b5_5])))
local macro_rules | `(tactic| walk_at "pyIter ref") => `(tactic| (k_here; (with_reducible show wpAny _ _ _ (fun it s₂ => TurnsAt _ _ _ _ _ (Expr.Name (Str.ofString "_law_k") _) _ _ _ it s₂) _ _); (rename IsRange _ _ _ _ _ _ _ _ => hR6); (rename Fr _ _ _ _ => hF6); (rename News _ _ _ _ => hN6); (with_unfolding_all refine' Toy.loop05 ?hh hR6 ?b0 ?b1 hF6 hN6 ?hc ?hw ?ht ?hz ?_ ?_); (case b0 => with_unfolding_all exact Int.fmod_nonneg_of_pos _ (by decide)); (case b1 => with_unfolding_all exact Int.lt_trans (Int.fmod_lt_of_pos _ (by decide)) (by decide)); (case hw => with_unfolding_all assumption); (case hc => with_unfolding_all walk_at "memb"); (case ht => with_unfolding_all rfl); (case hz => with_unfolding_all rfl); (case hh => with_unfolding_all rfl)))
local macro_rules | `(tactic| walk_at "Dn1") => `(tactic| ((rename Toy.Rest _ _ _ _ _ _ _ => kk); (try dsimp only); (with_unfolding_all exact kk _ _ _ _)))

def Toy.mixed (c k : Int) : Int :=
  let c1 := Int.fmod c 2147483629
  let n := Int.fmod ((c1 * c1 + 3 * c1 + 7919 * k + 1) * 48271) 2147483629
  let n2 := Int.fmod (n * n + 7) 2147483587
  Int.fmod (n2 * (n2 + 69621)) 2147483563

theorem PySem.Challenge.cw_oncenames_k05_refusals_made_holds : PySem.Challenge.rw_oncenames_k05_refusals_made.Holds :=
  hd05 (by
  k_with "tree" => simp only [Toy.mixed]
  k_with "call ref" => k_call_by "_law_mixed" Toy.mixed
  k_with "pyIter ref" => (k_of "_law_k" => k_state (fun (pre : List Int) (n : Int) => True) "_law_number")
  w_strict (k_go0; (all_goals try k_fold); (refine' Toy.cut (R := Toy.Rest ?g ?d ?os ?env ?h0 ?Q ?c) ?main ?rest); (case main => intro key; k_steps); (case rest => unfold Toy.Rest; intro m l hp tk0; k_steps)))
end S4
