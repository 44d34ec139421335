import PyProof.Rows.All
import Wide.All
import OpenK.AllK
import Wide.FinOn
import HandS.ForMost
import HandS.IsInst
import HandS.TupAny
import HandS.TupLe
import HandS.Wide
import HandS.Style
import HandS.SortInts
import HandS.Conv
import HandS.More
import HandS.EndTab
import HandS.EndOwn
import HandS.AnyAll
import HandS.GenOver
import HandS.Evl
import HandS.Walk
import HandS.NoneIn
import HandS.SetFor
import KE.GoesEnum
import PySem.Challenge.RW_friendfoe_k11_what_is_a_ring
set_option Elab.async false
set_option linter.all false
set_option maxRecDepth 100000
namespace FF
open PySem PySem.Spec PyProof.Rows L2
/-! ### heaps: what is kept -/
/-- all that is tracked, but at d and c, is as it was -/
def Kp (d c : Addr) (H H' : Hp) : Prop := ∀ b o, b ≠ d → b ≠ c → H b = some o → H' b = some o
theorem Kp.refl {d c : Addr} {H : Hp} : Kp d c H H := fun _ _ _ _ h => h
theorem Kp.trans {d c : Addr} {H H1 H2 : Hp} (a : Kp d c H H1) (b : Kp d c H1 H2) : Kp d c H H2 := fun x o h1 h2 h => b x o h1 h2 (a x o h1 h2 h)
theorem Kp.at_d {d c : Addr} {H : Hp} {o : HO} : Kp d c H (upd H d o) := fun b u h1 _ h => by rw [upd_ne h1]; exact h
theorem Kp.at_c {d c : Addr} {H : Hp} {o : HO} : Kp d c H (upd H c o) := fun b u _ h2 h => by rw [upd_ne h2]; exact h
theorem Kp.new {d c p : Addr} {H : Hp} {o : HO} (hp : H p = none) : Kp d c H (upd H p o) := fun b u _ _ h => by rw [upd_ne (ne_of_none h hp)]; exact h
theorem same_new {H : Hp} {p : Addr} {o : HO} (h : H p = none) : Same H (upd H p o) := fun b x e => by
  rw [upd_ne (ne_of_none e h)]
  exact e
theorem Same.kp {d c : Addr} {H H' : Hp} (s : Same H H') : Kp d c H H' := fun b o _ _ h => s b o h
/-! ### defs as they are called -/
def Df (P : Program) (w : World) (K : PySem.W.Frag) (mg : Str → Option Value) (base : Heap) (k : Nat) (x : Str) (ps : List Str) (sp : Sp) : Prop :=
  ∃ (f : Addr) (fd : FuncData), FnOk P w K mg base CX0 k f fd ps sp ∧ mg x = some (.ref f) ∧ PySem.W.keepIn K (.ref f) = true ∧ Binds K fd ps []
/-- built-in names that the module has not taken -/
structure Free (mg : Str → Option Value) : Prop where
  len : mg "len" = none
  int : mg "int" = none
  bool : mg "bool" = none
  str : mg "str" = none
  list : mg "list" = none
  tuple : mg "tuple" = none
  range : mg "range" = none
  isinstance : mg "isinstance" = none
  sum : mg "sum" = none
/-! ### the deck -/
structure Deck (H : Hp) (d c : Addr) : Prop where
  ex : ∃ (cells : List Int) (st n : Int), H d = some (.lst [.ref c, .int st]) ∧ H c = some (.lst (cells.map V.int)) ∧ cells.length ≤ 63
theorem Deck.ne {H : Hp} {d c : Addr} (h : Deck H d c) : d ≠ c := by
  obtain ⟨cells, st, n, h1, h2, _⟩ := h
  intro e
  rw [e, h2] at h1
  have q := HO.lst.inj (Option.some.inj h1)
  cases cells with
  | nil => simp at q
  | cons x r => simp at q
theorem Deck.same {H H' : Hp} {d c : Addr} (h : Deck H d c) (s : Same H H') : Deck H' d c := by
  obtain ⟨cells, st, n, h1, h2, h3⟩ := h
  exact ⟨cells, st, n, s _ _ h1, s _ _ h2, h3⟩
theorem mod_rng {a m : Int} (h : 0 < m) : 0 ≤ a % m ∧ a % m < m := ⟨Int.emod_nonneg a (by omega), Int.emod_lt_of_pos a h⟩
/-- a draw below m: any number from 0 on, less than m -/
def spDraw : Sp := fun vs H Q _ => ∃ (d c : Addr) (m : Int), vs = [.ref d, .int m] ∧ Deck H d c ∧ 0 < m ∧ m.natAbs < 2 ^ 120 ∧
  ∀ v H', 0 ≤ v → v < m → Deck H' d c → Kp d c H H' → Q (.int v) H'
/-! ### a generator expression's own frame -/
/-- the context of a generator's turns: its frame cenv stands over the def's -/
abbrev gX (X : Cx) (s : Shared) (H : Hp) (A' : Around) (cenv : Env) (fp : List Addr) : Cx :=
  { X with A := A', s_0 := s, H_0 := H, env := cenv, outer := X.stack, stack := cenv :: X.stack, ex := fp, fn := fun _ => false, pn := [], xe := fun _ _ => False }
/-- what is asked of the expression's own scope -/
structure GnOk (scope : Scope) : Prop where
  co : scope.isCoroutine = false
  nocell : ∀ y ∈ scope.names, y.2 ≠ .cell
  dot : scope.names.lookup (".0" : Str) = some NameKind.local
section
variable {X : Cx} {pins : List (Addr × Obj)} {σ : L2.St} {H : Hp} {s : Shared}
theorem gen_start {scope : Scope} {own : List (Str × Nat)} {fp : List Addr} {A' : Around} {code : Value} {m0 : Str → Option Value} {h5 : Heap} {g5 : Array GenState} {t5 : Nat} {a : Addr} {go : Obj}
    (I : Inv X pins σ H s) (ok : BlkOk X.N X.env.scope scope own) (gk : GnOk scope) (hN : X.N.Nodup) (hfp : ∀ b ∈ fp, FpOk X pins H b ∧ b < s.heap.objs.size)
    (hA : A'.handled = none) (hF : A'.frames = some (genEnv scope (cloFrom X.env.cells scope.names []) s.heap.objs.size code builtinsNs X.env :: X.stack))
    (kp : ∀ b o, s.heap.get? b = some o → h5.get? b = some o) (hn : h5.Ns s.heap.objs.size m0) (hm0 : ∀ x, x ≠ (".0" : Str) → m0 x = none) (hdN : (".0" : Str) ∉ X.N) (hb5 : AllBare g5)
    (ha : s.heap.objs.size < a) (hgo : h5.get? a = some go) (hgd : ∀ v, go.data ≠ .cell v) :
    Inv (gX X s H A' (genEnv scope (cloFrom X.env.cells scope.names []) s.heap.objs.size code builtinsNs X.env) fp) [(a, go)] (wipe σ (own.map (·.2))) H { s with heap := h5, gens := g5, toks := t5 } := by
  have hfree : ∀ y ∈ scope.names, y.2 = .free → ∃ c, X.env.cells.lookup y.1 = some c := fun y hy e =>
    (ok.free y hy e).elim (fun k => I.ok.has _ (.inl k)) fun k => I.ok.has _ (.inr k)
  have cm : ∀ {y c}, (y, c) ∈ cloFrom X.env.cells scope.names [] → X.env.cells.lookup y = some c ∧ c < s.heap.objs.size := fun {y c} q => by
    rcases cloFrom_mem q with q | ⟨h1, e1⟩
    · cases q
    · obtain ⟨c1, hc1⟩ := hfree _ h1 rfl
      rw [hc1] at e1
      cases e1
      obtain ⟨w1, z1⟩ := I.cell _ _ hc1
      exact ⟨hc1, z1.lt⟩
  have cl : ∀ {y c}, (cloFrom X.env.cells scope.names []).lookup y = some c → X.env.cells.lookup y = some c ∧ c < s.heap.objs.size := fun {y c} e => cm (PySem.mem_of_lookup e)
  have look : ∀ {y}, scope.names.lookup y = some .free → ∃ c, (cloFrom X.env.cells scope.names []).lookup y = some c := fun {y} e =>
    mem_lookup (cloFrom_has (cells := X.env.cells) (acc := []) (PySem.mem_of_lookup e))
  generalize hce : genEnv scope (cloFrom X.env.cells scope.names []) s.heap.objs.size code builtinsNs X.env = ce at hF
  have cL : ce.locals = s.heap.objs.size := by rw [← hce]; rfl
  have cC : ce.cells = cloFrom X.env.cells scope.names [] := by rw [← hce]; rfl
  have cS : ce.scope = scope := by rw [← hce]; rfl
  have cF : ce.frame = some ce.locals := by rw [← hce]; rfl
  have okG : (gX X s H A' ce fp).Ok := by
    refine ⟨I.ok.mod, ?_, ?_, ?_, ?_, fun y z c e1 e2 => ?_, fun y hy => ?_, fun y c z e => ?_, fun _ => hA, hF, .inr ⟨rfl, cF⟩, fun b hb => ⟨?_, fun y c e z => ?_⟩, I.bs, Nat.le_trans I.ok.bsz I.sz, fun b o e hb => ?_, fun b hb z => ?_, I.stack, I.stkFree⟩
    · show ce.scope.kind = _
      rw [cS]
      exact ok.kind
    · show ce.globals = _
      rw [← hce]
      exact I.ok.glob
    · show ce.builtins = _
      rw [← hce]
      rfl
    · show s.heap.objs.size ≤ ce.locals
      rw [cL]
      exact Nat.le_refl _
    · have e1 : ce.cells.lookup y = some c := e1
      have e2 : ce.cells.lookup z = some c := e2
      rw [cC] at e1 e2
      exact I.ok.inj y z c (cl e1).1 (cl e2).1
    · show ∃ c, ce.cells.lookup y = some c
      rw [cC]
      have hy : scope.names.lookup y = some .cell ∨ scope.names.lookup y = some .free := by
        have hy' : ce.scope.names.lookup y = some .cell ∨ ce.scope.names.lookup y = some .free := hy
        rw [cS] at hy'
        exact hy'
      rcases hy with k | k
      · exact absurd rfl (gk.nocell _ (PySem.mem_of_lookup k))
      · exact look k
    · exact absurd (show false = true from z) Bool.false_ne_true
    · show b ≠ ce.locals
      rw [cL]
      exact Nat.ne_of_lt (hfp b hb).2
    · have e : ce.cells.lookup y = some c := e
      rw [cC] at e
      exact (hfp b hb).1.2.2.2.2.1 y c (cl e).1 z
    · rcases (hfp b hb).1.2.2.2.1 with q | q
      · exact I.ok.noex b o e q
      · exact absurd (Nat.lt_of_lt_of_le (Heap.lt_size e) (Nat.le_trans I.ok.bsz q)) (Nat.lt_irrefl _)
    · rcases List.mem_cons.mp (I.stkSub b z) with q | q
      · exact (hfp b hb).1.2.1 q
      · exact (hfp b hb).1.2.2.1 q
  refine ⟨okG, rfl, hb5, Un.kept kp, ⟨m0, ?_, fun i y av e1 e2 e3 => ?_⟩, fun y c e => ?_, ?_, fun y c e => ?_, fun p hp => ?_, I.hok.kept kp, by rw [wipe_length]; exact I.len⟩
  · show Heap.Ns _ ce.locals _
    rw [cL]
    exact hn
  · obtain ⟨e2, hne⟩ := wipe_some e2
    have e3 : Vis ce.scope y := e3
    rw [cS] at e3
    have hfr : scope.names.lookup y = some .free := by
      have no : ∀ k, scope.names.lookup y = some k → ¬ (k = .local ∨ k = .cell) := fun k hk hh => by
        rcases ok.own _ (PySem.mem_of_lookup hk) hh with q | q
        · obtain ⟨p, hp, hpy⟩ := List.mem_map.mp q
          have e4 := ok.ix p hp
          have hpy : p.1 = y := hpy
          rw [hpy] at e4
          exact hne (List.mem_map.mpr ⟨p, hp, nodup_ix hN e4 e1⟩)
        · exact q (List.mem_of_getElem? e1)
      rcases e3 with e3 | e3 | e3
      · exact absurd (.inl rfl) (no _ e3)
      · exact absurd (.inr rfl) (no _ e3)
      · exact e3
    obtain ⟨m, _, hl⟩ := I.loc
    have hvis : Vis X.env.scope y := (ok.free _ (PySem.mem_of_lookup hfr) rfl).elim (fun k => .inr (.inl k)) fun k => .inr (.inr k)
    obtain ⟨w1, r1, q1⟩ := hl i y av e1 e2 hvis
    obtain ⟨c, hc⟩ := look hfr
    refine ⟨w1, r1, .inr ⟨.inr (by show ce.scope.names.lookup y = _; rw [cS]; exact hfr), c, by show ce.cells.lookup y = _; rw [cC]; exact hc, ?_⟩⟩
    rcases q1 with ⟨k, _⟩ | ⟨_, c', e', z⟩
    · have k : X.env.scope.names.lookup y = some .local := k
      rcases ok.free _ (PySem.mem_of_lookup hfr) rfl with k' | k' <;> (have k' : X.env.scope.names.lookup y = _ := k'; rw [k'] at k; cases k)
    · rw [(cl hc).1] at e'
      cases e'
      exact z.keeps kp
  · have e : ce.cells.lookup y = some c := e
    rw [cC] at e
    obtain ⟨w1, z1⟩ := I.cell y c (cl e).1
    exact ⟨w1, z1.keeps kp⟩
  · show H ce.locals = none
    rw [cL]
    exact I.hok.fresh (Nat.le_refl _)
  · have e : ce.cells.lookup y = some c := e
    rw [cC] at e
    exact I.freeC y c (cl e).1
  · have hp : p = (a, go) := by simpa using hp
    subst hp
    refine ⟨hgo, I.hok.fresh (Nat.le_of_lt ha), ?_, fun z => ?_, hgd⟩
    · show a ≠ ce.locals
      rw [cL]
      exact Nat.ne_of_gt ha
    · have z : a ∈ frs X.stack := z
      obtain ⟨_, o, ho, _⟩ := I.stack.mem z
      exact absurd (Nat.lt_trans (Heap.lt_size ho) ha) (Nat.lt_irrefl _)
end
/-! ### all(..), any(..) of a generator, told by what each turn does -/
/-- between a yield and the next turn -/
structure Rs (s s' : Shared) : Prop where
  heap : s'.heap = s.heap
  os : s'.os = s.os
  bare : AllBare s'.gens
  size : s.gens.size ≤ s'.gens.size
theorem inv_gens {X : Cx} {pins : List (Addr × Obj)} {σ : L2.St} {H : Hp} {s s' : Shared} (I : Inv X pins σ H s) (h1 : s'.heap = s.heap) (h2 : s'.os = s.os) (h3 : AllBare s'.gens) : Inv X pins σ H s' := by
  obtain ⟨hh, g, d, t, o⟩ := s'
  have e1 : hh = s.heap := h1
  have e2 : o = s.os := h2
  subst e1 e2
  exact ⟨I.ok, I.os, h3, I.base, I.loc, I.cell, I.free, I.freeC, I.pin, I.hok, I.len⟩
theorem Rs.inv {X : Cx} {pins : List (Addr × Obj)} {σ : L2.St} {H : Hp} {s s' : Shared} (r : Rs s s') (I : Inv X pins σ H s) : Inv X pins σ H s' := by
  obtain ⟨h1, h2, h3, _⟩ := r
  obtain ⟨hh, g, d, t, o⟩ := s'
  have e1 : hh = s.heap := h1
  have e2 : o = s.os := h2
  subst e1 e2
  exact ⟨I.ok, I.os, h3, I.base, I.loc, I.cell, I.free, I.freeC, I.pin, I.hok, I.len⟩
theorem bare_set {gens : Array GenState} (h : AllBare gens) {g : Nat} {x : GenState} (hx : x.bare = true) : AllBare (gens.setIfInBounds g x) := fun y hy => by
  obtain ⟨i, hi, rfl⟩ := Array.mem_iff_getElem.mp hy
  rw [Array.size_setIfInBounds] at hi
  rw [Array.getElem_setIfInBounds hi]
  split
  · exact hx
  · exact h _ (Array.getElem_mem hi)
theorem Rs.set {s : Shared} (hb : AllBare s.gens) {g : Nat} {x : GenState} (hx : x.bare = true) : Rs s (s.setGen g x) :=
  ⟨rfl, rfl, bare_set hb hx, Nat.le_of_eq (GenW.setGen_size s g x).symm⟩
theorem Rs.trans {s s1 s2 : Shared} (a : Rs s s1) (b : Rs s1 s2) : Rs s s2 := ⟨b.heap.trans a.heap, b.os.trans a.os, b.bare, Nat.le_trans a.size b.size⟩
/-- the protocol of a generator whose items are truths: T b: what holds where b comes out -/
def gY (gi : Nat) (a : Addr) (stop : Bool) (Fin : Shared → Prop) : Protocol := fun n s₀ v s kap =>
  ∃ b, v = .bool b ∧ s.heap.IsGen a gi ∧ s.heap.NoLimit ∧ AllBare s.gens ∧ gi < s.gens.size ∧ (b = stop → Fin s) ∧ (b ≠ stop → ∀ s', Rs s s' → kap (.send .none) s')
def gR (End : Shared → Prop) : Nat → Shared → Shared → Prop := fun _ _ s => AllBare s.gens ∧ End s
/-- the generator waits -/
def Waits (prog : Program) (w : World) (A : Around) (gi : Nat) (a : Addr) (stop : Bool) (End Fin : Shared → Prop) (n : Nat) (s : Shared) : Prop :=
  s.heap.IsGen a gi ∧ s.heap.NoLimit ∧ AllBare s.gens ∧ ∃ gs, s.gens[gi]? = some gs ∧
    ∀ s', Rs s s' → gs.Goes (model prog w) A.in1 (fun n s₀ r s₁ => r = .ok .next ∧ gR End n s₀ s₁) (gY gi a stop Fin) n (.send .none) s'
section
variable {prog : Program} {w : World} {A : Around} {gi : Nat} {a : Addr} {stop : Bool} {End Fin : Shared → Prop}
theorem waits_next {n : Nat} {s : Shared} {Q : Option Value → Shared → Prop} {E : Value → Shared → Prop} (hh : A.handled = none) (hroom : A.depth < recursionLimit)
    (hE : ∀ s s' : Shared, End s → s'.os = s.os → AllBare s'.gens → (∀ b o, s.heap.get? b = some o → s'.heap.get? b = some o) → End s')
    (hF : ∀ s s' : Shared, Fin s → s'.os = s.os → AllBare s'.gens → (∀ b o, s.heap.get? b = some o → s'.heap.get? b = some o) → Fin s')
    (W : Waits prog w A gi a stop End Fin n s) (hN : ∀ s', End s' → Q none s') (hS : ∀ s', Fin s' → Q (some (.bool stop)) s')
    (hG : ∀ s' m, m < n → Waits prog w A gi a stop End Fin m s' → Q (some (.bool (!stop))) s') : wpAny (model prog w) A (pyNext (.ref a)) Q E s := by
  obtain ⟨hg, hl, hb, gs, hgs, hgo⟩ := W
  refine wpAny_pyNext_genexpQ (P := gR End) (Y := gY gi a stop Fin) hh hl hroom hg hgs (hgo _ (Rs.set hb rfl)) (fun v s₁ gs' hb' hv => ?_) fun s₁ hp h' hk => ?_
  · obtain ⟨b, rfl, g1, l1, b1, z1, f1, k1⟩ := hv
    by_cases e : b = stop
    · subst e
      exact hS _ (hF _ _ (f1 rfl) rfl (bare_set b1 hb') fun _ _ q => q)
    · have eb : b = !stop := by cases b <;> cases stop <;> first | rfl | exact absurd rfl e
      subst eb
      cases n with
      | zero => exact False.elim (k1 e s₁ ⟨rfl, rfl, b1, Nat.le_refl _⟩)
      | succ m =>
        refine hG _ m (Nat.lt_succ_self m) ⟨g1, l1, bare_set b1 hb', gs', ?_, fun s' r => k1 e s' ((Rs.set b1 hb').trans r)⟩
        show (s₁.gens.setIfInBounds gi gs')[gi]? = some gs'
        rw [Array.getElem?_setIfInBounds_self_of_lt z1]
  · obtain ⟨b1, e1⟩ := hp
    exact hN _ (hE _ _ e1 rfl (bare_set b1 rfl) fun b o q => hk b o q)
end
section
variable {prog : Program} {w : World} {A : Around} {gi : Nat} {a : Addr} {End Fin : Shared → Prop}
theorem all_loop (hh : A.handled = none) (hroom : A.depth < recursionLimit)
    (hE : ∀ s s' : Shared, End s → s'.os = s.os → AllBare s'.gens → (∀ b o, s.heap.get? b = some o → s'.heap.get? b = some o) → End s')
    (hF : ∀ s s' : Shared, Fin s → s'.os = s.os → AllBare s'.gens → (∀ b o, s.heap.get? b = some o → s'.heap.get? b = some o) → Fin s') :
    ∀ (n : Nat) (s : Shared), Waits prog w A.in1 gi a false End Fin n s →
      codeAny (model prog w) A (.builtin "all.loop" ⟨[.ref a], []⟩) (fun r s' => (r = .ok (.ret (.bool true)) ∧ End s') ∨ (r = .ok (.ret (.bool false)) ∧ Fin s')) s := by
  intro n
  induction n using Nat.strongRecOn with
  | ind n ih =>
    intro s W
    refine codeAny_builtin PySem.F.entry_all_loop ?_
    rw [Around.under_plainId PySem.F.plain_all_loop]
    show wpAny (model prog w) A.in1 (pyNext (.ref a) >>= _) _ _ s
    refine wpAny_bind (waits_next (A := A.in1) hh hroom hE hF W (fun s' e => ?_) (fun s' e => ?_) fun s' m hm W' => ?_)
    · exact wpAny_bind (wpAny_rule (wpAny_pure (.inl ⟨rfl, e⟩)))
    · refine wpAny_bind (wpAny_holding (wpAny_truthy_bool ?_))
      refine wpAny_bind (wpAny_letGo ?_)
      exact wpAny_bind (wpAny_rule (wpAny_pure (.inr ⟨rfl, e⟩)))
    · refine wpAny_bind (wpAny_holding (wpAny_truthy_bool ?_))
      refine wpAny_bind (wpAny_letGo ?_)
      exact wpAny_pure ⟨plainId_quiet PySem.F.plain_all_loop _, ih m hm s' W'⟩
end
/-! ### all(elt for target in iter) -/
/-- the reading: W by the turn and a measure; P: the def's table, which may grow -/
def tAll (P : Addr) (wi : TI) (g : TG) (te : TE) (vs : List Nat) : TE := fun σ H Q => wi σ H fun J H1 => GxR.TabG H1 P ∧ ∃ W : Nat → Nat → Hp → Prop, (∀ H2, GxR.Tabbed P H1 H2 → ∃ m, W 0 m H2) ∧ ∀ i m H, W i m H →
  (J.stop i H ∧ Q (.bl true) H) ∨ (J.go i H ∧ ∃ Nx : Hp → Prop, (∀ H', Nx H' → ∃ m', m' < m ∧ W (i + 1) m' H') ∧ ∀ x H', J.yld i H x H' → g x (wipe σ vs) H' fun σ2 H2 => wipe σ2 vs = wipe σ vs ∧
    te σ2 H2 fun y H3 => ∃ b, y = .bl b ∧ if b = true then Nx H3 else Q (.bl false) H3)
section
variable {X : Cx}
theorem pe_all {k : Nat} {c P : Addr} {elt tg iter : Expr} {scope : Scope} {own : List (Str × Nat)} {p pos gpos : Pos} {wi : TI} {g : TG} {te : TE}
    (hr : Room (k + 1) X.A) (TB : GxR.TabB X.base X.mg c P) (hcode : X.env.code = .ref c) (hc : X.calm = true) (hN : X.N.Nodup) (hG : Gl X "all") (hM : X.mg "all" = none) (hi : PI X tg iter wi) (ok : BlkOk X.N X.env.scope scope own) (gk : GnOk scope) (hdN : (".0" : Str) ∉ X.N)
    (hg : ∀ (s : Shared) (H : Hp) (A' : Around) (C : Addr) (cl : List (Str × Addr)) (code : Value) (fp : List Addr), PG (gX X s H A' (genEnv scope cl C code builtinsNs X.env) fp) tg g)
    (he : ∀ (s : Shared) (H : Hp) (A' : Around) (C : Addr) (cl : List (Str × Addr)) (code : Value) (fp : List Addr), Room k A' → PE (gX X s H A' (genEnv scope cl C code builtinsNs X.env) fp) elt te)
    (hs : ∀ v, genFold iter X.env v = pure v := by intro _; rfl)
    (hst : starEach [.GeneratorExp elt [⟨tg, iter, [], 0⟩] scope gpos] X.env = (false, eval (.GeneratorExp elt [⟨tg, iter, [], 0⟩] scope gpos) X.env) :: starEach [] X.env := by rfl) :
    PE X (.Call (.Name "all" p) [.GeneratorExp elt [⟨tg, iter, [], 0⟩] scope gpos] [] pos) (tAll P wi g te (own.map (·.2))) := by
  refine ⟨fun pins s σ H Q I h => ?_⟩
  have hh : X.A.handled = none := hr.hd
  refine wpAny_Call_Name_kw (ld_blt I hG hM PyProof.Rows.boot_all ?_)
  refine PyProof.Rows.callWith_builtin1 ?_ hst (by rfl)
  rw [hst]
  show wpAny _ _ (spliced ((false, eval (.GeneratorExp elt [⟨tg, iter, [], 0⟩] scope gpos) X.env) :: backTo pos (starEach [] X.env))) _ _ s
  have hfree : ∀ y ∈ scope.names, y.2 = .free → ∃ c, X.env.cells.lookup y.1 = some c := fun y hy e =>
    (ok.free y hy e).elim (fun k => I.ok.has _ (.inl k)) fun k => I.ok.has _ (.inr k)
  refine Calls.spliced_cons (wpAny_GeneratorExp_make gk.co (closure_ok hfree) gk.nocell gk.dot ok.kind (by have := hr.dp; omega) (thn (hi.run pins s σ H _ I h) fun xv s1 hx => thn hx fun itv s2 h2 => ?_) hs)
  obtain ⟨it, fp, tn, J, H2, e, I2, T, st2, f2, ⟨ps, hP, ht⟩, W, w0, turn⟩ := h2
  subst e
  refine ⟨I2.nolimit, ?_⟩
  have hPs : s2.heap.get? P = some { cls := .none, data := .fields ps } := I2.hok P _ hP
  have cd : PySem.W.CodeHd s2.heap c P := TB.code.keeps fun b u e => I2.bk b u e
  have sz2 : ∀ b ∈ fp, b < s2.heap.objs.size := fun b hb => by
    obtain ⟨o, e, _⟩ := T.obj _ _ st2 b hb
    exact Heap.lt_size e
  have nfP : ∀ b ∈ fp, b ≠ P := fun b hb z => by
    have q := (f2 b hb).1
    rw [z, hP] at q
    cases q
  -- behind the table
  have cont : ∀ (code : Value) (h3 : Heap) (tk : Nat) (more : Array Value), s2.heap.objs.size ≤ h3.objs.size → (∀ b o, b ≠ P → s2.heap.get? b = some o → h3.get? b = some o) → h3.get? P = some { cls := .none, data := .fields (ps ++ more) } → TriplesOk (ps ++ more).toList →
      wpAny (model X.prog X.w) X.A (builtinsFor X.env.globals X.env.builtins) (fun bi s4 => ∀ h', h'.Ns s4.heap.objs.size (fun y => if y = ".0" then some (.ref it) else none) → Heap.SameBut s4.heap.objs.size (s4.heap.push { cls := .type "frame", data := .dict #[] }) h' →
        wpAny (model X.prog X.w) X.A (spliced (backTo pos (starEach [] X.env))) (fun vs s5 => wpAny (model X.prog X.w) X.A (call (.builtin "all") (.ref h'.objs.size :: vs)) (EP X pins σ Q) X.xe s5) X.xe { s4 with
            gens := s4.gens.push (.fresh (.compStart (.GeneratorExp elt [⟨tg, iter, [], 0⟩] scope gpos) 0 (.ref it) .none (genEnv scope (cloFrom X.env.cells scope.names []) s4.heap.objs.size code bi X.env))), toks := s4.toks + 1 + 1 + 1,
            heap := h'.push { cls := .type "generator", data := .fields #[.int s4.gens.size 0, .str "<genexpr>" (s4.toks + 1), .str (X.env.qual ++ "<genexpr>") (s4.toks + 1 + 1)] } }) X.xe { s2 with heap := h3, toks := tk } := by
    intro code h3 tk more hle3 hk3 hP3 ht3
    have I3 : Inv X pins σ (upd H2 P (.tbl (ps ++ more))) { s2 with heap := h3, gens := s2.gens, drawn := s2.drawn, toks := tk } := GxR.inv_tab I2 hP hk3 hP3 I2.bare
    have tab3 : GxR.Tabbed P H2 (upd H2 P (.tbl (ps ++ more))) := ⟨⟨_, upd_same, ht3⟩, fun b hb => upd_ne hb⟩
    have st3 : tn 0 h3 := T.keep _ _ _ st2 fun b hb o e => hk3 b o (nfP b hb) e
    have f3 : ∀ b ∈ fp, FpOk X pins (upd H2 P (.tbl (ps ++ more))) b := fun b hb => ⟨by rw [upd_ne (nfP b hb)]; exact (f2 b hb).1, (f2 b hb).2⟩
    generalize upd H2 P (.tbl (ps ++ more)) = H3 at I3 tab3 f3
    obtain ⟨m0, hw0⟩ := w0 H3 tab3
    have sz3 : ∀ b ∈ fp, b < h3.objs.size := fun b hb => Nat.lt_of_lt_of_le (sz2 b hb) hle3
    have hs3 : ({ s2 with heap := h3, gens := s2.gens, drawn := s2.drawn, toks := tk } : Shared) = { s2 with heap := h3, toks := tk } := rfl
    rw [hs3] at I3
    generalize hsh : ({ s2 with heap := h3, toks := tk } : Shared) = s3 at I3 ⊢
    have eh : h3 = s3.heap := by rw [← hsh]
    rw [eh] at st3 sz3
    clear hsh hs3 eh hP3 hk3 hle3
    obtain ⟨bm, ob, e1, e2, e3, e4, e5, e6, e7, e8⟩ := TB.bm
    refine wpAny_builtinsFor (m := X.mg) (by rw [I3.ok.glob]; exact I3.mod.glob.keeps I3.bk) e1 e2 (I3.bk _ _ e5) e6 e7 e8 ?_
    intro h' hn' hs'
    refine Calls.spliced_nil ?_
    have hsz : h'.objs.size = s3.heap.objs.size + 1 := by rw [hs'.1, Heap.size_push]
    generalize hgo : ({ cls := .type "generator", data := .fields #[.int s3.gens.size 0, .str "<genexpr>" (s3.toks + 1), .str (X.env.qual ++ "<genexpr>") (s3.toks + 1 + 1)] } : Obj) = go
    have kp5 : ∀ b o, s3.heap.get? b = some o → (h'.push go).get? b = some o := fun b o e => Heap.get?_push_of_some _ (hs'.extBut b o (Nat.ne_of_lt (Heap.lt_size e)) (Heap.get?_push_of_some _ e))
    generalize hce : genEnv scope (cloFrom X.env.cells scope.names []) s3.heap.objs.size code builtinsNs X.env = ce
    have hhA : (X.A.in1.in1.over (.compLoop (.GeneratorExp elt [⟨tg, iter, [], 0⟩] scope gpos) 0 (.ref it) .none ce) []).handled = none := hh
    have hFr : (X.A.in1.in1.over (.compLoop (.GeneratorExp elt [⟨tg, iter, [], 0⟩] scope gpos) 0 (.ref it) .none ce) []).frames = some (ce :: X.stack) := by
      show pushEnvs [ce] (pushEnvs [] X.A.frames) = _
      rw [I3.ok.frames]
      rfl
    have hRm : Room k (X.A.in1.in1.over (.compLoop (.GeneratorExp elt [⟨tg, iter, [], 0⟩] scope gpos) 0 (.ref it) .none ce) []) := by
      have z1 := hr.dp
      have z2 := hr.un
      refine ⟨hhA, ?_, ?_⟩
      · show X.A.depth + 0 + 1 + 3 * k + 5 < recursionLimit
        omega
      · show X.A.units + 1 + 1 + 0 + 3 + 16 * k + 200 < cLine
        omega
    generalize hAg : X.A.in1.in1.over (.compLoop (.GeneratorExp elt [⟨tg, iter, [], 0⟩] scope gpos) 0 (.ref it) .none ce) [] = Ag at hhA hFr hRm
    have I5 : Inv (gX X s3 H3 Ag ce fp) [(h'.objs.size, go)] (wipe σ (own.map (·.2))) H3 { s3 with heap := h'.push go, gens := s3.gens.push (.fresh (.compStart (.GeneratorExp elt [⟨tg, iter, [], 0⟩] scope gpos) 0 (.ref it) .none ce)), toks := s3.toks + 1 + 1 + 1 } := by
      have q := gen_start (code := code) (A' := Ag) (h5 := h'.push go) (g5 := s3.gens.push (.fresh (.compStart (.GeneratorExp elt [⟨tg, iter, [], 0⟩] scope gpos) 0 (.ref it) .none ce))) (t5 := s3.toks + 1 + 1 + 1) (go := go) I3 ok gk hN (fun b hb => ⟨f3 b hb, sz3 b hb⟩) hhA (by rw [hce]; exact hFr) kp5 (hn'.push _)
        (fun x hx => if_neg hx) hdN (I3.bare.push rfl) (a := h'.objs.size) (by omega) (Heap.get?_push_size _ (by rw [← hgo]; rfl)) (by rw [← hgo]; intro v z; cases z)
      rw [hce] at q
      exact q
    have st5 : tn 0 (h'.push go) := T.keep _ _ _ st3 fun b _ o e => kp5 b o e
    have nfp : ∀ b ∈ fp, H3 b = none := fun b hb => (f3 b hb).1
    have pg := hg s3 H3 Ag s3.heap.objs.size (cloFrom X.env.cells scope.names []) code fp
    have pe := he s3 H3 Ag s3.heap.objs.size (cloFrom X.env.cells scope.names []) code fp hRm
    rw [hce] at pg pe
    have cCo : ce.scope.isCoroutine = false := by rw [← hce]; exact gk.co
    clear hn' hs' kp5 w0 hce
    -- back in the def's context
    have back : ∀ {σ' : L2.St} {H' : Hp} {s' : Shared} {pl : List (Addr × Obj)}, Inv (gX X s3 H3 Ag ce fp) pl σ' H' s' → Inv X pins σ H' s' := fun {σ' H' s' pl} J => I3.call' (ch := fp) J.os J.base J.hok J.bare fun b hb =>
      ⟨(f3 b hb).2.2.2.1, (f3 b hb).2.1, (f3 b hb).2.2.2.2.1, (f3 b hb).2.2.2.2.2⟩
    have stat : ∀ {σ' : L2.St} {H' : Hp} {s' : Shared}, Inv (gX X s3 H3 Ag ce fp) [(h'.objs.size, go)] σ' H' s' → (∀ b ∈ fp, H' b = none) → ∀ b ∈ fp, FpOk (gX X s3 H3 Ag ce fp) [(h'.objs.size, go)] H' b := fun {σ' H' s'} J hn b hb =>
      ⟨hn b hb, (J.ok.exf b hb).1, J.ok.exfs b hb, .inl hb, fun x c e => (J.ok.exf b hb).2 x c e, fun p hp => by
        have hp : p = (h'.objs.size, go) := by simpa using hp
        rw [hp]
        exact Nat.ne_of_gt (Nat.lt_trans (sz3 b hb) (by rw [hsz]; exact Nat.lt_succ_self _))⟩
    have gen : ∀ {σ' : L2.St} {H' : Hp} {s' : Shared} {pl : List (Addr × Obj)}, Inv (gX X s3 H3 Ag ce fp) ([(h'.objs.size, go)] ++ pl) σ' H' s' → s'.heap.IsGen h'.objs.size s3.gens.size := fun {σ' H' s' pl} J => by
      have q := (J.pin (h'.objs.size, go) (by simp)).1
      exact ⟨go, _, _, q, by rw [← hgo], by rw [← hgo], by rw [← hgo]⟩
    -- the turns
    have loop : ∀ (m n i : Nat) (s₀ s : Shared) (H : Hp), m < n → W i m H → Inv (gX X s3 H3 Ag ce fp) [(h'.objs.size, go)] (wipe σ (own.map (·.2))) H s → tn i s.heap → (∀ b ∈ fp, H b = none) → s3.gens.size + 1 ≤ s.gens.size →
        Seg (model X.prog X.w) X.A.in1.in1 (fun n s₀ r s₁ => r = .ok .next ∧ gR (fun s => ∃ H', Inv X pins σ H' s ∧ Q (.bl true) H') n s₀ s₁) (gY s3.gens.size h'.objs.size false fun s => ∃ H', Inv X pins σ H' s ∧ Q (.bl false) H') n s₀
          (.compLoop (.GeneratorExp elt [⟨tg, iter, [], 0⟩] scope gpos) 0 (.ref it) .none ce) ((model X.prog X.w).den (.compLoop (.GeneratorExp elt [⟨tg, iter, [], 0⟩] scope gpos) 0 (.ref it) .none ce)) [] s := by
      intro m
      induction m using Nat.strongRecOn with
      | ind m ih =>
        intro n i s₀ s H hmn w J st nf hz
        show Seg (model X.prog X.w) _ _ _ n s₀ _ ((compTurn (.GeneratorExp elt [⟨tg, iter, [], 0⟩] scope gpos) 0 (.ref it) .none ce).onRaise (leaving ce)) [] s
        rw [compTurn_gen]
        rw [Sem.onRaise_eq_wrap]
        refine seg_bind_wrap (wpAny_standAt (seg_bind_wrap ?_))
        rw [hAg]
        rcases turn i m H w with ⟨stp, qq⟩ | ⟨go', Nx, hNx, step⟩
        · refine thnF (T.done (gX X s3 H3 Ag ce fp) rfl rfl rfl hc i _ s _ H (fun _ _ => False) J (stat J nf) st stp) fun r s6 ⟨hr6, J6⟩ => ?_
          subst hr6
          exact seg_end (.ok .next) ⟨rfl, J6.bare, H, back J6, qq⟩
        · refine GenW.wpAny_gsz hz (thnF (T.item (gX X s3 H3 Ag ce fp) rfl rfl rfl hc i _ s _ H (fun _ _ => False) J (stat J nf) st go') fun r s6 ⟨u, hr6, h6⟩ hz6 => ?_)
          subst hr6
          refine seg_bind_wrap ?_
          rw [hAg]
          refine GenW.wpAny_gsz hz6 (thnF h6 fun _ s7 ⟨x, H7, J7, r7, y7, st7, n7⟩ hz7 => ?_)
          have J7' := J7.pinned (stat J7 n7) (T.obj _ _ st7)
          refine seg_bind_wrap ?_
          rw [hAg]
          refine GenW.wpAny_gsz hz7 (thnF (pg.run _ s7 _ H7 x u _ J7' r7 (step x H7 y7)) fun _ s8 ⟨σ8, H8, J8, hw8, q8⟩ hz8 => ?_)
          simp only [List.forIn_nil]
          refine seg_bind_wrap (wpAny_pure ?_)
          simp only [if_true]
          have hy : ∀ v, yieldOut ce v = yieldValue v := fun v => by simp only [yieldOut, cCo, Bool.false_eq_true, if_false]
          simp only [hy]
          rw [Sem.bind_eq_wrap', Sem.bind_eq_wrap']
          rw [Sem.wrap_wrap, Sem.wrap_wrap]
          refine seg_wrap ?_
          rw [hAg]
          refine GenW.wpAny_gsz hz8 (thnF (pe.run _ s8 σ8 H8 _ J8 q8) fun z s9 ⟨yv, H9, J9, r9, b, eb, qb⟩ hz9 => ?_)
          subst eb
          obtain rfl : z = Value.bool b := r9
          obtain ⟨n', rfl⟩ : ∃ n', n = n' + 1 := ⟨n - 1, by omega⟩
          refine seg_at (seg_yield rfl rfl rfl ⟨b, rfl, gen J9, J9.nolimit, J9.bare, hz9, fun e => ?_, fun e s' r => ?_⟩)
          · subst e
            exact ⟨H9, back J9, qb⟩
          · have e : b = true := by
              cases b with
              | true => rfl
              | false => exact absurd rfl e
            subst e
            rw [if_pos rfl] at qb
            obtain ⟨m', hm', w'⟩ := hNx H9 qb
            have pin' : ∀ b ∈ fp, ∀ o, s7.heap.get? b = some o → s9.heap.get? b = some o ∧ H9 b = none := fun b hb o e =>
              let z := J9.pin (b, o) (List.mem_append_right _ (List.mem_append_right _ (mem_pinsAt hb e)))
              ⟨z.1, z.2.1⟩
            have hl : (wipe σ (own.map (·.2))).length = σ8.length := by rw [← hw8, wipe_length]
            have K9 : Inv (gX X s3 H3 Ag ce fp) [(h'.objs.size, go)] (wipe σ (own.map (·.2))) H9 s9 := J9.unpinned.weak hl fun j v e => by
              rw [← hw8] at e
              exact (wipe_some e).1
            refine seg_again rfl (ih m' hm' n' (i + 1) s' s' H9 (by omega) w' (r.inv K9) ?_ (fun b hb => ?_) (Nat.le_trans hz9 r.size))
            · rw [r.heap]
              exact T.keep _ _ _ st7 fun b hb o e => (pin' b hb o e).1
            · obtain ⟨o, e, _⟩ := T.obj _ _ st7 b hb
              exact (pin' b hb o e).2
    have mono : ∀ (b : Bool) (s s' : Shared), (∃ H', Inv X pins σ H' s ∧ Q (.bl b) H') → s'.os = s.os → AllBare s'.gens → (∀ b o, s.heap.get? b = some o → s'.heap.get? b = some o) → ∃ H', Inv X pins σ H' s' ∧ Q (.bl b) H' := fun b s s' ⟨H', J, q⟩ h1 h2 h3 =>
      ⟨H', inv_gens (J.kept (t' := s'.toks) h3) rfl h1 h2, q⟩
    generalize hs5 : ({ s3 with heap := h'.push go, gens := s3.gens.push (.fresh (.compStart (.GeneratorExp elt [⟨tg, iter, [], 0⟩] scope gpos) 0 (.ref it) .none ce)), toks := s3.toks + 1 + 1 + 1 } : Shared) = s5 at I5
    have hg5 : s5.gens[s3.gens.size]? = some (.fresh (.compStart (.GeneratorExp elt [⟨tg, iter, [], 0⟩] scope gpos) 0 (.ref it) .none ce)) := by
      rw [← hs5]
      exact Array.getElem?_push_size ..
    have hz5 : s3.gens.size + 1 ≤ s5.gens.size := by
      rw [← hs5]
      exact Nat.le_of_eq (Array.size_push ..).symm
    have ht5 : tn 0 s5.heap := by rw [← hs5]; exact st5
    have wt : Waits X.prog X.w X.A.in1 s3.gens.size h'.objs.size false (fun s => ∃ H', Inv X pins σ H' s ∧ Q (.bl true) H') (fun s => ∃ H', Inv X pins σ H' s ∧ Q (.bl false) H') (m0 + 1) s5 := by
      refine ⟨gen (pl := []) I5, I5.nolimit, I5.bare, _, hg5, fun s' r => ⟨rfl, ?_⟩⟩
      have lp := loop m0 (m0 + 1) 0 s' s' H3 (Nat.lt_succ_self _) hw0 (r.inv I5) (by rw [r.heap]; exact ht5) nfp (Nat.le_trans hz5 r.size)
      show Seg (model X.prog X.w) _ _ _ _ s' _ ((compStart (.GeneratorExp elt [⟨tg, iter, [], 0⟩] scope gpos) 0 (.ref it) .none ce).onRaise (leaving ce)) [] s'
      unfold compStart
      rw [Sem.onRaise_eq_wrap]
      show Seg (model X.prog X.w) _ _ _ _ s' _ ((ask >>= _).wrap _ _ _ _) [] s'
      refine seg_bind_wrap (wpAny_askSetting ?_)
      have ts : tn 0 s'.heap := by rw [r.heap]; exact ht5
      split
      · exact seg_again rfl lp
      · first
          | exact seg_bind_wrap (wpAny_rule (seg_bind_wrap (wpAny_standAt (seg_bind_wrap (T.self _ 0 s' _ _ ts (seg_again rfl lp))))))
          | (refine seg_bind_wrap (wpAny_rule ?_); show Seg (model X.prog X.w) _ _ _ _ s' _ ((standAt iter.pos >>= _).wrap _ _ _ _) [] s'; exact seg_bind_wrap (wpAny_standAt (seg_bind_wrap (T.self _ 0 s' _ _ ts (seg_again rfl lp)))))
    refine call_function_tree PySem.F.kind_all PySem.F.plain_all PySem.F.entry_all (PySem.F.args_all1 _) ?_
    unfold Builtin.«all»
    refine wpAny_bind (m := oneArg "all" _) (wpAny_pure ?_)
    refine wpAny_bind (wpAny_pyIter_gen (gen (pl := []) I5) ?_)
    refine wpAny_pure ⟨plainId_quiet PySem.F.plain_all_loop _, codeAny_mono (all_loop hh hr.depth (mono true) (mono false) (m0 + 1) s5 wt) fun r s' hq => ?_⟩
    rcases hq with ⟨rfl, H', J, q⟩ | ⟨rfl, H', J, q⟩
    · exact ⟨.bl true, H', J, rfl, q⟩
    · exact ⟨.bl false, H', J, rfl, q⟩
  cases hf : codeAmong gpos ps.toList with
  | none =>
    refine wpAny_genexprCodeX hcode (cd.code hPs ht) (cd.tab hPs) hf fun c' h' tk hx hge hlt hco' _ htab' _ => ?_
    obtain ⟨o1, vs, f1, tf, fl, tg1, inF, tx, tt, op, _, _, _, _, _, _, _, _, _, htr, _⟩ := hco'
    exact cont _ h' tk _ (Nat.le_trans hge (Nat.le_of_lt hlt)) (fun b o hb e => hx b o hb e) htab'.2 htr
  | some cv =>
    refine wpAny_genexprCode_hit hcode (cd.code hPs ht) hf ?_
    have := cont cv s2.heap s2.toks #[] (Nat.le_refl _) (fun _ _ _ e => e) (by rw [hPs]; simp) (by simpa using ht)
    exact this
end
def topS (i : Nat) : Stmt := PySem.Challenge.pw_friendfoe_k11_what_is_a_ring.main.body.getD i (.Pass ⟨0, 0, 0, 0⟩)
abbrev s_is_whole : Stmt := topS 1
abbrev N_is_whole : List Str := ["thing"]
theorem sc_is_whole : FnScope N_is_whole ["thing"] (defScope s_is_whole) := ⟨rfl, rfl, rfl, by decide +kernel, rfl, by decide +kernel, by decide +kernel⟩
abbrev s_is_whole_below : Stmt := topS 2
abbrev N_is_whole_below : List Str := ["limit", "thing"]
theorem sc_is_whole_below : FnScope N_is_whole_below ["limit", "thing"] (defScope s_is_whole_below) := ⟨rfl, rfl, rfl, by decide +kernel, rfl, by decide +kernel, by decide +kernel⟩
abbrev s_is_tuple_of : Stmt := topS 3
abbrev N_is_tuple_of : List Str := ["length", "thing"]
theorem sc_is_tuple_of : FnScope N_is_tuple_of ["length", "thing"] (defScope s_is_tuple_of) := ⟨rfl, rfl, rfl, by decide +kernel, rfl, by decide +kernel, by decide +kernel⟩
abbrev s_are_unlike_below : Stmt := topS 5
abbrev N_are_unlike_below : List Str := ["limit", "thing", "number"]
theorem sc_are_unlike_below : FnScope N_are_unlike_below ["limit", "thing"] (defScope s_are_unlike_below) := ⟨rfl, rfl, rfl, by decide +kernel, rfl, by decide +kernel, by decide +kernel⟩
abbrev s_joins : Stmt := topS 6
abbrev N_joins : List Str := ["tie", "one", "other"]
theorem sc_joins : FnScope N_joins ["tie", "one", "other"] (defScope s_joins) := ⟨rfl, rfl, rfl, by decide +kernel, rfl, by decide +kernel, by decide +kernel⟩
abbrev s_ring_holds : Stmt := topS 7
abbrev N_ring_holds : List Str := ["web", "thing", "places", "ties", "followers", "tie", "one", "other"]
theorem sc_ring_holds : FnScope N_ring_holds ["web", "thing"] (defScope s_ring_holds) := ⟨rfl, rfl, rfl, by decide +kernel, rfl, by decide +kernel, by decide +kernel⟩
abbrev s_l_deck : Stmt := topS 9
abbrev N_l_deck : List Str := ["_law_script", "_law_deck_here", "_law_k"]
theorem sc_l_deck : FnScope N_l_deck ["_law_script"] (defScope s_l_deck) := ⟨rfl, rfl, rfl, by decide +kernel, rfl, by decide +kernel, by decide +kernel⟩
abbrev s_l_draw : Stmt := topS 10
abbrev N_l_draw : List Str := ["_law_deck_here", "_law_most", "_law_cells", "_law_state", "_law_found", "_law_mixed"]
theorem sc_l_draw : FnScope N_l_draw ["_law_deck_here", "_law_most"] (defScope s_l_draw) := ⟨rfl, rfl, rfl, by decide +kernel, rfl, by decide +kernel, by decide +kernel⟩
abbrev s_l_ringed : Stmt := topS 11
abbrev N_l_ringed : List Str := ["_law_deck_here", "_law_size", "_law_many", "_law_left", "_law_places", "_law_k", "_law_rows", "_law_pair", "_law_one", "_law_other", "_law_kind", "_law_tie", "_law_ties", "_law_number", "_law_row"]
theorem sc_l_ringed : FnScope N_l_ringed ["_law_deck_here"] (defScope s_l_ringed) := ⟨rfl, rfl, rfl, by decide +kernel, rfl, by decide +kernel, by decide +kernel⟩
abbrev s_l_odd : Stmt := topS 12
abbrev N_l_odd : List Str := ["_law_deck_here", "_law_some"]
theorem sc_l_odd : FnScope N_l_odd ["_law_deck_here"] (defScope s_l_odd) := ⟨rfl, rfl, rfl, by decide +kernel, rfl, by decide +kernel, by decide +kernel⟩
abbrev s_l_same : Stmt := topS 13
abbrev N_l_same : List Str := ["_law_found", "_law_due"]
theorem sc_l_same : FnScope N_l_same ["_law_found", "_law_due"] (defScope s_l_same) := ⟨rfl, rfl, rfl, by decide +kernel, rfl, by decide +kernel, by decide +kernel⟩
abbrev s_l_numbers : Stmt := topS 14
abbrev N_l_numbers : List Str := ["_law_thing", "_law_many", "_law_at", "_law_one"]
theorem sc_l_numbers : FnScope N_l_numbers ["_law_thing", "_law_many"] (defScope s_l_numbers) := ⟨rfl, rfl, rfl, by decide +kernel, rfl, by decide +kernel, by decide +kernel⟩
abbrev s_l_is_ring : Stmt := topS 15
abbrev N_l_is_ring : List Str := ["_law_web", "_law_thing", "_law_places", "_law_ties", "_law_k"]
theorem sc_l_is_ring : FnScope N_l_is_ring ["_law_web", "_law_thing"] (defScope s_l_is_ring) := ⟨rfl, rfl, rfl, by decide +kernel, rfl, by decide +kernel, by decide +kernel⟩
abbrev s_l_begun : Stmt := topS 16
abbrev N_l_begun : List Str := ["_law_deck_here", "_law_ring", "_law_places", "_law_ties", "_law_at"]
theorem sc_l_begun : FnScope N_l_begun ["_law_deck_here", "_law_ring"] (defScope s_l_begun) := ⟨rfl, rfl, rfl, by decide +kernel, rfl, by decide +kernel, by decide +kernel⟩
abbrev s_l_row_spoilt : Stmt := topS 17
abbrev N_l_row_spoilt : List Str := ["_law_deck_here", "_law_row", "_law_many", "_law_at", "_law_way"]
theorem sc_l_row_spoilt : FnScope N_l_row_spoilt ["_law_deck_here", "_law_row", "_law_many"] (defScope s_l_row_spoilt) := ⟨rfl, rfl, rfl, by decide +kernel, rfl, by decide +kernel, by decide +kernel⟩
abbrev s_l_spoilt : Stmt := topS 18
abbrev N_l_spoilt : List Str := ["_law_deck_here", "_law_web", "_law_ring", "_law_places", "_law_ties", "_law_way", "_law_at", "_law_here", "_law_some", "_law_k"]
theorem sc_l_spoilt : FnScope N_l_spoilt ["_law_deck_here", "_law_web", "_law_ring"] (defScope s_l_spoilt) := ⟨rfl, rfl, rfl, by decide +kernel, rfl, by decide +kernel, by decide +kernel⟩
abbrev s_l_right : Stmt := topS 19
abbrev N_l_right : List Str := ["_law_web", "_law_thing", "_law_kept", "_law_due"]
theorem sc_l_right : FnScope N_l_right ["_law_web", "_law_thing"] (defScope s_l_right) := ⟨rfl, rfl, rfl, by decide +kernel, rfl, by decide +kernel, by decide +kernel⟩
abbrev s_law : Stmt := topS 20
abbrev N_law : List Str := ["_law_script", "_law_deck_here", "_law_turn", "_law_web", "_law_ring", "_law_begun_here", "_law_k"]
theorem sc_law : FnScope N_law ["_law_script"] (defScope s_law) := ⟨rfl, rfl, rfl, by decide +kernel, rfl, by decide +kernel, by decide +kernel⟩
/-! ### own rules: a list against [] -/
section
variable {X : Cx}
def rEqE (K : PySem.W.Frag) : R2 := fun x y H Q => ∃ (a b : Addr) (xs : List V), x = .ref a ∧ y = .ref b ∧ SqL K H a xs ∧ SqL K H b [] ∧ Q (.bl xs.isEmpty) H
def rNeE (K : PySem.W.Frag) : R2 := fun x y H Q => ∃ (a b : Addr) (xs : List V), x = .ref a ∧ y = .ref b ∧ SqL K H a xs ∧ SqL K H b [] ∧ Q (.bl (!xs.isEmpty)) H
theorem op_eqE (hu : X.A.units < cLine) : OpR X (compareOp .Eq) (rEqE X.K) := by
  intro pins s σ H x y v u Q I rx ry h
  obtain ⟨a, b, xs, rfl, rfl, ha, hb, q⟩ := h
  obtain rfl : v = Value.ref a := rx
  obtain rfl : u = Value.ref b := ry
  obtain ⟨its, r1, p1, _⟩ := I.list ha
  obtain ⟨its2, r2, p2, _⟩ := I.list hb
  cases r2
  cases xs with
  | nil =>
    cases r1
    exact SeqAt.eq_listAt (e := fun _ => true) p1.isList p2.isList rfl hu (fun j h1 _ => absurd h1 (by simp)) ⟨.bl true, H, I, rfl, q⟩
  | cons z zs =>
    cases r1 with
    | cons r t => exact SeqAt.eq_list_lengthsAt p1.isList p2.isList (by simp) hu ⟨.bl false, H, I, rfl, q⟩
theorem op_neE (hu : X.A.units < cLine) : OpR X (compareOp .NotEq) (rNeE X.K) := by
  intro pins s σ H x y v u Q I rx ry h
  obtain ⟨a, b, xs, rfl, rfl, ha, hb, q⟩ := h
  obtain rfl : v = Value.ref a := rx
  obtain rfl : u = Value.ref b := ry
  obtain ⟨its, r1, p1, _⟩ := I.list ha
  obtain ⟨its2, r2, p2, _⟩ := I.list hb
  cases r2
  cases xs with
  | nil =>
    cases r1
    exact SeqAt.RcNeAt.lists (e := fun _ => true) p1.isList p2.isList rfl hu (fun j h1 _ => absurd h1 (by simp)) _ _ _ _ ⟨.bl false, H, I, rfl, q⟩
  | cons z zs =>
    cases r1 with
    | cons r t => exact SeqAt.RcNeAt.lists_lengths p1.isList p2.isList (by simp) hu _ _ _ _ ⟨.bl true, H, I, rfl, q⟩
end
section
variable {P : Program} {w : World} {K : PySem.W.Frag} {mg : Str → Option Value} {base : Heap}
theorem at0 {α : Type} (x : α) (xs : List α) : atI (x :: xs) 0 = some x := atI_nat (j := 0) rfl
theorem ix0 (n : Nat) : ixN (n + 1) 0 = some 0 := by
  unfold ixN
  rw [if_pos (by decide), if_pos (by omega)]
  rfl
/-! ### a draw -/
theorem ok_l_draw {f : Addr} {fd : FuncData} (F : Fun K "_law_draw" "_law_draw" s_l_draw f fd) : FnOk P w K mg base CX0 1 f fd ["_law_deck_here", "_law_most"] spDraw := by
  refine F.ok sc_l_draw (fun vs H Q E h => ?_) (fun cdv A outer s H vs Q E hr h => ?_)
  · obtain ⟨d, c, m, rfl, _⟩ := h
    rfl
  · obtain ⟨d, c, m, rfl, hD, hm, hb, q⟩ := h
    have ndc := hD.ne
    obtain ⟨cells, st, n, hd, hc, hl⟩ := hD
    refine ⟨_, (pss_cons (ps_asg (pv 0) (pg_unl rfl (pgs_cons (pg_name (i := 2) sc_l_draw.nd rfl (.inl rfl)) (pgs_cons (pg_name (i := 3) sc_l_draw.nd rfl (.inl rfl)) pgs_nil))))
      (Evl.pss_cut (ps_if (PW.pt (pw_and (pt_cmpR (op_neE hr.units0) (pv 2) (pe_lst pa_nil) (nomark _)) (pw_and1 (pt_cmpR op_ge (pe_ix ix_list (pv 2) pe_int (fun _ _ => rfl)) (pe_op op_pow pe_int pe_int) (nomark _)))))
        (pss_cons (ps_set (i := 4) sc_l_draw.nd rfl (.inl rfl) (pe_op op_mod (pe_ix ix_list (pv 2) pe_int (fun _ _ => rfl)) (pv 1)))
        (pss_cons (ps_asg (pe_op op_fdivW (pe_ix ix_list (pv 2) pe_int (fun _ _ => rfl)) (pv 1)) (pg_sub (pv 2) pe_int set_list))
        (pss_one (ps_ret (pv 4)))))
        pss_nil)
      (Evl.pss_cut (ps_if (pt_cmpR (op_neE hr.units0) (pv 2) (pe_lst pa_nil) (nomark _))
        (pss_one (ps_set (i := 3) sc_l_draw.nd rfl (.inl rfl) (pe_op op_mod (pe_op op_add (pv 3) (pe_bm PySem.F.plainAttrs_list PySem.F.slot_list_pop PySem.F.type_list_pop mt_popAt (pv 2) (pa_cons pe_int pa_nil))) pe_int)))
        pss_nil)
      (Evl.pss_cut (ps_asg (pe_op op_mod (pe_op op_add (pe_op op_mul (pv 3) pe_int) pe_int) pe_int) (pg_sub (pv 0) pe_int set_list))
      (Evl.pss_cut (ps_set (i := 5) sc_l_draw.nd rfl (.inl rfl) (pe_op op_mod (pe_op op_add (pe_op op_add (pe_op op_mul (pe_ix ix_list (pv 0) pe_int (fun _ _ => rfl)) (pe_ix ix_list (pv 0) pe_int (fun _ _ => rfl))) (pe_op op_mul pe_int (pe_ix ix_list (pv 0) pe_int (fun _ _ => rfl)))) pe_int) pe_int))
      (pss_one (ps_ret (pe_op op_mod (pe_op op_fdiv (pe_op op_mod (pe_op op_mul (pv 5) pe_int) pe_int) pe_int) (pv 1))))))))), ?_⟩
    refine ⟨.ref d, rfl, d, _, rfl, SqL.of hd, rfl, _, _, rfl, _, _, rfl, rfl, ?_⟩
    -- a great cell, by its digits
    refine ⟨fun σ' H3 => σ' = [some (.ref d), some (.int m), some (.ref c), some (.int st), none, none] ∧ H3 d = some (.lst [.ref c, .int st]) ∧ H3 c = some (.lst (cells.map V.int)) ∧ Kp d c H H3, ?_, ?_⟩
    · refine ⟨.ref c, rfl, Nat.zero_le _, fun p np => ?_⟩
      have hd2 := same_new (o := .lst []) np _ _ hd
      have hc2 := same_new (o := .lst []) np _ _ hc
      have k2 : Kp d c H (upd H p (.lst [])) := Kp.new np
      refine ⟨c, p, _, rfl, rfl, SqL.of hc2, SqL.of upd_same, _, rfl, ?_⟩
      generalize upd H p (.lst []) = H2 at hd2 hc2 k2
      cases hcs : cells with
      | nil =>
        subst hcs
        exact ⟨rfl, hd2, hc2, k2⟩
      | cons x xs =>
        subst hcs
        refine ⟨.ref c, rfl, c, _, 0, .int x, rfl, rfl, SqL.of hc2, at0 _ _, 10, 18, rfl, rfl, ⟨by decide, by decide, by decide⟩, x, _, rfl, rfl, _, rfl, ?_⟩
        refine ite2 (fun _ => ?_) (fun _ => ?_)
        · refine ⟨.ref c, rfl, c, _, 0, .int x, rfl, rfl, SqL.of hc2, at0 _ _, .int m, rfl, x, m, rfl, rfl, hm, ?_⟩
          refine ⟨.ref c, rfl, c, _, 0, .int x, rfl, rfl, SqL.of hc2, at0 _ _, .int m, rfl, x, m, rfl, rfl, wide_div hm hb (by decide) (by decide), .ref c, rfl, c, _, 0, 0, rfl, rfl, hc2, ix0 _, ?_⟩
          refine ⟨.int (x % m), rfl, q _ _ (mod_rng hm).1 (mod_rng hm).2 ⟨(x / m) :: xs, st, 0, ?_, ?_, ?_⟩ (k2.trans Kp.at_c)⟩
          · rw [upd_ne ndc]
            exact hd2
          · rw [upd_same]
            rfl
          · simpa using hl
        · exact ⟨rfl, hd2, hc2, k2⟩
    clear hd hc
    rintro σ' H2 ⟨rfl, hd, hc, k2⟩
    -- the state
    refine ⟨fun σ' H3 => ∃ x : Int, σ' = [some (.ref d), some (.int m), some (.ref c), some (.int x), none, none] ∧ H3 d = some (.lst [.ref c, .int st]) ∧ (∃ cs : List Int, H3 c = some (.lst (cs.map V.int)) ∧ cs.length ≤ 63) ∧ Kp d c H H3, ?_, ?_⟩
    · refine ⟨.ref c, rfl, Nat.zero_le _, fun p np => ?_⟩
      have hd2 := same_new (o := .lst []) np _ _ hd
      have hc2 := same_new (o := .lst []) np _ _ hc
      have k3 : Kp d c H (upd H2 p (.lst [])) := k2.trans (Kp.new np)
      refine ⟨c, p, _, rfl, rfl, SqL.of hc2, SqL.of upd_same, _, rfl, ?_⟩
      generalize upd H2 p (.lst []) = H3 at hd2 hc2 k3
      cases hcs : cells with
      | nil =>
        subst hcs
        exact ⟨st, rfl, hd2, ⟨[], hc2, by simp⟩, k3⟩
      | cons x xs =>
        subst hcs
        refine ⟨.int st, rfl, .ref c, rfl, .inl ⟨rfl, _, SqL.of hc2⟩, c, _, 0, 0, .int x, rfl, rfl, hc2, by decide, by decide, seqIndex_of (by decide) (by simp), rfl, _, _, rfl, rfl, _, 2147483629, rfl, rfl, show (0 : Int) < 2147483629 by decide, ?_⟩
        refine ⟨_, rfl, ?_, ⟨xs, by rw [upd_same]; rfl, by simp at hl; omega⟩, k3.trans Kp.at_c⟩
        rw [upd_ne ndc]
        exact hd2
    rintro σ' H3 ⟨x, rfl, hd3, ⟨cs, hc3, hl3⟩, k3⟩
    refine ⟨fun σ' H4 => ∃ N : Int, σ' = [some (.ref d), some (.int m), some (.ref c), some (.int x), none, none] ∧ 0 ≤ N ∧ N < 2147483647 ∧ H4 d = some (.lst [.ref c, .int N]) ∧ H4 c = some (.lst (cs.map V.int)) ∧ Kp d c H H4, ?_, ?_⟩
    · refine ⟨.int x, rfl, x, 48271, rfl, rfl, .inr ⟨by decide, by decide⟩, _, 69621, rfl, rfl, _, 2147483647, rfl, rfl, show (0 : Int) < 2147483647 by decide, .ref d, rfl, d, _, 1, 1, rfl, rfl, hd3, rfl, ?_⟩
      refine ⟨(x * 48271 + 69621) % 2147483647, rfl, (mod_rng (by decide)).1, (mod_rng (by decide)).2, ?_, ?_, k3.trans Kp.at_d⟩
      · rw [upd_same]
        rfl
      · rw [upd_ne (Ne.symm ndc)]
        exact hc3
    rintro σ' H4 ⟨N, rfl, hN0, hN1, hd4, hc4, k4⟩
    refine ⟨fun σ' H5 => ∃ M : Int, σ' = [some (.ref d), some (.int m), some (.ref c), some (.int x), none, some (.int M)] ∧ 0 ≤ M ∧ M < 2147483629 ∧ H5 = H4, ?_, ?_⟩
    · exact ⟨.ref d, rfl, d, _, 1, .int N, rfl, rfl, SqL.of hd4, rfl, .ref d, rfl, d, _, 1, .int N, rfl, rfl, SqL.of hd4, rfl, N, N, rfl, rfl, .inl ⟨by omega, by omega⟩, .ref d, rfl, d, _, 1, .int N, rfl, rfl, SqL.of hd4, rfl, 16807, N, rfl, rfl, .inl ⟨by decide, by decide⟩, _, _, rfl, rfl, _, 7, rfl, rfl, _, 2147483629, rfl, rfl, show (0 : Int) < 2147483629 by decide, _, rfl, (mod_rng (by decide)).1, (mod_rng (by decide)).2, rfl⟩
    rintro σ' H5 ⟨M, rfl, hM0, hM1, rfl⟩
    refine ⟨.int M, rfl, M, 39373, rfl, rfl, .inr ⟨by decide, by decide⟩, _, 2147483563, rfl, rfl, show (0 : Int) < 2147483563 by decide, _, 8, rfl, rfl, ⟨by decide, by decide⟩, .int m, rfl, _, m, rfl, rfl, hm, ?_⟩
    exact q _ _ (mod_rng hm).1 (mod_rng hm).2 ⟨cs, N, 0, hd4, hc4, hl3⟩ k4
/-! ### the deck is laid -/
theorem cutV_ints (ns : List Int) (lo hi : Option Int) : ∃ ms : List Int, cutV (ns.map V.int) lo hi = ms.map V.int ∧ ms.length ≤ ns.length := by
  refine ⟨(ns.drop (HT.sIx ns.length 0 lo)).take (HT.sIx ns.length ns.length hi - HT.sIx ns.length 0 lo), ?_, ?_⟩
  · unfold cutV
    rw [List.length_map, List.map_take, List.map_drop]
  · rw [List.length_take, List.length_drop]
    omega
def spDeck (K : PySem.W.Frag) : Sp := fun vs H Q _ => ∃ (a : Addr) (ns : List Int), vs = [.ref a] ∧ SqL K H a (ns.map V.int) ∧ ns.length ≤ 63 ∧
  ∀ d c H', Same H H' → H d = none → H c = none → Deck H' d c → Q (.ref d) H'
theorem ok_l_deck {f : Addr} {fd : FuncData} (F : Fun K "_law_deck" "_law_deck" s_l_deck f fd) (M : Free mg) : FnOk P w K mg base CX0 1 f fd ["_law_script"] (spDeck K) := by
  refine F.ok sc_l_deck (fun vs H Q E h => ?_) (fun cdv A outer s H vs Q E hr h => ?_)
  · obtain ⟨a, ns, rfl, _⟩ := h
    rfl
  · obtain ⟨a, ns, rfl, hS, hl, q⟩ := h
    refine ⟨_, (pss_cons (ps_set (i := 1) sc_l_deck.nd rfl (.inl rfl) (pe_lst (pa_cons (pe_callTy call_list_of (by rfl) M.list (by decide +kernel) (pa_cons (pe_slice sl_list (pv 0) po_none (po_some pe_int)) pa_nil)) (pa_cons (pe_op op_add pe_int (pe_op op_mod (pe_callB (cr_sum rfl) (by rfl) M.sum (by decide +kernel) (pa_cons (pe_slice sl_list (pv 0) po_none (po_some pe_int)) pa_nil)) pe_int)) pa_nil))))
      (pss_cons (ps_for PassesOwn.never rfl (pi_range1 (by rfl) M.range (pa_cons pe_int pa_nil)) (pg_name (i := 2) sc_l_deck.nd rfl (.inl rfl))
        (pss_one (ps_asg (pe_op op_mod (pe_op op_add (pe_op op_mul (pe_ix ix_list (pv 1) pe_int (fun _ _ => rfl)) pe_int) pe_int) pe_int) (pg_sub (pv 1) pe_int set_list))))
      (pss_one (ps_ret (pv 1))))), ?_⟩
    obtain ⟨ms, em, lm⟩ := cutV_ints ns none (some 63)
    refine ⟨.ref a, rfl, 63, rfl, a, _, rfl, hS, fun p1 n1 => ⟨p1, _, rfl, .inl (SqL.of upd_same), fun p2 n2 => ?_⟩⟩
    rw [em] at n2 ⊢
    have s1 : Same H (upd H p1 (.lst (ms.map V.int))) := same_new n1
    have s2 := s1.trans (same_new (o := .lst (ms.map V.int)) n2)
    have h2 : (upd (upd H p1 (.lst (ms.map V.int))) p2 (.lst (ms.map V.int))) p2 = some (.lst (ms.map V.int)) := upd_same
    have f2 : H p2 = none := s1.free n2
    generalize upd (upd H p1 (.lst (ms.map V.int))) p2 (.lst (ms.map V.int)) = H2 at s2 h2
    refine ⟨.ref a, rfl, 63, rfl, a, _, rfl, s2.seq hS, fun p4 n4 => ⟨p4, ms, rfl, SqL.of (by rw [upd_same, em]), _, 2147483629, rfl, rfl, show (0 : Int) < 2147483629 by decide, 48271, _, rfl, rfl, (by show 2 ≤ sizeLine; decide), fun d nd => ?_⟩⟩
    have s4 := s2.trans (same_new (o := .lst (cutV (ns.map V.int) none (some 63))) n4)
    have h4 := same_new (o := .lst (cutV (ns.map V.int) none (some 63))) n4 _ _ h2
    have ndH : H d = none := s4.free nd
    have hp2d : p2 ≠ d := ne_of_none h4 nd
    refine ⟨2, rfl, by decide, by decide, ?_⟩
    refine for_range (lo := 0) (n := 2) (fun i σ' H' => ∃ (y2 : Option V) (st : Int), σ' = [some (.ref a), some (.ref d), y2] ∧ H' d = some (.lst [.ref p2, .int st]) ∧ H' p2 = some (.lst (ms.map V.int)) ∧ Same H H') ?_ ?_ ?_
    · exact ⟨none, _, rfl, upd_same, by rw [upd_ne hp2d]; exact h4, s4.trans (same_new nd)⟩
    · rintro i σ' H5 hi ⟨y2, st, rfl, hd5, h5, s5⟩
      refine ⟨.ref d, rfl, d, _, 1, .int st, rfl, rfl, SqL.of hd5, rfl, st, 48271, rfl, rfl, .inr ⟨by decide, by decide⟩, _, 69621, rfl, rfl, _, 2147483647, rfl, rfl, show (0 : Int) < 2147483647 by decide, .ref d, rfl, d, _, 1, 1, rfl, rfl, hd5, rfl, ?_⟩
      refine ⟨_, _, rfl, by rw [upd_same]; rfl, by rw [upd_ne hp2d]; exact h5, fun b o e => ?_⟩
      rw [upd_ne (ne_of_none e ndH)]
      exact s5 b o e
    · rintro σ' H5 ⟨y2, st, rfl, hd5, h5, s5⟩
      exact ⟨.ref d, rfl, q d p2 H5 s5 ndH f2 ⟨ms, st, 0, hd5, h5, by omega⟩⟩
/-! ### webs -/
structure Tie where
  one : Int
  other : Int
  foe : Bool
def kindS : Bool → Str
  | true => "foe"
  | false => "friend"
def TieV (H : Hp) (v : V) (t : Tie) : Prop := ∃ a, v = .ref a ∧ H a = some (.tup [.int t.one, .int t.other, .str (kindS t.foe)])
def TieOk (n : Int) (t : Tie) : Prop := 0 ≤ t.one ∧ t.one < n ∧ 0 ≤ t.other ∧ t.other < n ∧ t.one ≠ t.other
def WebAt (H : Hp) (v : V) (n : Int) (ts : List Tie) : Prop := ∃ a b vs, v = .ref a ∧ H a = some (.tup [.int n, .ref b]) ∧ H b = some (.tup vs) ∧ Paired (TieV H) vs ts
structure WebOk (n : Int) (ts : List Tie) : Prop where
  lo : 1 ≤ n
  hi : n ≤ 40
  few : ts.length ≤ 120
  ok : ∀ t ∈ ts, TieOk n t
/-- tuples stay -/
def Tk (H H' : Hp) : Prop := ∀ b xs, H b = some (.tup xs) → H' b = some (.tup xs)
theorem Tk.trans {H H1 H2 : Hp} (a : Tk H H1) (b : Tk H1 H2) : Tk H H2 := fun x xs h => b x xs (a x xs h)
theorem Same.tk {H H' : Hp} (s : Same H H') : Tk H H' := fun b xs h => s b _ h
theorem tk_lst {H : Hp} {l : Addr} {xs ys : List V} (h : H l = some (.lst xs)) : Tk H (upd H l (.lst ys)) := fun b zs e => by
  rw [upd_ne (ne_of e h (by intro z; cases z))]
  exact e
theorem TieV.tk {H H' : Hp} (k : Tk H H') {v : V} {t : Tie} (h : TieV H v t) : TieV H' v t := by
  obtain ⟨a, rfl, e⟩ := h
  exact ⟨a, rfl, k _ _ e⟩
theorem ties_tk {H H' : Hp} (k : Tk H H') {vs : List V} {ts : List Tie} (h : Paired (TieV H) vs ts) : Paired (TieV H') vs ts := Paired.mono (fun _ _ x => x.tk k) h
theorem WebAt.tk {H H' : Hp} (k : Tk H H') {v : V} {n : Int} {ts : List Tie} (h : WebAt H v n ts) : WebAt H' v n ts := by
  obtain ⟨a, b, vs, rfl, h1, h2, h3⟩ := h
  exact ⟨a, b, vs, rfl, k _ _ h1, k _ _ h2, ties_tk k h3⟩
theorem Kp.tk {d c : Addr} {H H' : Hp} (k : Kp d c H H') (D : Deck H d c) : Tk H H' := fun b xs e => by
  obtain ⟨cells, st, n, h1, h2, _⟩ := D
  exact k b _ (ne_of e h1 (by intro z; cases z)) (ne_of e h2 (by intro z; cases z)) e
theorem Kp.mut {d c l : Addr} {H H' : Hp} {o : HO} (k : Kp d c H H') (h : H l = none) : Kp d c H (upd H' l o) := fun b u h1 h2 e => by
  rw [upd_ne (ne_of_none e h)]
  exact k b u h1 h2 e
theorem Deck.mut {H : Hp} {d c l : Addr} {o : HO} (D : Deck H d c) (h1 : l ≠ d) (h2 : l ≠ c) : Deck (upd H l o) d c := by
  obtain ⟨cells, st, n, e1, e2, e3⟩ := D
  exact ⟨cells, st, n, by rw [upd_ne (Ne.symm h1)]; exact e1, by rw [upd_ne (Ne.symm h2)]; exact e2, e3⟩
theorem Deck.new {H : Hp} {d c l : Addr} {o : HO} (D : Deck H d c) (h : H l = none) : Deck (upd H l o) d c := D.same (same_new h)
theorem Deck.ned {H : Hp} {d c l : Addr} (D : Deck H d c) (h : H l = none) : l ≠ d ∧ l ≠ c := by
  obtain ⟨cells, st, n, e1, e2, e3⟩ := D
  exact ⟨(ne_of_none e1 h).symm, (ne_of_none e2 h).symm⟩
theorem Paired.at {α β : Type} {F : α → β → Prop} : ∀ {l : List α} {m : List β} {i : Nat} {a : α}, Paired F l m → l[i]? = some a → ∃ b, m[i]? = some b ∧ F a b
  | _, _, _, _, .nil, e => by simp at e
  | _, _, 0, _, .cons r _, e => by simp at e; subst e; exact ⟨_, rfl, r⟩
  | _, _, i + 1, a, .cons _ t, e => by
    obtain ⟨u, h1, h2⟩ := Paired.at (i := i) (a := a) t (by simpa using e)
    exact ⟨u, by simpa using h1, h2⟩
theorem Paired.at' {α β : Type} {F : α → β → Prop} : ∀ {l : List α} {m : List β} {i : Nat} {b : β}, Paired F l m → m[i]? = some b → ∃ a, l[i]? = some a ∧ F a b
  | _, _, _, _, .nil, e => by simp at e
  | _, _, 0, _, .cons r _, e => by simp at e; subst e; exact ⟨_, rfl, r⟩
  | _, _, i + 1, b, .cons _ t, e => by
    obtain ⟨u, h1, h2⟩ := Paired.at' (i := i) (b := b) t (by simpa using e)
    exact ⟨u, by simpa using h1, h2⟩
theorem getI {α : Type} {xs : List α} {i : Int} (h0 : 0 ≤ i) (h1 : i < (xs.length : Int)) : ∃ v, atI xs i = some v ∧ xs[i.toNat]? = some v := by
  obtain ⟨j, rfl⟩ : ∃ j : Nat, i = (j : Int) := ⟨i.toNat, by omega⟩
  have h2 : j < xs.length := by omega
  exact ⟨xs[j], atI_nat (List.getElem?_eq_getElem h2), by rw [Int.toNat_natCast]; exact List.getElem?_eq_getElem h2⟩
theorem other_ne {n a b : Int} (h0 : 0 ≤ a) (h1 : a < n) (g0 : 0 ≤ b) (g1 : b < n - 1) : a ≠ (a + 1 + b) % n := by
  by_cases h : a + 1 + b < n
  · rw [Int.emod_eq_of_lt (by omega) h]
    omega
  · have e : a + 1 + b = (a + 1 + b - n) + 1 * n := by omega
    rw [e, Int.add_mul_emod_self_right, Int.emod_eq_of_lt (by omega) (by omega)]
    omega
theorem pick2 {α : Type} (a b : α) (k : Bool) : atI [a, b] (if k then 1 else 0) = some (if k then b else a) := by
  cases k <;> rfl
def spWeb : Sp := fun vs H Q _ => ∃ (d c : Addr), vs = [.ref d] ∧ Deck H d c ∧
  ∀ v n ts H', WebAt H' v n ts → WebOk n ts → Deck H' d c → Kp d c H H' → Q v H'
end
/-! ### tuples cut and put together -/
section
variable {X : Cx}
theorem cutV_whole {xs : List V} {lo hi : Option Int} (h : HT.sIx xs.length 0 lo = 0 ∧ HT.sIx xs.length xs.length hi = xs.length) : cutV xs lo hi = xs := by
  unfold cutV
  rw [h.1, h.2]
  simp
def rSlU : V → Option Int → Option Int → Hp → VK → Prop := fun x lo hi H Q => ∃ a xs, x = .ref a ∧ H a = some (.tup xs) ∧ ∀ r H', Same H H' → H' r = some (.tup (cutV xs lo hi)) → Q (.ref r) H'
theorem sl_tupU : SlR X rSlU := by
  intro pins s σ H x v vl vu lo hi sl Q I rx hs pl pu h
  obtain ⟨a, xs, rfl, hx, q⟩ := h
  refine sl_tupA pins s σ H _ v vl vu lo hi sl Q I rx hs pl pu ⟨a, xs, rfl, SqT.of hx, fun hw => ?_, fun _ p np => ?_⟩
  · exact q a H (Same.refl H) (by rw [cutV_whole hw]; exact hx)
  · exact q p _ (same_new np) upd_same
def rCatU : R2 := fun x y H Q => ∃ a b xs ys, x = .ref a ∧ y = .ref b ∧ H a = some (.tup xs) ∧ H b = some (.tup ys) ∧ xs.length + ys.length ≤ 100000 ∧ ∀ r H', Same H H' → H' r = some (.tup (xs ++ ys)) → Q (.ref r) H'
theorem op_catU : OpR X (binaryOp .Add) rCatU := by
  intro pins s σ H x y v u Q I rx ry h
  obtain ⟨a, b, xs, ys, rfl, rfl, ha, hb, hz, q⟩ := h
  refine op_catA pins s σ H _ _ v u Q I rx ry ⟨a, b, xs, ys, rfl, rfl, SqT.of ha, SqT.of hb, Evl.sz_of hz, fun e => ?_, fun _ e => ?_, fun _ _ p np => ?_⟩
  · subst e
    exact q b H (Same.refl H) hb
  · subst e
    exact q a H (Same.refl H) (by rw [List.append_nil]; exact ha)
  · exact q p _ (same_new np) upd_same
end
/-! ### things of any kind -/
/-- its kind is known -/
def Kn (H : Hp) : V → Prop
  | .non => True
  | .bl _ => True
  | .int _ => True
  | .str _ => True
  | .ref a => (∃ xs, H a = some (.lst xs)) ∨ (∃ xs, H a = some (.tup xs)) ∨ ∃ kvs, H a = some (.dK kvs)
  | _ => False
def isI : V → Bool
  | .int _ => true
  | .bl _ => true
  | _ => false
def isB : V → Bool
  | .bl _ => true
  | _ => false
def isW : V → Bool
  | .int _ => true
  | _ => false
def isT (H : Hp) : V → Bool
  | .ref a => match H a with
    | some (.tup _) => true
    | _ => false
  | _ => false
section
variable {K : PySem.W.Frag} {H : Hp}
theorem kn_int {v : V} (h : Kn H v) : ∃ t, TyX K H v t ∧ PySem.W.kitOne K t (.type "int") = some (isI v) := by
  cases v with
  | non => exact ⟨_, .base .non, kit_ty (r := false) (by decide +kernel)⟩
  | bl b => exact ⟨_, .base (.bl b), kit_ty (r := true) (by decide +kernel)⟩
  | int i => exact ⟨_, .base (.int i), kit_ty (r := true) (by decide +kernel)⟩
  | str x => exact ⟨_, .base (.str x), kit_ty (r := false) (by decide +kernel)⟩
  | ref a =>
    rcases h with ⟨xs, h⟩ | ⟨xs, h⟩ | ⟨xs, h⟩
    · exact ⟨_, .base (.lst h), kit_ty (r := false) (by decide +kernel)⟩
    · exact ⟨_, .base (.tup h), kit_ty (r := false) (by decide +kernel)⟩
    · exact ⟨_, .base (.dK h), kit_ty (r := false) (by decide +kernel)⟩
  | byt b => exact h.elim
  | flt b => exact h.elim
  | ty n => exact h.elim
theorem kn_bool {v : V} (h : Kn H v) : ∃ t, TyX K H v t ∧ PySem.W.kitOne K t (.type "bool") = some (isB v) := by
  cases v with
  | non => exact ⟨_, .base .non, kit_ty (r := false) (by decide +kernel)⟩
  | bl b => exact ⟨_, .base (.bl b), kit_ty (r := true) (by decide +kernel)⟩
  | int i => exact ⟨_, .base (.int i), kit_ty (r := false) (by decide +kernel)⟩
  | str x => exact ⟨_, .base (.str x), kit_ty (r := false) (by decide +kernel)⟩
  | ref a =>
    rcases h with ⟨xs, h⟩ | ⟨xs, h⟩ | ⟨xs, h⟩
    · exact ⟨_, .base (.lst h), kit_ty (r := false) (by decide +kernel)⟩
    · exact ⟨_, .base (.tup h), kit_ty (r := false) (by decide +kernel)⟩
    · exact ⟨_, .base (.dK h), kit_ty (r := false) (by decide +kernel)⟩
  | byt b => exact h.elim
  | flt b => exact h.elim
  | ty n => exact h.elim
theorem kn_tup {v : V} (h : Kn H v) : ∃ t, TyX K H v t ∧ PySem.W.kitOne K t (.type "tuple") = some (isT H v) := by
  cases v with
  | non => exact ⟨_, .base .non, kit_ty (r := false) (by decide +kernel)⟩
  | bl b => exact ⟨_, .base (.bl b), kit_ty (r := false) (by decide +kernel)⟩
  | int i => exact ⟨_, .base (.int i), kit_ty (r := false) (by decide +kernel)⟩
  | str x => exact ⟨_, .base (.str x), kit_ty (r := false) (by decide +kernel)⟩
  | ref a =>
    unfold isT
    rcases h with ⟨xs, h⟩ | ⟨xs, h⟩ | ⟨xs, h⟩
    · exact ⟨_, .base (.lst h), by simp only [h]; exact kit_ty (r := false) (by decide +kernel)⟩
    · exact ⟨_, .base (.tup h), by simp only [h]; exact kit_ty (r := true) (by decide +kernel)⟩
    · exact ⟨_, .base (.dK h), by simp only [h]; exact kit_ty (r := false) (by decide +kernel)⟩
  | byt b => exact h.elim
  | flt b => exact h.elim
  | ty n => exact h.elim
theorem isT_at {v : V} (h : isT H v = true) : ∃ a xs, v = .ref a ∧ H a = some (.tup xs) := by
  cases v with
  | ref a =>
    unfold isT at h
    cases e : H a with
    | none => simp only [e] at h; cases h
    | some o =>
      cases o with
      | tup xs => exact ⟨a, xs, rfl, e⟩
      | _ => simp only [e] at h; cases h
  | _ => cases h
theorem isT_of {a : Addr} {xs : List V} (h : H a = some (.tup xs)) : isT H (.ref a) = true := by
  unfold isT
  simp only [h]
end
section
variable {P : Program} {w : World} {K : PySem.W.Frag} {mg : Str → Option Value} {base : Heap}
def spWhole : Sp := fun vs H Q _ => ∃ v, vs = [v] ∧ Kn H v ∧ Q (.bl (isW v)) H
theorem and_whole {v : V} : (isI v && !isB v) = isW v := by cases v <;> rfl
theorem ok_is_whole {f : Addr} {fd : FuncData} (F : Fun K "is_whole" "is_whole" s_is_whole f fd) (M : Free mg) : FnOk P w K mg base CX0 1 f fd ["thing"] spWhole := by
  refine F.ok sc_is_whole (fun vs H Q E h => ?_) (fun cdv A outer s H vs Q E hr h => ?_)
  · obtain ⟨v, rfl, _⟩ := h
    rfl
  · obtain ⟨v, rfl, hk, q⟩ := h
    refine ⟨_, (pss_one (ps_ret (pe_and (pe_callB call_isi (by rfl) M.isinstance (by decide +kernel) (pa_cons (pv 0) (pa_cons (pe_bltn (v := .ty "int") (by rfl) M.int (by decide +kernel) rfl) pa_nil))) (pe_one (pe_not (pe_callB call_isi (by rfl) M.isinstance (by decide +kernel) (pa_cons (pv 0) (pa_cons (pe_bltn (v := .ty "bool") (by rfl) M.bool (by decide +kernel) rfl) pa_nil)))))))), ?_⟩
    obtain ⟨t1, h1, e1⟩ := kn_int (K := K) hk
    obtain ⟨t2, h2, e2⟩ := kn_bool (K := K) hk
    refine ⟨v, rfl, v, _, t1, _, _, rfl, .ty "int", h1, e1, _, rfl, ?_⟩
    rw [← and_whole] at q
    cases hi : isI v with
    | false =>
      rw [hi] at q
      exact q
    | true =>
      rw [hi] at q
      exact ⟨v, rfl, v, _, t2, _, _, rfl, .ty "bool", h2, e2, _, rfl, q⟩
def wfrom (lo : Int) : V → Bool
  | .int i => decide (lo ≤ i)
  | _ => false
def parts (H : Hp) : V → Option (List V)
  | .ref a => match H a with
    | some (.tup xs) => some xs
    | _ => none
  | _ => none
theorem parts_of' {H : Hp} {a : Addr} {xs : List V} (h : H a = some (.tup xs)) : parts H (.ref a) = some xs := by
  unfold parts
  simp only [h]
theorem parts_none {H : Hp} {v : V} (h : isT H v = false) : parts H v = none := by
  cases v with
  | ref a =>
    unfold isT at h
    unfold parts
    cases e : H a with
    | none => simp only [e]
    | some o =>
      cases o with
      | tup xs => simp only [e] at h; cases h
      | _ => simp only [e]
  | _ => rfl
def lenIs (H : Hp) (v : V) (n : Int) : Bool := match parts H v with
  | some xs => decide ((xs.length : Int) = n)
  | none => false
def spTupleOf : Sp := fun vs H Q _ => ∃ n v, vs = [.int n, v] ∧ Kn H v ∧ Q (.bl (lenIs H v n)) H
theorem dec_int (a b : Int) : decide (V.int a = V.int b) = decide (a = b) := by
  by_cases h : a = b
  · rw [decide_eq_true h, h, decide_eq_true rfl]
  · rw [decide_eq_false h, decide_eq_false (fun z => h (V.int.inj z))]
theorem ok_is_tuple_of {f : Addr} {fd : FuncData} (F : Fun K "is_tuple_of" "is_tuple_of" s_is_tuple_of f fd) (M : Free mg) : FnOk P w K mg base CX0 1 f fd ["length", "thing"] spTupleOf := by
  refine F.ok sc_is_tuple_of (fun vs H Q E h => ?_) (fun cdv A outer s H vs Q E hr h => ?_)
  · obtain ⟨n, v, rfl, _⟩ := h
    rfl
  · obtain ⟨n, v, rfl, hk, q⟩ := h
    refine ⟨_, (pss_one (ps_ret (pe_and (pe_callB call_isi (by rfl) M.isinstance (by decide +kernel) (pa_cons (pv 1) (pa_cons (pe_bltn (v := .ty "tuple") (by rfl) M.tuple (by decide +kernel) rfl) pa_nil))) (pe_one (pe_cmpR op_eq (pe_callB call_len_seq (by rfl) M.len PySem.boot_len (pa_cons (pv 1) pa_nil)) (pv 0) (nomark _)))))), ?_⟩
    obtain ⟨t1, h1, e1⟩ := kn_tup (K := K) hk
    refine ⟨v, rfl, v, _, t1, _, _, rfl, .ty "tuple", h1, e1, _, rfl, ?_⟩
    unfold lenIs at q
    cases hi : isT H v with
    | false =>
      rw [parts_none hi] at q
      exact q
    | true =>
      obtain ⟨a, xs, rfl, e⟩ := isT_at hi
      rw [parts_of' e] at q
      refine ⟨.ref a, rfl, a, xs, rfl, .inr (SqT.of e), .int n, rfl, rfl, ?_⟩
      rw [dec_int]
      exact q

/-! ### a def whose code object stands at c: its own table is at Pt -/
structure FunC (K : PySem.W.Frag) (x qual : Str) (st : Stmt) (f : Addr) (fd : FuncData) (c : Addr) : Prop where
  ex : ∃ (oc : Value) (od : Option Addr) (kV doc pm : Value) (an : Option Addr) (ct : Value) (osl : Array (Option Value)),
    fd = PySem.W.fnOf x qual (defArgs st) (defBody st) (defScope st) .none kV doc pm an (.ref c) ct ∧ K.lookup f = some ⟨oc, od, .func fd, osl⟩ ∧ PySem.W.codeIn K (.ref c) qual = true
  kp : PySem.W.keepIn K (.ref f) = true
theorem FunC.ok {x qual : Str} {st : Stmt} {f c : Addr} {fd : FuncData} {N ps : List Str} {k : Nat} {sp : Sp} (F : FunC K x qual st f fd c) (S : FnScope N ps (defScope st)) (len : ∀ vs H Q E, sp vs H Q E → vs.length = ps.length)
    (hbody : ∀ (A : Around) (outer : List Env) (s : Shared) (H : Hp) (vs : List V) (Q : VK) (E : XK), Room k (A.deeper (envOfC qual (defScope st) s.heap.objs.size f (.ref c))) → sp vs H Q E →
      ∃ t, PSs (cxOf CX0 P w K mg base N qual (defScope st) f (.ref c) A outer s H E).nox (defBody st) t ∧ t { nx := fun _ H' => Q .non H', rt := Q } (start N vs) H) : FnOk P w K mg base CX0 (k + 1) f fd ps sp := by
  obtain ⟨oc, od, kV, doc, pm, an, ct, osl, rfl, lk, hcd⟩ := F.ex
  refine fn_of lk hcd S len fun A outer s H vs Q E hr hsp => ?_
  obtain ⟨t, h, q⟩ := hbody A outer s H vs Q E hr hsp
  exact ⟨t, h.nox, q⟩
theorem FunC.fn {x qual : Str} {st : Stmt} {f c : Addr} {fd : FuncData} (F : FunC K x qual st f fd c) : Fun K x qual st f fd := by
  obtain ⟨oc, od, kV, doc, pm, an, ct, osl, rfl, lk, hcd⟩ := F.ex
  exact ⟨⟨oc, od, kV, doc, pm, an, _, ct, osl, rfl, lk, hcd⟩, F.kp⟩
theorem parts_at {H : Hp} {v : V} {xs : List V} (h : parts H v = some xs) : ∃ a, v = .ref a ∧ H a = some (.tup xs) := by
  cases v with
  | ref a =>
    unfold parts at h
    cases e : H a with
    | none => simp only [e] at h; cases h
    | some o =>
      cases o with
      | tup ys => simp only [e] at h; cases h; exact ⟨a, rfl, e⟩
      | _ => simp only [e] at h; cases h
  | _ => cases h
end
/-! ### all but the tables is kept -/
structure Kt (Ps : List Addr) (H H' : Hp) : Prop where
  tab : ∀ P ∈ Ps, GxR.TabG H' P
  keep : ∀ b o, b ∉ Ps → H b = some o → H' b = some o
def Tabs (Ps : List Addr) (H : Hp) : Prop := ∀ P ∈ Ps, GxR.TabG H P
theorem Kt.refl {Ps : List Addr} {H : Hp} (h : Tabs Ps H) : Kt Ps H H := ⟨h, fun _ _ _ e => e⟩
theorem Kt.trans {Ps : List Addr} {H H1 H2 : Hp} (a : Kt Ps H H1) (b : Kt Ps H1 H2) : Kt Ps H H2 := ⟨b.tab, fun x o h e => b.keep x o h (a.keep x o h e)⟩
theorem Kt.same {Ps : List Addr} {H H' : Hp} (h : Tabs Ps H) (s : Same H H') : Kt Ps H H' := ⟨fun P hP => by obtain ⟨ps, e, t⟩ := h P hP; exact ⟨ps, s _ _ e, t⟩, fun b o _ e => s b o e⟩
theorem Kt.tabbed {Ps : List Addr} {P : Addr} {H H' : Hp} (h : Tabs Ps H) (hP : P ∈ Ps) (t : GxR.Tabbed P H H') : Kt Ps H H' := by
  refine ⟨fun Q hQ => ?_, fun b o hb e => ?_⟩
  · by_cases e : Q = P
    · rw [e]
      exact t.1
    · obtain ⟨ps, e1, t1⟩ := h Q hQ
      exact ⟨ps, by rw [t.2 Q e]; exact e1, t1⟩
  · rw [t.2 b (fun z => hb (by rw [z]; exact hP))]
    exact e
theorem Tabs.out {Ps : List Addr} {H : Hp} {a : Addr} {o : HO} (t : Tabs Ps H) (h : H a = some o) (no : ∀ ps, o ≠ .tbl ps) : a ∉ Ps := fun z => by
  obtain ⟨ps, e, _⟩ := t a z
  rw [e] at h
  cases h
  exact no _ rfl
theorem Kt.tup {Ps : List Addr} {a : Addr} {H H' : Hp} {xs : List V} (k : Kt Ps H H') (t : Tabs Ps H) (h : H a = some (.tup xs)) : H' a = some (.tup xs) := k.keep a _ (t.out h fun _ z => by cases z) h
theorem Kt.lst {Ps : List Addr} {a : Addr} {H H' : Hp} {xs : List V} (k : Kt Ps H H') (t : Tabs Ps H) (h : H a = some (.lst xs)) : H' a = some (.lst xs) := k.keep a _ (t.out h fun _ z => by cases z) h
theorem Kt.dct {Ps : List Addr} {a : Addr} {H H' : Hp} {xs : List (Key × V)} (k : Kt Ps H H') (t : Tabs Ps H) (h : H a = some (.dK xs)) : H' a = some (.dK xs) := k.keep a _ (t.out h fun _ z => by cases z) h
theorem Kt.tk {Ps : List Addr} {H H' : Hp} (k : Kt Ps H H') (t : Tabs Ps H) : Tk H H' := fun _ _ e => k.tup t e
theorem Kt.kn {Ps : List Addr} {H H' : Hp} (k : Kt Ps H H') (t : Tabs Ps H) {v : V} (h : Kn H v) : Kn H' v := by
  cases v with
  | ref a =>
    rcases h with ⟨xs, h⟩ | ⟨xs, h⟩ | ⟨xs, h⟩
    · exact .inl ⟨xs, k.lst t h⟩
    · exact .inr (.inl ⟨xs, k.tup t h⟩)
    · exact .inr (.inr ⟨xs, k.dct t h⟩)
  | _ => exact h
theorem Kt.deck {Ps : List Addr} {d c : Addr} {H H' : Hp} (k : Kt Ps H H') (t : Tabs Ps H) (D : Deck H d c) : Deck H' d c := by
  obtain ⟨cells, st, n, e1, e2, e3⟩ := D
  exact ⟨cells, st, n, k.lst t e1, k.lst t e2, e3⟩
/-! ### x in t of data of any depth -/
def rInT (K : PySem.W.Frag) : R2 := fun x y H Q => ∃ d ds, Dp K H x d ∧ Dp K H y (.tuple ds) ∧ SeqAt.shaped d = true ∧ SeqAt.shaped (.tuple ds) = true ∧ Q (.bl (ds.any fun z => PyData.eqv z d)) H
theorem op_inTup {X : Cx} (hu : X.A.units + 65 < cLine) : OpR X (compareOp .In) (rInT X.K) := by
  intro pins s σ H x y v u Q I rx ry want
  obtain ⟨d, ds, hd, he, sd, se, q⟩ := want
  obtain ⟨as, r1⟩ := Dp.reads I d x v hd rx
  obtain ⟨bs, r2⟩ := Dp.reads I (.tuple ds) y u he ry
  have lay : PyData.canLayAll0 ds = true := by
    have z := SeqAt.canLay_of_shaped se
    rw [PyData.canLay0] at z
    exact z
  have deep := SeqAt.depth_of_shaped sd
  exact SeqAt.in_tuple_reads r2 r1 lay (SeqAt.canLay_of_shaped sd) (by omega) ⟨.bl _, H, I, rfl, q⟩
/-! ### defs below which no repr is under way: repr has a reading there -/
section
variable {P : Program} {w : World} {K : PySem.W.Frag} {mg : Str → Option Value} {base : Heap}
structure FnG (P : Program) (w : World) (K : PySem.W.Frag) (mg : Str → Option Value) (base : Heap) (k : Nat) (f : Addr) (fd : FuncData) (ps : List Str) (sp : Sp) : Prop where
  cnt : ∀ vs H Q E, sp vs H Q E → vs.length = ps.length
  go : ∀ (B : PySem.Around) (out : List Env) (z : Shared) (H : Hp) (ar : Args) (us : List Value) (vs : List V) (Q : VK) (E : XK), B.guards = some [] → Room k B → Env0 P w K mg base B out z H → BindsTo z fd ar (ps.zip us) → Vals vs us → sp vs H Q E → codeAny (model P w) B (.call (.ref f) ar) (CR CX0 out P w H z Q E) z
theorem FnG.of {k : Nat} {f : Addr} {fd : FuncData} {ps : List Str} {sp : Sp} (F : FnOk P w K mg base CX0 k f fd ps sp) : FnG P w K mg base k f fd ps sp :=
  ⟨F.len, fun B out z H ar us vs Q E _ => F.run B out z H ar us vs Q E⟩
/-- a def of the text, by its body -/
theorem okG {x qual : Str} {st : Stmt} {f : Addr} {fd : FuncData} {N ps : List Str} {k : Nat} {sp : Sp} (F : Fun K x qual st f fd) (S : FnScope N ps (defScope st)) (cnt : ∀ vs H Q E, sp vs H Q E → vs.length = ps.length)
    (hb : ∀ (cd : Value) (B : PySem.Around) (out : List Env) (z : Shared) (H : Hp) (vs : List V) (Q : VK) (E : XK), (B.deeper (envOfC qual (defScope st) z.heap.objs.size f cd)).guards = some [] → Room k (B.deeper (envOfC qual (defScope st) z.heap.objs.size f cd)) → sp vs H Q E →
      ∃ t, PSs (cxOf CX0 P w K mg base N qual (defScope st) f cd B out z H E).nox (defBody st) t ∧ t { nx := fun _ H' => Q .non H', rt := Q } (start N vs) H) : FnG P w K mg base (k + 1) f fd ps sp := by
  obtain ⟨o1, o2, o3, o4, o5, o6, cd, o8, o9, rfl, look, code⟩ := F.ex
  refine ⟨cnt, fun B out z H ar us vs Q E hg room e0 bind rel want => ?_⟩
  have kept : ∀ b o, base.get? b = some o → z.heap.get? b = some o := fun b o e => (e0.bs b o e).1
  have KZ : K.In z.heap := e0.mod.kin.keeps kept
  refine codeAny_call_function room.depth (KZ _ _ look) rfl S.co S.gen rfl (PySem.W.codeRec_of KZ code) (bind _ _ _ _ ?_)
  refine wpAny_newFunctionEnv_cells S.kind (fun y hy => (S.par y.1 (List.of_mem_zip hy).1).imp id fun c => ⟨c, PySem.W.cellsFrom_some _ _ _ (.inl c)⟩) fun env he z1 new => ?_
  subst he
  refine ⟨(e0.mod.nolimit.keeps kept).keeps new.toInCall.keep, codeAny_func ?_⟩
  obtain ⟨t, ht, hq⟩ := hb cd B out z H vs Q E hg (room.deeper _) want
  refine wpAny_mono (ht.nox.run [] z1 (start N vs) H _ (inv_start S room.hd e0 (cnt _ _ _ _ want) rel new) hq) (fun g z2 end_ => ?_) fun _ _ h => h
  cases g with
  | brk => exact end_.elim fun _ h => h.elim fun _ h => h.2.elim
  | cont => exact end_.elim fun _ h => h.elim fun _ h => h.2.elim
  | ret u =>
    obtain ⟨v, σ2, H2, J, rv, q⟩ := end_
    exact ⟨v, H2, J.os, J.bare, J.base, J.hok, rv, q⟩
  | next =>
    obtain ⟨σ2, H2, J, q⟩ := end_
    exact ⟨.non, H2, J.os, J.bare, J.base, J.hok, rfl, q⟩
end
section
variable {X : Cx} {k : Nat} {f : Addr} {fd : FuncData} {ps : List Str} {sp : Sp} {x : Str} {p pos : Pos} {e : Expr} {es : List Expr} {t : TA}
/-- the call of such a def -/
theorem pe_callG (F : FnG X.prog X.w X.K X.mg X.base k f fd ps sp) (hG : X.A.guards = some []) (hr : Room k X.A) (hg : Gl X x) (hm : X.mg x = some (.ref f)) (hk : PySem.W.keepIn X.K (.ref f) = true) (hb : Binds X.K fd ps [])
    (ha : PA X (e :: es) t) (h1 : (x == ("__debug__" : Str)) = false := by decide) (h2 : starEach (e :: es) X.env = (false, eval e X.env) :: starEach es X.env := by rfl) (h3 : (backTo pos (starEach es X.env)).any (·.1) = false := by rfl) :
    PE X (.Call (.Name x p) (e :: es) [] pos) (tCall sp [] E0 t) := by
  refine ⟨fun pins z σ H Q I want => wpAny_Call_Name_kw (ld_glob I hg hm (PySem.W.callWith_K (h₀ := X.base) I.ok.mod.kin hk (thn (ha.run pos pins z σ H _ I want) fun us z1 got => ?_) h2 h3) h1)⟩
  obtain ⟨vs, H1, J, rel, q⟩ := got
  have q1 : sp vs H1 Q E0 := by rw [← List.append_nil vs]; exact q
  have bd := hb z1 us J.kIn (by rw [List.append_nil, ← rel.length]; exact F.cnt _ _ _ _ q1)
  rw [List.append_nil] at bd
  refine ⟨J.kIn, wpAny_call (codeAny_mono (F.go X.A X.stack z1 H1 ⟨us, []⟩ us vs Q E0 hG hr J.env0 bd rel q1) fun r z2 fin => ?_)⟩
  match r, fin with
  | .ok (.ret u), fin => exact J.after fin
  | .ok .next, fin => exact False.elim fin
  | .ok .brk, fin => exact False.elim fin
  | .ok .cont, fin => exact False.elim fin
  | .error _, fin => exact False.elim fin
/-- repr of a list or tuple of plain things -/
def rRepr (K : PySem.W.Frag) : List V → Hp → VK → Prop := fun xs H Q => ∃ (a : Addr) (d : PyData), xs = [.ref a] ∧ Dp K H (.ref a) d ∧ d.showable = true ∧ d.hasDict = false ∧ d.depth ≤ 60 ∧ d.shown.length ≤ sizeLine ∧ Q (.str d.shown) H
theorem call_reprD (hG : X.A.guards = some []) (hu : X.A.units + 64 < cLine) : CallR X (.builtin "repr") (rRepr X.K) := by
  intro pins z σ H xs us Q I rel want
  obtain ⟨a, d, ex, hd, h1, h2, h3, h4, q⟩ := want
  subst ex
  obtain ⟨u, eu, rx⟩ := vals1 rel
  subst eu
  obtain ⟨as, rd⟩ := Dp.reads I d (.ref a) u hd rx
  obtain rfl : u = Value.ref a := rx
  exact repr_of_reads' rd h1 (fun h => by rw [h2] at h; cases h) hG (by omega) (fun _ _ h => h) (fun h' t tk kp => ⟨.str d.shown, H, I.kept kp, ⟨t, rfl⟩, q⟩) h4
end
section
variable {P : Program} {w : World} {K : PySem.W.Frag} {mg : Str → Option Value} {base : Heap}
def DfG (P : Program) (w : World) (K : PySem.W.Frag) (mg : Str → Option Value) (base : Heap) (k : Nat) (x : Str) (ps : List Str) (sp : Sp) : Prop :=
  ∃ (f : Addr) (fd : FuncData), FnG P w K mg base k f fd ps sp ∧ mg x = some (.ref f) ∧ PySem.W.keepIn K (.ref f) = true ∧ Binds K fd ps []
theorem DfG.of {x : Str} {st : Stmt} {f : Addr} {fd : FuncData} {k : Nat} {ps : List Str} {sp : Sp} (g : mg x = some (.ref f)) (F : Fun K x x st f fd) (G : FnG P w K mg base k f fd ps sp)
    (h : ∀ (kV doc pm : Value) (an : Option Addr) (cdv ct : Value) (us : List Value), us.length = ps.length → bindArgs (PySem.W.fnOf x x (defArgs st) (defBody st) (defScope st) .none kV doc pm an cdv ct) ⟨us, []⟩ = pure (ps.zip us)) : DfG P w K mg base k x ps sp :=
  ⟨f, fd, G, g, F.kp, F.binds h⟩
end
/-! ### the end of a law that asks for repr: the caller of the law has none under way -/
/-- the script alone may be tracked, and it stays -/
def Lone (H : Hp) (a : Addr) : Prop := ∀ b u, H b = some u → b = a ∧ ∃ o xs, u = .frz o (.lst xs)
def GoesG (P : Program) (w : World) (K : PySem.W.Frag) (mg : Str → Option Value) (k : Nat) (fa : Addr) (x : Str) (n : Nat) : Prop :=
  ∃ (fd : FuncData) (sp : Sp), (∀ (z : Shared) (u : Value), BindsTo z fd ⟨[u], []⟩ [(x, u)]) ∧ (∀ (H : Hp) (a : Addr) (ns : List Int), ns.length ≤ n → SqL K H a (ns.map V.int) → sp [.ref a] H (fun v _ => v = .bl true) fun _ _ _ => False) ∧
    ∀ base : Heap, K.In base → base.Ns mainGlobals mg → FnG P w K mg base k fa fd [x] sp
theorem law_goes {P : Program} {w : World} {K : PySem.W.Frag} {mg mb : Str → Option Value} {k n : Nat} {fa a : Addr} {x : Str} {z : Shared} {vs : List Value} {ns : List Int} (KZ : K.In z.heap) (hmg : z.heap.Ns mainGlobals mg) (hmb : z.heap.Ns builtinsNs mb)
    (hboot : ∀ x : Str, x ≠ "__name__" → mb x = bootBuiltins x) (nolim : z.heap.NoLimit) (nogen : z.gens = #[]) (hscr : z.heap.get? a = some { cls := .type "list", data := .seq vs.toArray }) (hni : IntsAre vs ns) (small : ns.length ≤ sizeLine) (hn : ns.length ≤ n) (room : Room k callerA)
    (G : GoesG P w K mg k fa x n) : codeAny (model P w) callerA (.call (.ref fa) ⟨[.ref a], []⟩) (fun r z' => r = .ok (.ret (.bool true)) ∧ OldK z.heap z'.heap ∧ z'.os = z.os ∧ AllBare z'.gens) z := by
  obtain ⟨fd, sp, bind, want, fn⟩ := G
  -- H tracks the script or nothing
  have main : ∀ H : Hp, Lone H a → (H a ≠ none → K.lookup a = none) → SqL K H a (ns.map V.int) → HOk P w H z.heap → codeAny (model P w) callerA (.call (.ref fa) ⟨[.ref a], []⟩) (fun r z' => r = .ok (.ret (.bool true)) ∧ OldK z.heap z'.heap ∧ z'.os = z.os ∧ AllBare z'.gens) z := by
    intro H lone own seq hok
    have free : ∀ {b : Addr}, b ≠ a → H b = none := fun {b} hb => by
      cases e : H b with
      | none => rfl
      | some u => exact absurd (lone b u e).1 hb
    have keepNs : ∀ {b : Addr} {m : Str → Option Value}, z.heap.Ns b m → (hidT z.heap H).Ns b m := by
      rintro b m ⟨o, es, ep, e, d, r⟩
      refine ⟨o, es, ep, hidT_get e (free fun hb => ?_), d, r⟩
      subst hb
      rw [hscr] at e
      cases e
      cases d
    have keepK : K.In (hidT z.heap H) := fun b o e => hidT_get (KZ b o e) (by
      by_cases hb : b = a
      · subst hb
        cases q : H b with
        | none => rfl
        | some u =>
          rw [own (by rw [q]; exact fun h => nomatch h)] at e
          cases e
      · exact free hb)
    obtain ⟨mc, lim1, lim2⟩ := nolim
    have modul : Mod K mg (hidT z.heap H) := ⟨keepK, keepNs hmg, ⟨mb, keepNs hmb, hboot⟩, ⟨mc, keepNs lim1, lim2⟩⟩
    have env : Env0 P w K mg (hidT z.heap H) callerA [] z H := ⟨rfl, modul, fun _ _ e => of_hidT e, Nat.le_of_eq (hidT_size _ _), trivial, fun b hb => (List.not_mem_nil hb).elim, hok, .of_eq nogen⟩
    refine codeAny_mono ((fn _ keepK (keepNs hmg)).go callerA [] z H ⟨[.ref a], []⟩ [.ref a] [.ref a] _ _ rfl room env (bind z (.ref a)) (.cons rfl .nil) (want H a ns hn seq)) fun r z' fin => ?_
    match r, fin with
    | .ok .next, fin => exact False.elim fin
    | .ok .brk, fin => exact False.elim fin
    | .ok .cont, fin => exact False.elim fin
    | .error _, fin => exact False.elim fin
    | .ok (.ret u), fin =>
      obtain ⟨v, H', os, bare, un, hok', rv, ev⟩ := fin
      obtain rfl : v = .bl true := ev
      obtain rfl : u = Value.bool true := rv
      refine ⟨rfl, OldK.of_keep fun b o e => ?_, os, bare⟩
      cases q : H b with
      | none => exact un.keep b o e q (fun h => (List.not_mem_nil h).elim) (by simp)
      | some u =>
        obtain ⟨_, ob, xs, rfl⟩ := lone b u q
        obtain ⟨e1, _⟩ := hok b _ q
        obtain ⟨e2, _⟩ := hok' b _ (un.frzs b ob _ q)
        rw [e] at e1
        cases e1
        exact e2
  have rel := vals_ints hni
  by_cases own : K.lookup a = none
  · refine main (fun b => if b = a then some (.frz { cls := .type "list", data := .seq vs.toArray } (.lst (ns.map V.int))) else none) (fun b u e => ?_) (fun _ => own) (.inl (.inr ⟨_, if_pos rfl⟩)) fun b u e => ?_
    all_goals
      simp only at e
      have hb : b = a := Decidable.byContradiction fun h => by rw [if_neg h] at e; cases e
      rw [if_pos hb] at e
      cases e
    · exact ⟨hb, _, _, rfl⟩
    · subst hb
      exact ⟨hscr, by rw [List.length_map]; exact small, vs, _, rel, hscr⟩
  · obtain ⟨o, ho⟩ := Option.ne_none_iff_exists'.mp own
    have e := KZ a o ho
    rw [hscr] at e
    cases e
    exact main (fun _ => none) (fun b u e => nomatch e) (fun h => absurd rfl h) (.inr ⟨_, vs.toArray, _, ho, rfl, rfl, rfl, by rw [List.size_toArray, hni.length]; exact small, by simpa using rel⟩) fun b u e => nomatch e
theorem walk_g {l : PySem.W.OpenLaw} {n k : Nat} {q : Program} {loose : List Str} {XP : (Str → Option Value) → Heap → Prop} {YP : World → Heap → Prop} {d : DefRec} {K : Params → PySem.W.Frag} {x : Str} (hn : l.most = some n) (hn2 : n ≤ sizeLine) (hdf : d.params.defaults = []) (room : Room k callerA)
    (hY : ∀ (w : World) (h : Heap), YP w h → (K w.params).In h) (F : ∀ (w : World) (mg : Str → Option Value) (fa : Addr) (h : Heap), (K w.params).In h → h.Ns mainGlobals mg → mg d.name = some (.ref fa) → GoesG l.prog w (K w.params) mg k fa x n) :
    PySem.W.WalkO q loose XP YP l.row.toRowW d [] (fun f vs => PySem.call f vs) := by
  refine Att.attach_callB hn hdf fun w z0 z1 mg mb fa o pm cd doc a vs ns G Y ho hd hcd hmg hobj hints hlen hbits hg => ?_
  have KZ := hY w _ Y
  exact law_goes KZ G.T.g G.T.b G.T.builtins G.T.nolimit hg hobj hints (Nat.le_trans hlen hn2) hlen room (F w mg fa _ KZ G.T.g hmg)
/-! ### as law_goes, for laws whose defs hold generator expressions too: cs, the code objects and their tables -/
def GoesT (P : Program) (w : World) (K : PySem.W.Frag) (mg : Str → Option Value) (k : Nat) (fa : Addr) (x : Str) (n : Nat) (h : Heap) : Prop :=
  ∃ (fd : FuncData) (cs : List (Addr × Addr)) (sp : Sp), (∀ p ∈ cs, h.get? p.2 = some { cls := .none, data := .fields #[] }) ∧ (∀ p ∈ cs, K.lookup p.2 = none) ∧ (∀ p ∈ cs, PySem.W.CodeHd h p.1 p.2) ∧ (∀ (z : Shared) (u : Value), BindsTo z fd ⟨[u], []⟩ [(x, u)]) ∧
    (∀ (H : Hp) (a : Addr) (ns : List Int), ns.length ≤ n → (∀ p ∈ cs, H p.2 = some (.tbl #[])) → SqL K H a (ns.map V.int) → sp [.ref a] H (fun v _ => v = .bl true) fun _ _ _ => False) ∧
    ∀ base : Heap, K.In base → base.Ns mainGlobals mg → (∀ p ∈ cs, LamX.TabB base mg p.1 p.2) → FnG P w K mg base k fa fd [x] sp
/-- what may be tracked at the start: the script, as it stands, and the tables, empty -/
inductive First (a : Addr) (ts : List Addr) (b : Addr) : HO → Prop
  | script {o : Obj} {xs : List V} : b = a → First a ts b (.frz o (.lst xs))
  | table : b ∈ ts → First a ts b (.tbl #[])
theorem law_goesT {P : Program} {w : World} {K : PySem.W.Frag} {mg mb : Str → Option Value} {k n : Nat} {fa a : Addr} {x : Str} {z : Shared} {vs : List Value} {ns : List Int} (KZ : K.In z.heap) (hmg : z.heap.Ns mainGlobals mg) (hmb : z.heap.Ns builtinsNs mb)
    (hboot : ∀ x : Str, x ≠ "__name__" → mb x = bootBuiltins x) (nolim : z.heap.NoLimit) (nogen : z.gens = #[]) (mods : ∃ (bm : Addr) (ob : Obj), mg "__builtins__" = some (.ref bm) ∧ bm ≠ builtinsNs ∧ z.heap.get? bm = some ob ∧ ob.cls = .type "module" ∧ ob.dict = some builtinsNs ∧ ob.data = .plain)
    (hscr : z.heap.get? a = some { cls := .type "list", data := .seq vs.toArray }) (hni : IntsAre vs ns) (small : ns.length ≤ sizeLine) (hn : ns.length ≤ n) (room : Room k callerA)
    (G : GoesT P w K mg k fa x n z.heap) : codeAny (model P w) callerA (.call (.ref fa) ⟨[.ref a], []⟩) (fun r z' => r = .ok (.ret (.bool true)) ∧ OldK z.heap z'.heap ∧ z'.os = z.os ∧ AllBare z'.gens) z := by
  obtain ⟨fd, cs, sp, tabs, tabK, code, bind, want, fn⟩ := G
  have tabAt : ∀ b ∈ cs.map (·.2), z.heap.get? b = some { cls := .none, data := .fields #[] } := fun b hb => by
    obtain ⟨p, hp, rfl⟩ := List.mem_map.mp hb
    exact tabs p hp
  have main : ∀ H : Hp, (∀ b u, H b = some u → First a (cs.map (·.2)) b u) → (∀ p ∈ cs, H p.2 = some (.tbl #[])) → (H a ≠ none → K.lookup a = none) → SqL K H a (ns.map V.int) → HOk P w H z.heap →
      codeAny (model P w) callerA (.call (.ref fa) ⟨[.ref a], []⟩) (fun r z' => r = .ok (.ret (.bool true)) ∧ OldK z.heap z'.heap ∧ z'.os = z.os ∧ AllBare z'.gens) z := by
    intro H first isTab own seq hok
    -- what is neither a list nor an empty table is not tracked
    have free : ∀ {b : Addr} {o : Obj}, z.heap.get? b = some o → (∀ us m, o.data ≠ .seq us m) → o.data ≠ .fields #[] → H b = none := fun {b o} e h1 h2 => by
      cases q : H b with
      | none => rfl
      | some u =>
        cases first b u q with
        | script hb =>
          rw [hb, hscr] at e
          cases e
          exact absurd rfl (h1 _ _)
        | table hb =>
          rw [tabAt b hb] at e
          cases e
          exact absurd rfl h2
    have keepNs : ∀ {b : Addr} {m : Str → Option Value}, z.heap.Ns b m → (hidT z.heap H).Ns b m := by
      rintro b m ⟨o, es, ep, e, d, r⟩
      exact ⟨o, es, ep, hidT_get e (free e (fun us m y => by rw [d] at y; cases y) fun y => by rw [d] at y; cases y), d, r⟩
    have keepK : K.In (hidT z.heap H) := fun b o e => hidT_get (KZ b o e) (by
      cases q : H b with
      | none => rfl
      | some u =>
        cases first b u q with
        | script hb =>
          subst hb
          rw [own (by rw [q]; exact fun h => nomatch h)] at e
          cases e
        | table hb =>
          obtain ⟨p, hp, rfl⟩ := List.mem_map.mp hb
          rw [tabK p hp] at e
          cases e)
    obtain ⟨mc, lim1, lim2⟩ := nolim
    have modul : Mod K mg (hidT z.heap H) := ⟨keepK, keepNs hmg, ⟨mb, keepNs hmb, hboot⟩, ⟨mc, keepNs lim1, lim2⟩⟩
    have tb : ∀ p ∈ cs, LamX.TabB (hidT z.heap H) mg p.1 p.2 := fun p hp => by
      obtain ⟨og, eg, pg, atg, dg, rg⟩ := hmg
      refine ⟨?_, ?_, fun y => ?_⟩
      · obtain ⟨o, us, file, tf, flags, tg, inF, text, tt, e1, c1, c2, c3, c4, c5, c6, c7, c8, c9⟩ := code p hp
        exact ⟨o, us, file, tf, flags, tg, inF, text, tt, hidT_get e1 (free e1 (fun _ _ y => by rw [c2] at y; cases y) fun y => by rw [c2] at y; cases y; simp at c3), c1, c2, c3, c4, c5, c6, c7, c8, c9⟩
      · obtain ⟨bm, ob, b1, b2, b3, b4, b5, b6⟩ := mods
        refine ⟨bm, ob, b1, b2, fun y => ?_, fun y => ?_, hidT_get b3 (free b3 (fun _ _ y => by rw [b6] at y; cases y) fun y => by rw [b6] at y; cases y), b4, b5, b6⟩
        · rw [y, atg] at b3
          cases b3
          rw [dg] at b6
          cases b6
        · rw [y, tabs p hp] at b3
          cases b3
          cases b6
      · rw [y, tabs p hp] at atg
        cases atg
        cases dg
    have env : Env0 P w K mg (hidT z.heap H) callerA [] z H := ⟨rfl, modul, fun _ _ e => of_hidT e, Nat.le_of_eq (hidT_size _ _), trivial, fun b hb => (List.not_mem_nil hb).elim, hok, .of_eq nogen⟩
    refine codeAny_mono ((fn _ keepK (keepNs hmg) tb).go callerA [] z H ⟨[.ref a], []⟩ [.ref a] [.ref a] _ _ rfl room env (bind z (.ref a)) (.cons rfl .nil) (want H a ns hn isTab seq)) fun r z' fin => ?_
    match r, fin with
    | .ok .next, fin => exact False.elim fin
    | .ok .brk, fin => exact False.elim fin
    | .ok .cont, fin => exact False.elim fin
    | .error _, fin => exact False.elim fin
    | .ok (.ret u), fin =>
      obtain ⟨v, H', os, bare, un, hok', rv, ev⟩ := fin
      obtain rfl : v = .bl true := ev
      obtain rfl : u = Value.bool true := rv
      have stays : ∀ b o, b ∉ cs.map (·.2) → z.heap.get? b = some o → z'.heap.get? b = some o := fun b o nb e => by
        cases q : H b with
        | none => exact un.keep b o e q (fun h => (List.not_mem_nil h).elim) (by simp)
        | some u =>
          cases first b u q with
          | table hb => exact absurd hb nb
          | script hb =>
            obtain ⟨e1, _⟩ := hok b _ q
            obtain ⟨e2, _⟩ := hok' b _ (un.frzs b _ _ q)
            rw [e] at e1
            cases e1
            exact e2
      have grows : ∀ p ∈ cs, ∃ more : Array Value, z'.heap.get? p.2 = some { cls := .none, data := .fields more } := fun p hp => by
        obtain ⟨more, y⟩ := un.tbls p.2 #[] (isTab p hp)
        exact ⟨_, hok' p.2 _ y⟩
      refine ⟨rfl, ⟨fun b o e => ?_, fun b o e => ?_⟩, os, bare⟩
      · by_cases hb : b ∈ cs.map (·.2)
        · obtain ⟨p, hp, rfl⟩ := List.mem_map.mp hb
          obtain ⟨more, hm⟩ := grows p hp
          rw [tabs p hp] at e
          cases e
          exact .inr (.inl ⟨((code p hp).tab (tabs p hp)).isCodeTable, rfl, #[], more, rfl, by rw [Array.empty_append]; exact hm⟩)
        · exact .inl (stays b o hb e)
      · by_cases hb : b ∈ cs.map (·.2)
        · obtain ⟨p, hp, rfl⟩ := List.mem_map.mp hb
          obtain ⟨more, hm⟩ := grows p hp
          exact ⟨_, hm⟩
        · exact ⟨o, stays b o hb e⟩
  have rel := vals_ints hni
  have apart : a ∉ cs.map (·.2) := fun y => by
    have q := tabAt a y
    rw [hscr] at q
    cases q
  have other : ∀ p ∈ cs, p.2 ≠ a := fun p hp y => apart (by rw [← y]; exact List.mem_map.mpr ⟨p, hp, rfl⟩)
  by_cases own : K.lookup a = none
  · refine main (fun b => if b = a then some (.frz { cls := .type "list", data := .seq vs.toArray } (.lst (ns.map V.int))) else if b ∈ cs.map (·.2) then some (.tbl #[]) else none) (fun b u e => ?_) (fun p hp => ?_) (fun _ => own) (.inl (.inr ⟨_, if_pos rfl⟩)) fun b u e => ?_
    · try simp only at e
      by_cases hb : b = a
      · rw [if_pos hb] at e
        cases e
        exact .script hb
      · rw [if_neg hb] at e
        by_cases ht : b ∈ cs.map (·.2)
        · rw [if_pos ht] at e
          cases e
          exact .table ht
        · rw [if_neg ht] at e
          cases e
    · try simp only
      rw [if_neg (other p hp), if_pos (List.mem_map.mpr ⟨p, hp, rfl⟩)]
    · try simp only at e
      by_cases hb : b = a
      · rw [if_pos hb] at e
        cases e
        rw [hb]
        exact ⟨hscr, by rw [List.length_map]; exact small, vs, _, rel, hscr⟩
      · rw [if_neg hb] at e
        by_cases ht : b ∈ cs.map (·.2)
        · rw [if_pos ht] at e
          cases e
          exact tabAt b ht
        · rw [if_neg ht] at e
          cases e
  · obtain ⟨o, ho⟩ := Option.ne_none_iff_exists'.mp own
    have e := KZ a o ho
    rw [hscr] at e
    cases e
    refine main (fun b => if b ∈ cs.map (·.2) then some (.tbl #[]) else none) (fun b u e => ?_) (fun p hp => if_pos (List.mem_map.mpr ⟨p, hp, rfl⟩)) (fun h => absurd (if_neg apart) h) (.inr ⟨_, vs.toArray, _, ho, rfl, rfl, rfl, by rw [List.size_toArray, hni.length]; exact small, by simpa using rel⟩) fun b u e => ?_
    all_goals
      try simp only at e
      by_cases ht : b ∈ cs.map (·.2)
      · rw [if_pos ht] at e
        cases e
        first
          | exact .table ht
          | exact tabAt b ht
      · rw [if_neg ht] at e
        cases e
theorem walk_gt {l : PySem.W.OpenLaw} {n k : Nat} {q : Program} {loose : List Str} {XP : (Str → Option Value) → Heap → Prop} {YP : World → Heap → Prop} {d : DefRec} {K : Params → PySem.W.Frag} {x : Str} (hn : l.most = some n) (hn2 : n ≤ sizeLine) (hdf : d.params.defaults = []) (room : Room k callerA)
    (hY : ∀ (w : World) (h : Heap), YP w h → (K w.params).In h) (F : ∀ (w : World) (mg : Str → Option Value) (fa : Addr) (h : Heap), (K w.params).In h → h.Ns mainGlobals mg → mg d.name = some (.ref fa) →
      (∀ (y : Str) (fy : Addr), ((recsOf q).any fun e => e.name == y) = true → mg y = some (.ref fy) → LamX.OwnTab (K w.params) fy h) → GoesT l.prog w (K w.params) mg k fa x n h) :
    PySem.W.WalkO q loose XP YP l.row.toRowW d [] (fun f vs => PySem.call f vs) := by
  refine Att.attach_callB hn hdf fun w z0 z1 mg mb fa o pm cd doc a vs ns G Y ho hd hcd hmg hobj hints hlen hbits hg => ?_
  have KZ := hY w _ Y
  have tabs : ∀ (y : Str) (fy : Addr), ((recsOf q).any fun e => e.name == y) = true → mg y = some (.ref fy) → LamX.OwnTab (K w.params) fy z1.heap := fun y fy hy hm c P o1 fd1 e dd vs1 sl k1 k2 k3 k4 k5 => by
    obtain ⟨dL, hmem, hnm⟩ := List.any_eq_true.mp hy
    have hnm : dL.name = y := beq_iff_eq.mp hnm
    obtain ⟨a', o', fd', c', P', h1, h2, h3, h4, h5, h6⟩ := G.T.tab dL hmem
    rw [hnm, hm] at h1
    cases h1
    rw [KZ _ _ k1] at h2
    cases h2
    rw [k2] at h3
    cases h3
    rw [k3] at h4
    cases h4
    obtain ⟨⟨oc, vc, e1, _, e3, e4⟩, hP⟩ := h6
    rw [KZ _ _ k4] at e1
    cases e1
    cases e3
    rw [k5] at e4
    cases e4
    exact hP
  exact law_goesT KZ G.T.g G.T.b G.T.builtins G.T.nolimit hg G.T.bmain hobj hints (Nat.le_trans hlen hn2) hlen room (F w mg fa _ KZ G.T.g hmg tabs)
/-! ### enumerate of a tuple -/
set_option maxHeartbeats 1000000 in
theorem meets_enumOne {v : Value} {o : Obj} {S : Heap → Prop} (B : Begins v o S) : Meets (Builtin.«enumerate.__new__» ⟨[.type "enumerate", v], []⟩) (fun _ R s => S s.heap ∧
      R (.ok (.ret (.ref (s.heap.push o).objs.size))) { s with heap := (s.heap.push o).push { cls := .type "enumerate", data := .fields #[.none, .bool false, .ref s.heap.objs.size, rawInt 0, .none, .none] } }) :=
  .of_wp fun prog w A R s h => by
    obtain ⟨hp, g, d, tk, os⟩ := s
    obtain ⟨h1, h⟩ := h
    have sub0 := sub_enumerate
    have begun : ∀ {A' : PySem.Around} {E : Value → Shared → Prop} {Q : Value → Shared → Prop}, Q (.ref hp.objs.size) ⟨hp.push o, g, d, tk, os⟩ → wpAny (model prog w) A' (pyIter v) Q E ⟨hp, g, d, tk, os⟩ := fun q => B.iter prog w _ _ ⟨hp, g, d, tk, os⟩ _ h1 q
    wp_walk using begun
    refine wpAny_stack_any fun st => wpAny_pure ?_
    split
    · rename_i c _ _ _ _ _
      cases (c == Value.type "enumerate")
      all_goals
        wp_walk using begun
        exact ⟨_, rfl, h⟩
    · wp_walk using begun
      exact ⟨_, rfl, h⟩
theorem call_enumT {P : Program} {w : World} {A : PySem.Around} {E : Value → Shared → Prop} {s : Shared} {t : Addr} {items : Array Value} {Q : Value → Shared → Prop} (ht : s.heap.IsTuple t items)
    (h : ∀ h', IsEnum h' (s.heap.objs.size + 1) s.heap.objs.size 0 .none → h'.IsTupleIter s.heap.objs.size t 0 → (∀ b o, s.heap.get? b = some o → h'.get? b = some o) → Q (.ref (s.heap.objs.size + 1)) { s with heap := h' }) : wpAny (model P w) A (call (.type "enumerate") [.ref t]) Q E s := by
  refine callType_new PySem.F.called_enumerate (by decide) (PySem.F.typeCall_enumerate_1 _) (PySem.F.newCall_enumerate_1 _) (fun ob => PySem.F.args_object_init_2 ob _) PySem.F.entry_enumerate_new (meets_enumOne (begins_tuple t items)) ⟨ht, ?_⟩
  have size1 := Heap.size_push s.heap { cls := .type "tuple_iterator", data := .fields #[.ref t, .int 0 0] }
  have en := Heap.get?_push_size (s.heap.push { cls := .type "tuple_iterator", data := .fields #[.ref t, .int 0 0] }) (o := { cls := .type "enumerate", data := .fields #[.none, .bool false, .ref s.heap.objs.size, rawInt 0, .none, .none] }) rfl
  rw [size1] at en
  show _ ∧ _
  rw [size1]
  exact ⟨⟨_, en, rfl⟩, h _ en ⟨_, Heap.get?_push_of_some _ (Heap.get?_push_size _ rfl), rfl, rfl⟩ fun b o e => Heap.get?_push_of_some _ (Heap.get?_push_of_some _ e)⟩
/-- the turns: a new pair each, of the number and the part -/
def ItN (K : PySem.W.Frag) (a : Addr) : It where
  go := fun i H => ∃ (xs : List V) (x : V), SqT K H a xs ∧ xs[i]? = some x
  yld := fun i H v H' => ∃ T x, v = .ref T ∧ H T = none ∧ H' = upd H T (.tup [.int (i : Nat), x]) ∧ ∀ xs, SqT K H a xs → xs[i]? = some x
  stop := fun i H => ∃ xs : List V, SqT K H a xs ∧ xs.length ≤ i
theorem turn_enumT {P : Program} {w : World} {K : PySem.W.Frag} {elts : List Expr} {kk : Nat} {tpos : Pos} (a e it : Addr) (n1 : e ≠ it) (n2 : a ≠ it) (n3 : e ≠ a) :
    Turn P w K (.Tuple elts kk tpos) (ItN K a) [e, it] e (fun i h => (∃ old, IsEnum h e it ((i : Nat) : Int) old) ∧ h.IsTupleIter it a i) where
  mem := List.mem_cons_self
  obj := by
    rintro i h ⟨⟨old, he⟩, o, ho, hc, hd⟩ b hb
    rcases List.mem_cons.mp hb with rfl | hb
    · exact ⟨_, he, fun v q => nomatch q⟩
    · rw [List.mem_singleton.mp hb]
      exact ⟨o, ho, fun v q => by rw [hd] at q; cases q⟩
  keep := by
    rintro i h h' ⟨⟨old, he⟩, hit⟩ kp
    exact ⟨⟨old, kp e (by simp) _ he⟩, hit.at fun o q => kp it (by simp) o q⟩
  item := by
    intro X hP hw hK hc i pins s σ H E I hf st hg
    subst hP hw hK
    obtain ⟨⟨old, he⟩, hit⟩ := st
    obtain ⟨xs, x, hq, hx⟩ := hg
    obtain ⟨its, rv, tup, _⟩ := I.tuple hq
    obtain ⟨u, hu, ru⟩ := rv.get hx
    have le := Heap.lt_size he
    have li : it < s.heap.objs.size := let ⟨_, q, _⟩ := hit; Heap.lt_size q
    have lt : i < its.toArray.size := by simpa using (List.getElem?_eq_some_iff.mp hu).1
    refine wpAny_pyNext_enum_itemD (Draws.tuple (A := X.A.in1) (I.ok.hd hc) it a n2 its.toArray) he ⟨hit, tup⟩ lt n1 (by simp [n1, n3]) fun x' h' tk ex out st' new _ kp => ?_
    obtain rfl : u = x' := Option.some.inj (((by simpa using hu) : its.toArray[i]? = some u).symm.trans ex)
    refine ⟨_, rfl, wpAny_letOwnedTupleGo_enum (s := { s with heap := h', toks := tk + 1 }) out fun h2 he2 sb => ?_⟩
    have new2 : h2.get? s.heap.objs.size = some { cls := .type "tuple", data := .seq #[.int i tk, u] } := (sb.2 _ (Nat.ne_of_gt le)).trans new
    have objT : ObjOk X.prog X.w (upd H s.heap.objs.size (.tup [.int (i : Nat), x])) h2 s.heap.objs.size (.tup [.int (i : Nat), x]) := ⟨by show 2 ≤ sizeLine; decide, [.int i tk, u], .cons ⟨_, rfl⟩ (.cons ru .nil), ⟨_, new2, rfl, _, rfl⟩⟩
    have J : Inv X pins σ (upd H s.heap.objs.size (.tup [.int (i : Nat), x])) { s with heap := h2, toks := tk + 1 } := I.turnedNew (ch := [e, it]) (fun b ob hb q => by
      simp only [List.mem_cons, List.not_mem_nil, or_false, not_or] at hb
      exact (sb.2 b hb.1).trans (kp b ob hb.1 hb.2 q)) hf (Nat.le_refl _) objT
    refine ⟨.ref s.heap.objs.size, _, J, rfl, ⟨_, x, rfl, I.hok.fresh (Nat.le_refl _), rfl, fun ys hy => by rw [I.tuple_inj hy hq]; exact hx⟩, ⟨⟨u, ?_⟩, st'.1.at fun o q => (sb.2 it (Ne.symm n1)).trans q⟩, fun b hb => ?_⟩
    · rw [show ((i + 1 : Nat) : Int) = (i : Int) + 1 from by omega]
      exact he2
    · have lb : b < s.heap.objs.size := by
        rcases List.mem_cons.mp hb with rfl | hb
        · exact le
        · rw [List.mem_singleton.mp hb]
          exact li
      rw [upd_ne (Nat.ne_of_lt lb)]
      exact (hf b hb).1
  done := by
    intro X hP hw hK hc i pins s σ H E I hf st hg
    subst hP hw hK
    obtain ⟨⟨old, he⟩, hit⟩ := st
    obtain ⟨xs, hq, hx⟩ := hg
    obtain ⟨its, rv, tup, _⟩ := I.tuple hq
    have hl := rv.length
    obtain ⟨f0, f1, f2, f3, f4, f5⟩ := hf it (by simp)
    have D : Draws X.prog X.w X.A.in1 it [it, a] i (fun _ _ => False) (fun j h => j = i ∧ h.IsTupleIter it a i ∧ h.IsTuple a its.toArray) := {
      live := fun j h z => let ⟨_, ⟨o, q, _⟩, _⟩ := z; ⟨o, q⟩
      frame := fun j h h' z kp => ⟨z.1, z.2.1.at fun o q => kp it (by simp) o q, z.2.2.at fun o q => kp a (by simp) o q⟩
      item := fun j s' Q E' hj z => absurd z.1 (Nat.ne_of_lt hj)
      done := fun s' Q E' z fin => wpAny_nextOf_tuple_end (I.ok.hd hc) z.2.1 z.2.2 (by simp; omega) fin }
    exact wpAny_pyNext_enum_endD D he ⟨rfl, hit, tup⟩ fun h' eb => ⟨rfl, I.turned (t' := s.toks) (fun b o hb q => eb b o hb q) f0 f1 f3 f4 f5⟩
  self := fun A i s Q E st h => let ⟨⟨_, he⟩, _⟩ := st; wpAny_pyIter_enum he h
def iEnT (K : PySem.W.Frag) (ta : TA) : TI := fun σ H R => ta σ H fun vs H1 => ∃ a xs, vs = [.ref a] ∧ SqT K H1 a xs ∧ R (ItN K a) H1
theorem pi_enumT {X : Cx} {e : Expr} {ta : TA} {p pos tpos : Pos} {elts : List Expr} {kk : Nat} (hg : Gl X "enumerate") (hm : X.mg "enumerate" = none) (ha : PA X [e] ta) (hs : starEach [e] X.env = [(false, eval e X.env)] := by rfl) :
    PI X (.Tuple elts kk tpos) (.Call (.Name "enumerate" p) [e] [] pos) (iEnT X.K ta) := by
  refine ⟨fun pins s σ H R I want => Call_ (ld_blt I hg hm boot_enumerate (PyProof.Rows.callWith_type1 (thn (ha.run pos pins s σ H _ I want) fun us s1 got => ?_) hs rfl))⟩
  obtain ⟨vs, H1, J, rel, a, xs, ex, hq, q⟩ := got
  subst ex
  obtain ⟨u, eu, r1⟩ := vals1 rel
  subst eu
  obtain rfl : u = Value.ref a := r1
  obtain ⟨its, rv, tup, _⟩ := J.tuple hq
  have la : a < s1.heap.objs.size := let ⟨_, q, _⟩ := tup; Heap.lt_size q
  refine call_enumT (items := its.toArray) tup fun h' he hit kp => wpAny_pyIter_enum he ?_
  have J2 : Inv X pins σ H1 { s1 with heap := h' } := J.kept (t' := s1.toks) kp
  refine ⟨s1.heap.objs.size + 1, [s1.heap.objs.size + 1, s1.heap.objs.size], _, _, H1, rfl, J2, turn_enumT a (s1.heap.objs.size + 1) s1.heap.objs.size (Nat.succ_ne_self _) (Nat.ne_of_lt la) (Nat.ne_of_gt (Nat.lt_succ_of_lt la)), ⟨⟨.none, he⟩, hit⟩, fun b hb => ?_, q⟩
  have lb : s1.heap.objs.size ≤ b := by
    rcases List.mem_cons.mp hb with rfl | hb
    · exact Nat.le_succ _
    · rw [List.mem_singleton.mp hb]
      exact Nat.le_refl _
  exact J.fpOk lb (J.hok.fresh lb)
theorem walk_enumT {K : PySem.W.Frag} {a : Addr} {xs : List V} : Walk (ItN K a) xs.length (fun H => SqT K H a xs) (YPair (fun i => some (.int (i : Nat))) (fun i => xs[i]?)) :=
  ⟨fun i H hi h => ⟨xs, xs[i], h, List.getElem?_eq_getElem hi⟩, fun H h => ⟨xs, h, Nat.le_refl _⟩, fun i H x H' hi h y => by
    obtain ⟨T, z, e1, e2, e3, e4⟩ := y
    exact ⟨T, _, z, e1, e2, e3, rfl, e4 xs h⟩⟩
/-! ### zip of three tuples of one length -/
def ItZ (K : PySem.W.Frag) (a b c : Addr) : It where
  go := fun i H => ∃ (xs ys zs : List V), (SqT K H a xs ∧ SqT K H b ys ∧ SqT K H c zs) ∧ i < xs.length ∧ ys.length = xs.length ∧ zs.length = xs.length
  yld := fun i H v H' => ∃ T x y z, v = .ref T ∧ H T = none ∧ H' = upd H T (.tup [x, y, z]) ∧ (∀ xs, SqT K H a xs → xs[i]? = some x) ∧ (∀ ys, SqT K H b ys → ys[i]? = some y) ∧ ∀ zs, SqT K H c zs → zs[i]? = some z
  stop := fun i H => ∃ (xs ys zs : List V), (SqT K H a xs ∧ SqT K H b ys ∧ SqT K H c zs) ∧ xs.length = i ∧ ys.length = i ∧ zs.length = i
theorem turn_zip3 {P : Program} {w : World} {K : PySem.W.Frag} {elts : List Expr} {kk : Nat} {tpos : Pos} {a b c z TI TO i1 i2 i3 : Addr} (S : ZipSep3 z TI TO i1 i2 i3 [i1, a] [i2, b] [i3, c]) (n1 : a ≠ i1) (n2 : b ≠ i2) (n3 : c ≠ i3) :
    Turn P w K (.Tuple elts kk tpos) (ItZ K a b c) [z, TI, TO, i1, i2, i3] z (fun i h => IsZip h z TI TO .none ∧ IsTupOf3 h TI (.ref i1) (.ref i2) (.ref i3) ∧ (∃ a1 a2 a3, IsTupOf3 h TO a1 a2 a3) ∧ h.IsTupleIter i1 a i ∧ h.IsTupleIter i2 b i ∧ h.IsTupleIter i3 c i) where
  mem := List.mem_cons_self
  obj := by
    rintro i h ⟨hz, hTI, ⟨a1, a2, a3, hTO⟩, ⟨o1, e1, _, d1⟩, ⟨o2, e2, _, d2⟩, ⟨o3, e3, _, d3⟩⟩ q hq
    simp only [List.mem_cons, List.not_mem_nil, or_false] at hq
    rcases hq with rfl | rfl | rfl | rfl | rfl | rfl
    · exact ⟨_, hz, fun v y => nomatch y⟩
    · exact ⟨_, hTI, fun v y => nomatch y⟩
    · exact ⟨_, hTO, fun v y => nomatch y⟩
    · exact ⟨o1, e1, fun v y => by rw [d1] at y; cases y⟩
    · exact ⟨o2, e2, fun v y => by rw [d2] at y; cases y⟩
    · exact ⟨o3, e3, fun v y => by rw [d3] at y; cases y⟩
  keep := by
    rintro i h h' ⟨hz, hTI, ⟨a1, a2, a3, hTO⟩, t1, t2, t3⟩ kp
    exact ⟨kp z (by simp) _ hz, kp TI (by simp) _ hTI, ⟨a1, a2, a3, kp TO (by simp) _ hTO⟩, t1.at fun o q => kp i1 (by simp) o q, t2.at fun o q => kp i2 (by simp) o q, t3.at fun o q => kp i3 (by simp) o q⟩
  item := by
    intro X hP hw hK hc i pins s σ H E I hf st hg
    subst hP hw hK
    obtain ⟨hz, hTI, hTO, t1, t2, t3⟩ := st
    obtain ⟨xs, ys, zs, ⟨qx, qy, qz⟩, hi, ly, lz⟩ := hg
    obtain ⟨us, ru, tu, _⟩ := I.tuple qx
    obtain ⟨vs, rv, tv, _⟩ := I.tuple qy
    obtain ⟨ws, rw', tw, _⟩ := I.tuple qz
    have lu := ru.length
    have lv := rv.length
    have lw := rw'.length
    obtain ⟨u, hu, eu⟩ := ru.get (List.getElem?_eq_getElem hi)
    obtain ⟨v, hv, ev⟩ := rv.get (List.getElem?_eq_getElem (show i < ys.length by omega))
    obtain ⟨w', hw, ew⟩ := rw'.get (List.getElem?_eq_getElem (show i < zs.length by omega))
    have W := WalksT.zipD3 (A := X.A) S (Draws.tuple (prog := X.prog) (w := X.w) (A := X.A.in1) (I.ok.hd hc) i1 a n1 us.toArray) (Draws.tuple (prog := X.prog) (w := X.w) (A := X.A.in1) (I.ok.hd hc) i2 b n2 vs.toArray) (Draws.tuple (prog := X.prog) (w := X.w) (A := X.A.in1) (I.ok.hd hc) i3 c n3 ws.toArray)
    refine W.item i s _ _ (by simp only [List.size_toArray]; omega) ⟨hz, hTI, hTO, ⟨t1, tu⟩, ⟨t2, tv⟩, ⟨t3, tw⟩⟩ fun T vals h' tk hp newT isT mid kp => ?_
    obtain ⟨y1, y2, y3, p1, p2, p3, rfl⟩ := hp
    have apart := W.apart i T h' mid
    obtain rfl : u = y1 := Option.some.inj (((by simpa using hu) : us.toArray[i]? = some u).symm.trans p1)
    obtain rfl : v = y2 := Option.some.inj (((by simpa using hv) : vs.toArray[i]? = some v).symm.trans p2)
    obtain rfl : w' = y3 := Option.some.inj (((by simpa using hw) : ws.toArray[i]? = some w').symm.trans p3)
    refine ⟨_, rfl, W.go elts kk tpos i T { s with heap := h', toks := tk } _ _ mid fun h2 st2 kp2 => ?_⟩
    obtain ⟨g1, g2, g3, ⟨g4, _⟩, ⟨g5, _⟩, ⟨g6, _⟩⟩ := st2
    have objT : ObjOk X.prog X.w (upd H T (.tup [xs[i], ys[i], zs[i]])) h2 T (.tup [xs[i], ys[i], zs[i]]) := by
      obtain ⟨ot, et, ct, nt, dt⟩ := isT
      exact ⟨by show 3 ≤ sizeLine; decide, [u, v, w'], .cons eu (.cons ev (.cons ew .nil)), ⟨ot, kp2 _ _ apart et, ct, nt, dt⟩⟩
    have J : Inv X pins σ (upd H T (.tup [xs[i], ys[i], zs[i]])) { s with heap := h2, toks := tk } := I.turnedNew (ch := [z, TI, TO, i1, i2, i3]) (fun q ob hq e => by
      simp only [List.mem_cons, List.not_mem_nil, or_false, not_or] at hq
      have nw : q ∉ [z, TO, i1, i2, i3] := by simp [hq]
      exact kp2 q ob nw (kp q ob nw e)) hf newT objT
    refine ⟨.ref T, _, J, rfl, ⟨T, _, _, _, rfl, I.hok.fresh newT, rfl, fun l hl => by rw [I.tuple_inj hl qx]; exact List.getElem?_eq_getElem hi, fun l hl => by rw [I.tuple_inj hl qy]; exact List.getElem?_eq_getElem _, fun l hl => by rw [I.tuple_inj hl qz]; exact List.getElem?_eq_getElem _⟩, ⟨g1, g2, g3, g4, g5, g6⟩, fun q hq => ?_⟩
    have lq : q < s.heap.objs.size := by
      obtain ⟨_, _, ⟨a1, a2, a3, hTO⟩⟩ := (⟨hz, hTI, hTO⟩ : _ ∧ _ ∧ _)
      obtain ⟨o1, e1, _⟩ := t1
      obtain ⟨o2, e2, _⟩ := t2
      obtain ⟨o3, e3, _⟩ := t3
      simp only [List.mem_cons, List.not_mem_nil, or_false] at hq
      rcases hq with rfl | rfl | rfl | rfl | rfl | rfl
      · exact Heap.lt_size hz
      · exact Heap.lt_size hTI
      · exact Heap.lt_size hTO
      · exact Heap.lt_size e1
      · exact Heap.lt_size e2
      · exact Heap.lt_size e3
    rw [upd_ne (Nat.ne_of_lt (Nat.lt_of_lt_of_le lq newT))]
    exact (hf q hq).1
  done := by
    intro X hP hw hK hc i pins s σ H E I hf st hg
    subst hP hw hK
    obtain ⟨hz, hTI, hTO, t1, t2, t3⟩ := st
    obtain ⟨xs, ys, zs, ⟨qx, qy, qz⟩, lx, ly, lz⟩ := hg
    obtain ⟨us, ru, tu, _⟩ := I.tuple qx
    obtain ⟨vs, rv, tv, _⟩ := I.tuple qy
    obtain ⟨ws, rw', tw, _⟩ := I.tuple qz
    have lu := ru.length
    have lv := rv.length
    have lw := rw'.length
    have W := WalksT.zipD3 (A := X.A) S (Draws.tuple (prog := X.prog) (w := X.w) (A := X.A.in1) (I.ok.hd hc) i1 a n1 us.toArray) (Draws.tuple (prog := X.prog) (w := X.w) (A := X.A.in1) (I.ok.hd hc) i2 b n2 vs.toArray) (Draws.tuple (prog := X.prog) (w := X.w) (A := X.A.in1) (I.ok.hd hc) i3 c n3 ws.toArray)
    have en : min (min us.toArray.size vs.toArray.size) ws.toArray.size = i := by simp only [List.size_toArray]; omega
    refine W.done s _ _ ?_ fun h' tk kp => ⟨rfl, ?_⟩
    · rw [en]
      exact ⟨hz, hTI, hTO, ⟨t1, tu⟩, ⟨t2, tv⟩, ⟨t3, tw⟩⟩
    · refine I.turnedL (ch := [z, TI, TO, i1, i2, i3]) (fun q ob hq e => ?_) hf
      simp only [List.mem_cons, List.not_mem_nil, or_false, not_or] at hq
      exact kp q ob (by simp [hq]) e
  self := by
    rintro A i s Q E ⟨hz, _⟩ h
    exact wpAny_pyIter_zip hz h
def iZip3 (K : PySem.W.Frag) (ta : TA) : TI := fun σ H R => ta σ H fun vs H1 => ∃ a b c xs ys zs, vs = [.ref a, .ref b, .ref c] ∧ SqT K H1 a xs ∧ SqT K H1 b ys ∧ SqT K H1 c zs ∧ R (ItZ K a b c) H1
theorem pi_zip3 {X : Cx} {e e2 e3 : Expr} {ta : TA} {p pos tpos : Pos} {elts : List Expr} {kk : Nat} (hg : Gl X "zip") (hm : X.mg "zip" = none) (ha : PA X [e, e2, e3] ta) (hs : starEach [e, e2, e3] X.env = (false, eval e X.env) :: starEach [e2, e3] X.env := by rfl)
    (hpl : (backTo pos (starEach [e2, e3] X.env)).any (·.1) = false := by rfl) : PI X (.Tuple elts kk tpos) (.Call (.Name "zip" p) [e, e2, e3] [] pos) (iZip3 X.K ta) := by
  refine ⟨fun pins s σ H R I want => Call_ (ld_blt I hg hm PyProof.Rows.boot_zip (PyProof.Rows.callWith_type1 (thn (ha.run pos pins s σ H _ I want) fun us s1 got => ?_) hs hpl))⟩
  obtain ⟨vs, H1, J, rel, a, b, c, xs, ys, zs, ex, qa, qb, qc, q⟩ := got
  subst ex
  cases rel with
  | cons r1 rel =>
    cases rel with
    | cons r2 rel =>
      cases rel with
      | cons r3 rel =>
        cases rel
        cases r1
        cases r2
        cases r3
        obtain ⟨u1, _, t1, _⟩ := J.tuple qa
        obtain ⟨u2, _, t2, _⟩ := J.tuple qb
        obtain ⟨u3, _, t3, _⟩ := J.tuple qc
        have la : a < s1.heap.objs.size := let ⟨_, y, _⟩ := t1; Heap.lt_size y
        have lb : b < s1.heap.objs.size := let ⟨_, y, _⟩ := t2; Heap.lt_size y
        have lc : c < s1.heap.objs.size := let ⟨_, y, _⟩ := t3; Heap.lt_size y
        refine zip_begins3 (begins_tuple a u1.toArray) (begins_tuple b u2.toArray) (begins_tuple c u3.toArray) t1 t2 t3 fun h' hz hTI hTO g1 g2 g3 _ kp => wpAny_pyIter_zip hz ?_
        have J2 : Inv X pins σ H1 { s1 with heap := h' } := J.kept (t' := s1.toks) kp
        have S := zip_sep3 (N := s1.heap.objs.size) (fp1 := [a]) (fp2 := [b]) (fp3 := [c]) (fun y hy => by rw [List.mem_singleton.mp hy]; exact la) (fun y hy => by rw [List.mem_singleton.mp hy]; exact lb) (fun y hy => by rw [List.mem_singleton.mp hy]; exact lc)
        refine ⟨s1.heap.objs.size + 5, [s1.heap.objs.size + 5, s1.heap.objs.size + 3, s1.heap.objs.size + 4, s1.heap.objs.size, s1.heap.objs.size + 1, s1.heap.objs.size + 2], _, _, H1, rfl, J2, turn_zip3 S (Nat.ne_of_lt la) (Nat.ne_of_lt (Nat.lt_succ_of_lt lb)) (Nat.ne_of_lt (Nat.lt_succ_of_lt (Nat.lt_succ_of_lt lc))), ⟨hz, hTI, ⟨_, _, _, hTO⟩, ⟨_, g1, rfl, rfl⟩, ⟨_, g2, rfl, rfl⟩, ⟨_, g3, rfl, rfl⟩⟩, fun y hy => ?_, q⟩
        have ly : s1.heap.objs.size ≤ y := by
          simp only [List.mem_cons, List.not_mem_nil, or_false] at hy
          rcases hy with rfl | rfl | rfl | rfl | rfl | rfl
          · exact Nat.le_add_right _ _
          · exact Nat.le_add_right _ _
          · exact Nat.le_add_right _ _
          · exact Nat.le_refl _
          · exact Nat.le_add_right _ _
          · exact Nat.le_add_right _ _
        exact J.fpOk ly (J.hok.fresh ly)
/-! ### len(set(t)) of a tuple of ints -/
theorem sub_len : ∀ {ks ns : List Int}, ks.Nodup → (∀ x ∈ ks, x ∈ ns) → ks.length ≤ ns.length
  | [], _, _, _ => Nat.zero_le _
  | k :: ks, ns, nd, h => by
    rw [List.nodup_cons] at nd
    have hk := h k (by simp)
    have q := sub_len (ks := ks) (ns := ns.erase k) nd.2 fun x hx => (List.mem_erase_of_ne (fun z => nd.1 (by rw [← z]; exact hx))).mpr (h x (List.mem_cons_of_mem _ hx))
    rw [List.length_erase_of_mem hk] at q
    have : 0 < ns.length := List.length_pos_of_mem hk
    rw [List.length_cons]
    omega
theorem twice : ∀ {ns : List Int}, ¬ ns.Nodup → ∃ x, x ∈ ns ∧ x ∈ ns.erase x
  | [], h => absurd List.nodup_nil h
  | y :: l, h => by
    by_cases hy : y ∈ l
    · exact ⟨y, by simp, by rw [List.erase_cons_head]; exact hy⟩
    · have hl : ¬ l.Nodup := fun z => h (List.nodup_cons.mpr ⟨hy, z⟩)
      obtain ⟨x, h1, h2⟩ := twice hl
      refine ⟨x, List.mem_cons_of_mem _ h1, ?_⟩
      have ne : y ≠ x := fun z => hy (by rw [z]; exact h1)
      rw [List.erase_cons_tail (by simpa using ne)]
      exact List.mem_cons_of_mem _ h2
theorem many_iff {ks ns : List Int} (nd : ks.Nodup) (h : ∀ x, x ∈ ns ↔ x ∈ ks) : ks.length = ns.length ↔ ns.Nodup := by
  constructor
  · intro e
    by_cases hn : ns.Nodup
    · exact hn
    · obtain ⟨x, h1, h2⟩ := twice hn
      have q := sub_len (ns := ns.erase x) nd fun y hy => by
        by_cases e2 : y = x
        · rw [e2]
          exact h2
        · exact (List.mem_erase_of_ne e2).mpr ((h y).mpr hy)
      rw [List.length_erase_of_mem h1] at q
      have : 0 < ns.length := List.length_pos_of_mem h1
      omega
  · intro hn
    have q1 := sub_len nd fun y hy => (h y).mpr hy
    have q2 := sub_len hn fun y hy => (h y).mp hy
    omega
def tLenSet (K : PySem.W.Frag) (ta : TE) : TE := fun σ H Q => ta σ H fun x H1 => ∃ (l : Addr) (ns : List Int), x = .ref l ∧ SqT K H1 l (ns.map V.int) ∧ ns.length ≤ 4000 ∧ ∀ c : Nat, (c = ns.length ↔ ns.Nodup) → Q (.int c) H1
theorem pe_lenSetT {X : Cx} {a : Expr} {ta : TE} {p p2 q pos : Pos} (hg : Gl X "len") (hm : X.mg "len" = none) (hg2 : Gl X "set") (hm2 : X.mg "set" = none) (ha : PE X a ta) (hc : X.calm = true := by rfl)
    (na : starEach [a] X.env = (false, eval a X.env) :: starEach [] X.env := by rfl) : PE X (.Call (.Name "len" p) [.Call (.Name "set" p2) [a] [] q] [] pos) (tLenSet X.K ta) := by
  refine ⟨fun pins s σ H Q I want => Call_ (ld_blt I hg hm PySem.boot_len (PyProof.Rows.callWith_builtin1 (PyProof.Rows.args_cons (Call_ (ld_blt I hg2 hm2 PyProof.Rows.boot_set (PyProof.Rows.callWith_type1 (PyProof.Rows.args_cons (thn (ha.run pins s σ H _ I want) fun v s1 got => PyProof.Rows.args_nil ?_) na) na rfl))) rfl) rfl rfl))⟩
  obtain ⟨x, H1, J, r1, l, ns, ex, hq, hl, q1⟩ := got
  subst ex
  obtain rfl : v = Value.ref l := r1
  obtain ⟨its, rel, tup, _⟩ := J.tuple hq
  refine call_set_tupI ns (J.ok.hd hc) tup (by simpa using rel.ints) (by unfold scanBound; omega) fun h' tk c hS hcl kp => PyProof.Rows.args_nil ?_
  obtain ⟨o, es, ep, t, ho, hex, hd, _, nd, mem, _, hf, hn, _⟩ := hS
  have J2 : Inv X pins σ H1 { s1 with heap := h', toks := tk } := J.kept kp
  have len : (es.toList.map keyOf).length = c := by rw [List.length_map, Array.length_toList, hn]
  have key : c = ns.length ↔ ns.Nodup := by
    rw [← len]
    refine many_iff nd fun y => ?_
    rw [← mem y, decide_eq_true_iff]
  exact call_len_set ho hex hd hf (by omega) ⟨.int c, H1, J2.tok _, ⟨_, by rw [hn]⟩, q1 c key⟩
/-! ### t[::-1] of a tuple -/
theorem fm_congr {α β : Type} {f g : α → Option β} : ∀ {l : List α}, (∀ x ∈ l, f x = g x) → l.filterMap f = l.filterMap g
  | [], _ => rfl
  | x :: l, h => by
    rw [List.filterMap_cons, List.filterMap_cons, h x (by simp), fm_congr (l := l) fun y hy => h y (List.mem_cons_of_mem _ hy)]
theorem back_pick (items : Array Value) : ((List.range items.size).filterMap fun (k : Nat) => items[((items.size : Int) - 1 + (k : Int) * (-1)).toNat]?).toArray = items.toList.reverse.toArray := by
  have e : (List.range items.size).filterMap (fun (k : Nat) => items[((items.size : Int) - 1 + (k : Int) * (-1)).toNat]?) = ((List.range items.size).map fun k => items.size - 1 - k).filterMap (items[·]?) := by
    rw [List.filterMap_map]
    refine fm_congr fun k hk => ?_
    have := List.mem_range.mp hk
    show _ = items[items.size - 1 - k]?
    congr 1
    omega
  rw [e, PySem.W.krv_range, List.filterMap_reverse, PySem.W.krv_all]
section
variable {P : Program} {w : World} {A : PySem.Around} {E : Value → Shared → Prop} {s : Shared}
theorem applied_back {sl : Addr} {vk : Value} {n : Nat} {Q : Int × Int × Nat → Shared → Prop} (hs : s.heap.IsSliceOf sl .none .none vk) (pk : IsPart vk (some (-1))) (h : Q ((n : Int) - 1, -1, n) s) : wpAny (model P w) A (Builtin.Slice.sliceApplied (.ref sl) (pure (n : Int))) Q E s := by
  obtain ⟨os, look, _, flds⟩ := id hs
  unfold Builtin.Slice.sliceApplied Builtin.Slice.sliceFields
  refine wpAny_bind (wpAny_bind (wpAny_field look flds (x := .none) rfl (wpAny_bind (wpAny_field look flds (x := .none) rfl (wpAny_bind (wpAny_field look flds (x := vk) rfl (wpAny_pure ?_)))))))
  refine wpAny_bind (HT.slicePart_ pk ?_)
  show wpAny _ _ (if ((-1 : Int) == 0) = true then _ else _) _ _ s
  rw [if_neg (by decide)]
  refine wpAny_bind (HT.slicePart_ .none (wpAny_bind (HT.slicePart_ .none (wpAny_bind (wpAny_pure ?_)))))
  have pl : Builtin.Slice.slicePlaces ((n : Int) - 1) (-1) (-1) = n := by
    unfold Builtin.Slice.slicePlaces
    rw [if_neg (by decide)]
    by_cases z : (n : Int) - 1 > -1
    · rw [if_pos z, show (-(-1) : Int) = 1 from by decide, Int.ediv_one]
      omega
    · rw [if_neg z]
      omega
  show wpAny _ _ (pure ((n : Int) - 1, (-1 : Int), Builtin.Slice.slicePlaces ((n : Int) - 1) (-1) (-1))) _ _ s
  rw [pl]
  exact wpAny_pure h
theorem getItem_back {t sl : Addr} {items : Array Value} {vk : Value} {Q : Value → Shared → Prop} (ht : IsTup s.heap t items) (hs : s.heap.IsSliceOf sl .none .none vk) (pk : IsPart vk (some (-1))) (hsz : items.size ≤ sizeLine)
    (h : Q (.ref s.heap.objs.size) { s with heap := s.heap.push { cls := .type "tuple", data := .seq items.toList.reverse.toArray } }) : wpAny (model P w) A (getItem (.ref t) (.ref sl)) Q E s := by
  have small : sizeOk (.seq items.toList.reverse.toArray) := by
    show items.toList.reverse.toArray.size ≤ sizeLine
    rw [List.size_toArray, List.length_reverse, Array.length_toList]
    exact hsz
  obtain ⟨os, look, kind, _⟩ := id hs
  have isSl : s.TypeIs (.ref sl) "slice" := ⟨os, look, kind⟩
  unfold getItem
  try with_reducible refine wpAny_holding ?_
  first | refine wpAny_bind (wpAny_pure ?_) | skip
  refine wpAny_bind (wpAny_sequenceKey ht.typeIs (by decide) ?_)
  refine wpAny_bind (wpAny_callSpecial?_slot (name := Str.ofString "__getitem__") ht.typeIs PyProof.Rows.slot_tuple_getitem (wpAny_call_entry PyProof.Rows.slot_tuple_getitem ht.typeIs PySem.F.entry_tuple_getitem ?_ (PySem.F.args_tuple_getitem_2 _ _)))
  show wpAny _ _ (Builtin.Tuple.tupleItemsOf (.ref t) >>= _) _ _ s
  refine wpAny_bind (tupleItemsOf_ ht ?_)
  refine wpAny_bind (wpAny_typeOf isSl ?_)
  rw [if_pos (by decide)]
  refine wpAny_bind (applied_back hs pk ?_)
  have no : ¬ (((items.size : Int) - 1 == 0 && (-1 : Int) == 1 && items.size == items.size) = true) := by
    intro z
    rw [Bool.and_eq_true, Bool.and_eq_true] at z
    exact absurd z.1.2 (by decide)
  show wpAny _ _ (if ((items.size : Int) - 1 == 0 && (-1 : Int) == 1 && items.size == items.size) = true then _ else _) _ _ s
  rw [if_neg no, back_pick]
  first
    | exact wpAny_bind (m := Builtin.Tuple.tupleExact _) (wpAny_newObj_type (wpAny_pure ⟨_, rfl, wpAny_pure h⟩) small)
    | exact wpAny_bind (wpAny_bind (m := Builtin.Tuple.tupleExact _) (wpAny_newObj_type (wpAny_pure (wpAny_pure ⟨_, rfl, wpAny_pure h⟩)) small))
    | exact wpAny_bind (m := Builtin.Tuple.tupleExact _) (wpAny_newObj_type (wpAny_bind (wpAny_pure (wpAny_pure ⟨_, rfl, wpAny_pure h⟩))) small)
end
def tRevT (K : PySem.W.Frag) (te : TE) : TE := fun σ H Q => te σ H fun x H1 => ∃ a xs, x = .ref a ∧ SqT K H1 a xs ∧ ∀ p, H1 p = none → Q (.ref p) (upd H1 p (.tup xs.reverse))
theorem pe_revT {X : Cx} {e : Expr} {te : TE} {k : Nat} {p1 p2 p3 pos : Pos} (he : PE X e te) : PE X (.Subscript e (.Slice none none (some (.UnaryOp .USub (.Constant (.int 1) k p1) p2)) p3) pos) (tRevT X.K te) := by
  refine ⟨fun pins s σ H Q I want => Subscript_ (thn (he.run pins s σ H _ I want) fun v s1 got => ?_)⟩
  obtain ⟨x, H1, I1, r1, a, xs, ex, hx, q⟩ := got
  subst ex
  obtain rfl : v = Value.ref a := r1
  have step : PO X (some (.UnaryOp .USub (.Constant (.int 1) k p1) p2)) (tPart (tUn (rU fun i => .int (-i)) (tC (.int 1)))) := po_some (pe_un un_neg pe_int)
  refine wpAny_Slice (thn (po_none.run pins s1 σ H1 (fun o H2 => o = none ∧ H2 = H1) I1 ⟨rfl, rfl⟩) fun vl s2 got2 => ?_)
  obtain ⟨_, _, I2, pl, rfl, rfl⟩ := got2
  refine thn (po_none.run pins s2 σ _ (fun o H3 => o = none ∧ H3 = _) I2 ⟨rfl, rfl⟩) fun vu s3 got3 => ?_
  obtain ⟨_, _, I3, pu, rfl, rfl⟩ := got3
  refine thn (step.run pins s3 σ _ (fun o H4 => o = some (-1) ∧ H4 = _) I3 ⟨1, rfl, -1, rfl, rfl, rfl⟩) fun vk s4 got4 => ?_
  obtain ⟨_, H4, I4, pk, rfl, rfl⟩ := got4
  cases pl
  cases pu
  have I5 : Inv X pins σ H4 { s4 with heap := s4.heap.push { cls := .type "slice", data := .fields #[.none, .none, vk] } } := I4.kept (t' := s4.toks) fun b ob z => Heap.get?_push_of_some _ z
  obtain ⟨its, rel, tup, small⟩ := I5.tuple hx
  have hlen := rel.length
  show wpAny (model X.prog X.w) X.A (subscriptTail e (.Slice none none (some (.UnaryOp .USub (.Constant (.int 1) k p1) p2)) p3) (.ref a) (.ref s4.heap.objs.size)) (EP X pins σ Q) X.xe _
  refine tail_any (ops := [.ref a, .ref s4.heap.objs.size]) tup.typeIs PyProof.Rows.slot_tuple_getitem.lookup ?_ (by with_unfolding_all rfl)
  refine getItem_back tup (Heap.IsSliceOf.new _ .none .none vk) pk (by rw [List.size_toArray]; omega) ?_
  refine ⟨.ref _, _, I5.laid (t' := s4.toks) (o := .tup xs.reverse) (fun b ob z => Heap.get?_push_of_some _ z) (Nat.le_refl _) ?_, rfl, q _ (I5.hok.fresh (Nat.le_refl _))⟩
  exact ⟨by rw [List.length_reverse]; exact small, _, rel.reverse, IsTup.new _ _⟩
/-! ### ties, walks, parts: the mathematics -/
def Adj (ts : List Tie) (a b : Int) (foe : Bool) : Prop := ∃ t ∈ ts, t.foe = foe ∧ ((t.one = a ∧ t.other = b) ∨ (t.one = b ∧ t.other = a))
theorem Adj.symm {ts : List Tie} {a b : Int} {k : Bool} (h : Adj ts a b k) : Adj ts b a k := by
  obtain ⟨t, ht, e, h⟩ := h
  exact ⟨t, ht, e, h.symm⟩
/-- a walk with so many foes, even or odd -/
inductive RP (ts : List Tie) (a : Int) : Int → Bool → Prop
  | nil : RP ts a a false
  | step {b c : Int} {p k : Bool} : RP ts a b p → Adj ts b c k → RP ts a c (p ^^ k)
def Rch (ts : List Tie) (a b : Int) : Prop := ∃ p, RP ts a b p
theorem RP.trans {ts : List Tie} {a b c : Int} {p q : Bool} (h : RP ts a b p) (g : RP ts b c q) : RP ts a c (p ^^ q) := by
  induction g with
  | nil =>
    rw [Bool.xor_false]
    exact h
  | step _ k ih =>
    rw [← Bool.xor_assoc]
    exact ih.step k
theorem RP.one {ts : List Tie} {a b : Int} {k : Bool} (h : Adj ts a b k) : RP ts a b k := by
  have q := RP.nil.step h
  rw [Bool.false_xor] at q
  exact q
theorem RP.symm {ts : List Tie} {a b : Int} {p : Bool} (h : RP ts a b p) : RP ts b a p := by
  induction h with
  | nil => exact .nil
  | step _ k ih =>
    have q := (RP.one k.symm).trans ih
    rw [Bool.xor_comm] at q
    exact q
theorem Rch.refl {ts : List Tie} {a : Int} : Rch ts a a := ⟨_, .nil⟩
theorem Rch.symm {ts : List Tie} {a b : Int} (h : Rch ts a b) : Rch ts b a := by
  obtain ⟨p, h⟩ := h
  exact ⟨p, h.symm⟩
theorem Rch.trans {ts : List Tie} {a b c : Int} (h : Rch ts a b) (g : Rch ts b c) : Rch ts a c := by
  obtain ⟨p, h⟩ := h
  obtain ⟨q, g⟩ := g
  exact ⟨_, h.trans g⟩
theorem Rch.adj {ts : List Tie} {a b : Int} {k : Bool} (h : Adj ts a b k) : Rch ts a b := ⟨_, RP.one h⟩
theorem Rch.ind {ts : List Tie} {a b : Int} (C : Int → Prop) (h : Rch ts a b) (h0 : C a) (hs : ∀ x y k, C x → Adj ts x y k → C y) : C b := by
  obtain ⟨p, h⟩ := h
  induction h with
  | nil => exact h0
  | step _ k ih => exact hs _ _ _ ih k
theorem Adj.rng {ts : List Tie} {n a b : Int} {k : Bool} (ok : ∀ t ∈ ts, TieOk n t) (h : Adj ts a b k) : 0 ≤ b ∧ b < n := by
  obtain ⟨t, ht, _, h⟩ := h
  obtain ⟨h1, h2, h3, h4, _⟩ := ok t ht
  rcases h with ⟨e1, e2⟩ | ⟨e1, e2⟩
  · omega
  · omega
theorem Rch.rng {ts : List Tie} {n a b : Int} (ok : ∀ t ∈ ts, TieOk n t) (ha : 0 ≤ a ∧ a < n) (h : Rch ts a b) : 0 ≤ b ∧ b < n := h.ind (fun x => 0 ≤ x ∧ x < n) ha fun _ _ _ _ k => k.rng ok
def leader (ts : List Tie) (s : Int) : Prop := ∀ q, Rch ts s q → s ≤ q
/-- rising lists of the same numbers are one -/
theorem rising_ext : ∀ {xs ys : List Int}, xs.Pairwise (· < ·) → ys.Pairwise (· < ·) → (∀ z, z ∈ xs ↔ z ∈ ys) → xs = ys
  | [], [], _, _, _ => rfl
  | [], y :: ys, _, _, h => by have := (h y).mpr (by simp); simp at this
  | x :: xs, [], _, _, h => by have := (h x).mp (by simp); simp at this
  | x :: xs, y :: ys, hx, hy, h => by
    rw [List.pairwise_cons] at hx hy
    have e : x = y := by
      have h1 := (h x).mp (by simp)
      have h2 := (h y).mpr (by simp)
      rcases List.mem_cons.mp h1 with e | e
      · exact e
      · rcases List.mem_cons.mp h2 with e' | e'
        · exact e'.symm
        · have := hx.1 y e'
          have := hy.1 x e
          omega
    subst e
    rw [rising_ext hx.2 hy.2 fun z => ?_]
    constructor
    · intro hz
      rcases List.mem_cons.mp ((h z).mp (List.mem_cons_of_mem _ hz)) with e | e
      · have := hx.1 z hz
        omega
      · exact e
    · intro hz
      rcases List.mem_cons.mp ((h z).mpr (List.mem_cons_of_mem _ hz)) with e | e
      · have := hy.1 z hz
        omega
      · exact e
/-- 0, 1, .., n - 1 -/
def rng (n : Nat) : List Int := (List.range n).map fun (i : Nat) => (i : Int)
theorem mem_rng {n : Nat} {z : Int} : z ∈ rng n ↔ 0 ≤ z ∧ z < n := by
  unfold rng
  rw [List.mem_map]
  constructor
  · rintro ⟨i, hi, rfl⟩
    have := List.mem_range.mp hi
    omega
  · rintro ⟨h1, h2⟩
    exact ⟨z.toNat, List.mem_range.mpr (by omega), by omega⟩
theorem rng_rising (n : Nat) : (rng n).Pairwise (· < ·) := by
  unfold rng
  rw [List.pairwise_map]
  exact List.pairwise_lt_range.imp (by intro a b h; omega)
theorem rng_succ (n : Nat) : rng (n + 1) = rng n ++ [(n : Int)] := by
  unfold rng
  rw [List.range_succ, List.map_append]
  rfl
theorem rng_length (n : Nat) : (rng n).length = n := by
  unfold rng
  rw [List.length_map, List.length_range]
open Classical in
/-- the part of s -/
noncomputable def partOf (ts : List Tie) (n : Nat) (s : Int) : List Int := (rng n).filter fun p => decide (Rch ts s p)
open Classical in
/-- the parts by their first places, below i -/
noncomputable def partsTo (ts : List Tie) (n i : Nat) : List (List Int) := ((rng i).filter fun s => decide (leader ts s)).map (partOf ts n)
open Classical in
theorem partsTo_succ (ts : List Tie) (n i : Nat) : partsTo ts n (i + 1) = partsTo ts n i ++ (if leader ts i then [partOf ts n i] else []) := by
  unfold partsTo
  rw [rng_succ, List.filter_append, List.map_append]
  congr 1
  by_cases h : leader ts (i : Int)
  · rw [if_pos h, List.filter_cons, if_pos (decide_eq_true h)]
    rfl
  · rw [if_neg h, List.filter_cons, if_neg (by simpa using h)]
    rfl
theorem part_rising (ts : List Tie) (n : Nat) (s : Int) : (partOf ts n s).Pairwise (· < ·) := (rng_rising n).filter _
theorem mem_part {ts : List Tie} {n : Nat} {s z : Int} : z ∈ partOf ts n s ↔ (0 ≤ z ∧ z < n) ∧ Rch ts s z := by
  unfold partOf
  rw [List.mem_filter, mem_rng]
  simp
/-! ### the least place that each comes to, gone over again and again -/
def relax (f : Int → Int) (t : Tie) : Int → Int := fun x => if x = t.one ∨ x = t.other then min (f t.one) (f t.other) else f x
def rounds (ts : List Tie) : Nat → Int → Int
  | 0 => fun x => x
  | r + 1 => ts.foldl relax (rounds ts r)
theorem relax_le (f : Int → Int) (t : Tie) (x : Int) : relax f t x ≤ f x := by
  unfold relax
  split
  · rename_i h
    rcases h with rfl | rfl <;> omega
  · exact Int.le_refl _
theorem fold_le : ∀ (l : List Tie) (f : Int → Int) (x : Int), l.foldl relax f x ≤ f x
  | [], _, _ => Int.le_refl _
  | t :: l, f, x => Int.le_trans (fold_le l (relax f t) x) (relax_le f t x)
theorem fold_tie : ∀ (l : List Tie) (f : Int → Int) (t : Tie), t ∈ l → l.foldl relax f t.one ≤ min (f t.one) (f t.other) ∧ l.foldl relax f t.other ≤ min (f t.one) (f t.other)
  | t' :: l, f, t, h => by
    rcases List.mem_cons.mp h with e | e
    · subst e
      have h1 := fold_le l (relax f t) t.one
      have h2 := fold_le l (relax f t) t.other
      have e1 : relax f t t.one = min (f t.one) (f t.other) := by unfold relax; rw [if_pos (.inl rfl)]
      have e2 : relax f t t.other = min (f t.one) (f t.other) := by unfold relax; rw [if_pos (.inr rfl)]
      rw [e1] at h1
      rw [e2] at h2
      exact ⟨h1, h2⟩
    · have ih := fold_tie l (relax f t') t e
      have h1 := relax_le f t' t.one
      have h2 := relax_le f t' t.other
      exact ⟨Int.le_trans ih.1 (by omega), Int.le_trans ih.2 (by omega)⟩
theorem fold_rch {ts : List Tie} : ∀ (l : List Tie) (f : Int → Int), (∀ t ∈ l, t ∈ ts) → (∀ x, Rch ts x (f x)) → ∀ x, Rch ts x (l.foldl relax f x)
  | [], _, _, h => h
  | t :: l, f, hl, h => fold_rch l (relax f t) (fun t' ht => hl t' (List.mem_cons_of_mem _ ht)) fun x => by
    have ad : Rch ts t.one t.other := Rch.adj (k := t.foe) ⟨t, hl t (by simp), rfl, .inl ⟨rfl, rfl⟩⟩
    unfold relax
    split
    · rename_i hx
      have key : Rch ts x t.one ∧ Rch ts x t.other := by
        rcases hx with e | e <;> subst e
        · exact ⟨Rch.refl, ad⟩
        · exact ⟨ad.symm, Rch.refl⟩
      rcases Int.le_total (f t.one) (f t.other) with q | q
      · rw [Int.min_eq_left q]
        exact key.1.trans (h _)
      · rw [Int.min_eq_right q]
        exact key.2.trans (h _)
    · exact h x
theorem rounds_rch (ts : List Tie) : ∀ (r : Nat) (x : Int), Rch ts x (rounds ts r x)
  | 0, _ => Rch.refl
  | r + 1, x => fold_rch ts _ (fun _ h => h) (rounds_rch ts r) x
theorem filter_lt {p q : Int → Bool} : ∀ {l : List Int}, (∀ x ∈ l, q x = true → p x = true) → (∃ x ∈ l, p x = true ∧ q x = false) → (l.filter q).length < (l.filter p).length
  | [], _, ⟨x, hx, _⟩ => by simp at hx
  | y :: l, hi, ⟨x, hx, hp, hq⟩ => by
    have mono : (l.filter q).length ≤ (l.filter p).length := by
      have hi' : ∀ x ∈ l, q x = true → p x = true := fun x h => hi x (List.mem_cons_of_mem _ h)
      clear hi hx hp hq
      induction l with
      | nil => exact Nat.le_refl _
      | cons z l ih =>
        have ih := ih fun x h => hi' x (List.mem_cons_of_mem _ h)
        rw [List.filter_cons, List.filter_cons]
        have hz := hi' z (by simp)
        cases h1 : q z <;> cases h2 : p z <;> simp_all <;> omega
    rw [List.filter_cons, List.filter_cons]
    rcases List.mem_cons.mp hx with e | e
    · subst e
      rw [hq, hp]
      simp
      omega
    · have ih := filter_lt (l := l) (fun x h => hi x (List.mem_cons_of_mem _ h)) ⟨x, e, hp, hq⟩
      have hy := hi y (by simp)
      cases h1 : q y <;> cases h2 : p y <;> simp_all <;> omega
open Classical in
/-- behind as many rounds as there are places each has its part's least place -/
theorem rounds_least {ts : List Tie} {n : Nat} (ok : ∀ t ∈ ts, TieOk n t) {m p : Int} (hm : leader ts m) (h0 : 0 ≤ m ∧ m < n) (hp : Rch ts m p) : rounds ts n p = m := by
  have ge : ∀ r x, Rch ts m x → m ≤ rounds ts r x := fun r x hx => hm _ (hx.trans (rounds_rch ts r x))
  have mono : ∀ r x, rounds ts (r + 1) x ≤ rounds ts r x := fun r x => fold_le ts _ x
  have atm : ∀ r, rounds ts r m = m := fun r => by
    have h1 := ge r m Rch.refl
    have h2 : rounds ts r m ≤ m := by
      induction r with
      | zero => exact Int.le_refl _
      | succ r ih => exact Int.le_trans (mono r m) (ih (ge r m Rch.refl))
    omega
  have cnt : ∀ r, ((rng n).filter fun x => decide (Rch ts m x ∧ rounds ts r x ≠ m)).length ≤ n - r := fun r => by
    induction r with
    | zero =>
      refine Nat.le_trans (List.length_filter_le _ _) ?_
      rw [rng_length]
      omega
    | succ r ih =>
      by_cases hex : ∃ x, Rch ts m x ∧ rounds ts r x ≠ m
      · obtain ⟨x, hx, hne⟩ := hex
        -- an edge over which it comes
        have edge : ∃ a b k, Rch ts m a ∧ rounds ts r a = m ∧ Adj ts a b k ∧ rounds ts r b ≠ m := by
          by_cases hn : ∃ a b k, Rch ts m a ∧ rounds ts r a = m ∧ Adj ts a b k ∧ rounds ts r b ≠ m
          · exact hn
          · exfalso
            refine hne (hx.ind (fun y => Rch ts m y ∧ rounds ts r y = m) ⟨Rch.refl, atm r⟩ fun a b k ha k' => ⟨ha.1.trans (Rch.adj k'), ?_⟩).2
            by_cases hb : rounds ts r b = m
            · exact hb
            · exact absurd ⟨a, b, k, ha.1, ha.2, k', hb⟩ hn
        obtain ⟨a, b, k, ha, ha2, hab, hb⟩ := edge
        have hmb : Rch ts m b := ha.trans (Rch.adj hab)
        have hb' : rounds ts (r + 1) b = m := by
          have h1 := ge (r + 1) b hmb
          obtain ⟨t, ht, _, h⟩ := hab
          have ft := fold_tie ts (rounds ts r) t ht
          have h2 : rounds ts (r + 1) b ≤ m := by
            rcases h with ⟨e1, e2⟩ | ⟨e1, e2⟩
            · have q := ft.2
              rw [e1, e2, ha2] at q
              exact Int.le_trans q (by omega)
            · have q := ft.1
              rw [e1, e2, ha2] at q
              exact Int.le_trans q (by omega)
          omega
        have lt := filter_lt (p := fun x => decide (Rch ts m x ∧ rounds ts r x ≠ m)) (q := fun x => decide (Rch ts m x ∧ rounds ts (r + 1) x ≠ m)) (l := rng n) (fun x _ hq => by
          have hq := of_decide_eq_true hq
          refine decide_eq_true ⟨hq.1, fun z => hq.2 ?_⟩
          have h1 := ge (r + 1) x hq.1
          have h2 := mono r x
          omega) ⟨b, mem_rng.mpr (hmb.rng ok h0), decide_eq_true ⟨hmb, hb⟩, decide_eq_false fun z => z.2 hb'⟩
        omega
      · have e : (rng n).filter (fun x => decide (Rch ts m x ∧ rounds ts (r + 1) x ≠ m)) = [] := by
          rw [List.filter_eq_nil_iff]
          intro x _ hq
          have hq := of_decide_eq_true hq
          refine hex ⟨x, hq.1, fun z => hq.2 ?_⟩
          have h1 := ge (r + 1) x hq.1
          have h2 := mono r x
          omega
        rw [e]
        exact Nat.zero_le _
  have c := cnt n
  rw [Nat.sub_self] at c
  have e := List.eq_nil_of_length_eq_zero (Nat.le_zero.mp c)
  by_cases hne : rounds ts n p = m
  · exact hne
  · rw [List.filter_eq_nil_iff] at e
    exact absurd (decide_eq_true ⟨hp, hne⟩) (e p (mem_rng.mpr (hp.rng ok h0)))
open Classical in
/-- each has a least place -/
theorem has_leader {ts : List Tie} {n : Nat} (ok : ∀ t ∈ ts, TieOk n t) {p : Int} (h0 : 0 ≤ p ∧ p < n) : ∃ m, leader ts m ∧ (0 ≤ m ∧ m < n) ∧ Rch ts m p := by
  have key : ∀ (k : Nat) (x : Int), x = k → Rch ts p x → ∃ m, leader ts m ∧ (0 ≤ m ∧ m < n) ∧ Rch ts m p := by
    intro k
    induction k using Nat.strongRecOn with
    | ind k ih =>
      intro x hx hr
      have hxr := hr.rng ok h0
      by_cases hl : leader ts x
      · exact ⟨x, hl, hxr, hr.symm⟩
      · have hl' : ∃ q, Rch ts x q ∧ q < x := by
          by_cases h : ∃ q, Rch ts x q ∧ q < x
          · exact h
          · exfalso
            refine hl fun q hq => ?_
            by_cases h' : q < x
            · exact absurd ⟨q, hq, h'⟩ h
            · omega
        obtain ⟨q, hq, hlt⟩ := hl'
        have hqr := hq.rng ok hxr
        exact ih q.toNat (by omega) q (by omega) (hr.trans hq)
  exact key p.toNat p (by omega) Rch.refl
/-! ### rows of numbers as data -/
def IntsV (H : Hp) (v : V) (xs : List Int) : Prop := ∃ b, v = .ref b ∧ H b = some (.tup (xs.map V.int))
theorem IntsV.tk {H H' : Hp} (k : Tk H H') {v : V} {xs : List Int} (h : IntsV H v xs) : IntsV H' v xs := by
  obtain ⟨a, rfl, e⟩ := h
  exact ⟨a, rfl, k _ _ e⟩
def intsD (xs : List Int) : PyData := .tuple (xs.map PyData.int)
section
variable {K : PySem.W.Frag} {H : Hp}
theorem dp_ints : ∀ (xs : List Int), DpAll K H (xs.map V.int) (xs.map PyData.int)
  | [] => .nil
  | x :: xs => .cons (.int x) (dp_ints xs)
theorem IntsV.dp {v : V} {xs : List Int} (h : IntsV H v xs) : Dp K H v (intsD xs) := by
  obtain ⟨b, rfl, e⟩ := h
  exact .tup (SqT.of e) (dp_ints xs)
end
theorem lay_ints : ∀ xs : List Int, PyData.canLayAll0 (xs.map PyData.int) = true
  | [] => by simp [PyData.canLayAll0]
  | x :: xs => by simp [PyData.canLayAll0, PyData.canLay0, lay_ints xs]
theorem deep_ints : ∀ xs : List Int, PyData.depthAll (xs.map PyData.int) = 0
  | [] => by simp [PyData.depthAll]
  | x :: xs => by simp [PyData.depthAll, PyData.depth, deep_ints xs]
theorem lay_intsD (xs : List Int) : (intsD xs).canLay0 = true := by
  unfold intsD
  rw [PyData.canLay0]
  exact lay_ints xs
theorem deep_intsD (xs : List Int) : (intsD xs).depth = 1 := by
  unfold intsD
  rw [PyData.depth, deep_ints]
theorem shaped_intsD (xs : List Int) : SeqAt.shaped (intsD xs) = true := by
  unfold SeqAt.shaped
  rw [lay_intsD, deep_intsD]
  rfl
theorem eqv_nil (xs : List Int) : PyData.eqv (intsD xs) (intsD []) = xs.isEmpty := by
  unfold intsD
  rw [PyData.eqv]
  cases xs <;> rfl

section
variable {P : Program} {w : World} {K : PySem.W.Frag} {mg : Str → Option Value} {base : Heap}
theorem Kp.free {d c l : Addr} {H H' : Hp} (k : Kp d c H H') (h : H' l = none) (h1 : l ≠ d) (h2 : l ≠ c) : H l = none := by
  cases e : H l with
  | none => rfl
  | some o =>
    rw [k l o h1 h2 e] at h
    cases h
theorem atI_of {xs : List V} {i : Int} {v : V} (h0 : 0 ≤ i) (e : xs[i.toNat]? = some v) : atI xs i = some v := by
  obtain ⟨j, rfl⟩ : ∃ j : Nat, i = (j : Int) := ⟨i.toNat, by omega⟩
  exact atI_nat (by rw [Int.toNat_natCast] at e; exact e)
theorem atI_ints {xs : List Int} {i : Int} (h0 : 0 ≤ i) (h1 : i < xs.length) : ∃ x ∈ xs, xs[i.toNat]? = some x ∧ atI (xs.map V.int) i = some (.int x) := by
  have h : i.toNat < xs.length := by omega
  exact ⟨xs[i.toNat], List.getElem_mem h, List.getElem?_eq_getElem h, atI_of h0 (by rw [List.getElem?_map, List.getElem?_eq_getElem h]; rfl)⟩
end
/-! ### data that repr tells -/
structure Fine (k w : Nat) (d : PyData) : Prop where
  lay : d.canLay0 = true
  shw : d.showable = true
  nod : d.hasDict = false
  sho : d.intsShort 13 = true
  dep : d.depth ≤ k
  wei : d.weight ≤ w
theorem Fine.int {i : Int} (h0 : -1000 ≤ i) (h1 : i < 1000) : Fine 0 10 (.int i) := by
  have hn : i.natAbs < 1024 := by omega
  have hl : i.natAbs.log2 < 10 ∨ i.natAbs = 0 := by
    by_cases e : i.natAbs = 0
    · exact .inr e
    · exact .inl ((Nat.log2_lt e).mpr (by omega))
  have hl2 : i.natAbs.log2 < 1920 := by
    rcases hl with h | h
    · omega
    · rw [h]
      decide
  refine ⟨rfl, ?_, rfl, ?_, Nat.le_refl _, ?_⟩
  · rw [PyData.showable]
    exact decide_eq_true hl2
  · have h3 := PyProof.Rows.intsShortAll_ints2 [i] (fun n hn => by rw [List.mem_singleton.mp hn]; omega)
    simpa [PyData.intsShortAll] using h3
  · rw [PyData.weight]
    split
    · omega
    · rename_i e
      rcases hl with h | h
      · omega
      · exact absurd (by simpa using h) e
theorem Fine.non : Fine 0 0 .none := ⟨rfl, rfl, rfl, rfl, Nat.le_refl _, Nat.le_refl _⟩
theorem Fine.bool (b : Bool) : Fine 0 0 (.bool b) := ⟨rfl, rfl, rfl, rfl, Nat.le_refl _, Nat.le_refl _⟩
theorem Fine.str {x : Str} (h1 : (PyData.str x).canLay0 = true) (h2 : x.cps.size ≤ 100) : Fine 0 100 (.str x) := ⟨h1, rfl, rfl, rfl, Nat.le_refl _, h2⟩
theorem Fine.mono {k k' w w' : Nat} {d : PyData} (h : Fine k w d) (hk : k ≤ k') (hw : w ≤ w') : Fine k' w' d := ⟨h.lay, h.shw, h.nod, h.sho, Nat.le_trans h.dep hk, Nat.le_trans h.wei hw⟩
theorem fine_all {k w : Nat} : ∀ {xs : List PyData}, (∀ x ∈ xs, Fine k w x) → PyData.canLayAll0 xs = true ∧ PyData.showableAll xs = true ∧ PyData.hasDictAll xs = false ∧ PyData.intsShortAll 13 xs = true ∧ PyData.depthAll xs ≤ k ∧ PyData.weightAll xs ≤ xs.length * (w + 1)
  | [], _ => by simp [PyData.canLayAll0, PyData.showableAll, PyData.hasDictAll, PyData.intsShortAll, PyData.depthAll, PyData.weightAll]
  | x :: xs, h => by
    obtain ⟨h1, h2, h3, h4, h5, h6⟩ := fine_all (xs := xs) fun y hy => h y (List.mem_cons_of_mem _ hy)
    obtain ⟨g1, g2, g3, g4, g5, g6⟩ := h x (by simp)
    refine ⟨by rw [PyData.canLayAll0, g1, h1]; rfl, by rw [PyData.showableAll, g2, h2]; rfl, by rw [PyData.hasDictAll, g3, h3]; rfl, by rw [PyData.intsShortAll, g4, h4]; rfl, ?_, ?_⟩
    · rw [PyData.depthAll]
      omega
    · rw [PyData.weightAll, List.length_cons, Nat.succ_mul]
      omega
theorem Fine.tup {k w n : Nat} {xs : List PyData} (h : ∀ x ∈ xs, Fine k w x) (hn : xs.length ≤ n) : Fine (k + 1) (n * (w + 1)) (.tuple xs) := by
  obtain ⟨h1, h2, h3, h4, h5, h6⟩ := fine_all h
  refine ⟨by rw [PyData.canLay0]; exact h1, by rw [PyData.showable]; exact h2, by rw [PyData.hasDict]; exact h3, by rw [PyData.intsShort]; exact h4, by rw [PyData.depth]; omega, ?_⟩
  rw [PyData.weight]
  exact Nat.le_trans h6 (Nat.mul_le_mul_right _ hn)
theorem Fine.len {k w : Nat} {d : PyData} (h : Fine k w d) (hk : k ≤ 60) (hw : w ≤ 1000000) : d.shown.length ≤ sizeLine := by
  have hl : PyData.layable0 d = true := by
    unfold PyData.layable0
    rw [h.lay, decide_eq_true (show d.depth ≤ 64 by have := h.dep; omega), decide_eq_true (show d.weight ≤ 2 ^ 20 by have := h.wei; omega)]
    rfl
  have := PyProof.Rows.shown_le13 hl h.sho
  rw [sizeLine_eq]
  omega
def tieD (t : Tie) : PyData := .tuple [.int t.one, .int t.other, .str (kindS t.foe)]
def webD (n : Int) (ts : List Tie) : PyData := .tuple [.int n, .tuple (ts.map tieD)]
theorem kind_ok (b : Bool) : (PyData.str (kindS b)).canLay0 = true ∧ (kindS b).cps.size ≤ 100 := by cases b <;> decide +kernel
theorem Fine.tie {n : Int} {t : Tie} (h : TieOk n t) (hn : n ≤ 40) : Fine 1 303 (tieD t) := by
  obtain ⟨h1, h2, h3, h4, _⟩ := h
  refine (Fine.tup (k := 0) (w := 100) (n := 3) (fun x hx => ?_) (Nat.le_refl _)).mono (Nat.le_refl _) (by decide)
  simp only [List.mem_cons, List.not_mem_nil, or_false] at hx
  rcases hx with rfl | rfl | rfl
  · exact (Fine.int (by omega) (by omega)).mono (Nat.le_refl _) (by decide)
  · exact (Fine.int (by omega) (by omega)).mono (Nat.le_refl _) (by decide)
  · exact Fine.str (kind_ok _).1 (kind_ok _).2
theorem Fine.web {n : Int} {ts : List Tie} (h : WebOk n ts) : Fine 3 80000 (webD n ts) := by
  have h1 := h.lo
  have h2 := h.hi
  have ft : Fine 2 36480 (.tuple (ts.map tieD)) := (Fine.tup (k := 1) (w := 303) (n := 120) (fun x hx => by
    obtain ⟨t, ht, rfl⟩ := List.mem_map.mp hx
    exact Fine.tie (h.ok t ht) h2) (by rw [List.length_map]; exact h.few)).mono (Nat.le_refl _) (by decide)
  refine (Fine.tup (k := 2) (w := 36480) (n := 2) (fun x hx => ?_) (Nat.le_refl _)).mono (Nat.le_refl _) (by decide)
  simp only [List.mem_cons, List.not_mem_nil, or_false] at hx
  rcases hx with rfl | rfl
  · exact (Fine.int (by omega) (by omega)).mono (by decide) (by decide)
  · exact ft
theorem Fine.intsD {xs : List Int} (h : ∀ x ∈ xs, 0 ≤ x ∧ x < 1000) (hl : xs.length ≤ 200) : Fine 1 2200 (intsD xs) :=
  (Fine.tup (k := 0) (w := 10) (n := 200) (fun x hx => by
    obtain ⟨i, hi, rfl⟩ := List.mem_map.mp hx
    have := h i hi
    exact Fine.int (by omega) (by omega)) (by rw [List.length_map]; exact hl)).mono (Nat.le_refl _) (by decide)
theorem dp_ties {K : PySem.W.Frag} {H : Hp} : ∀ {vs : List V} {ts : List Tie}, Paired (TieV H) vs ts → DpAll K H vs (ts.map tieD)
  | _, _, .nil => .nil
  | _, _, .cons r t => by
    obtain ⟨a, rfl, e⟩ := r
    exact .cons (.tup (SqT.of e) (.cons (.int _) (.cons (.int _) (.cons (.str _) .nil)))) (dp_ties t)
theorem WebAt.dp {K : PySem.W.Frag} {H : Hp} {v : V} {n : Int} {ts : List Tie} (h : WebAt H v n ts) : Dp K H v (webD n ts) := by
  obtain ⟨a, b, vs, rfl, h1, h2, h3⟩ := h
  exact .tup (SqT.of h1) (.cons (.int _) (.cons (.tup (SqT.of h2) (dp_ties h3)) .nil))
/-! ### what is asked of rings -/
def wbelow (lim : Int) : V → Bool
  | .int i => decide (0 ≤ i) && decide (i < lim)
  | _ => false
def unl (lim : Int) : Option (List V) → Bool
  | some xs => xs.all (wbelow lim) && decide xs.Nodup
  | none => false
theorem ints_of {lim : Int} : ∀ {xs : List V}, xs.all (wbelow lim) = true → ∃ ns : List Int, xs = ns.map V.int ∧ ∀ n ∈ ns, 0 ≤ n ∧ n < lim
  | [], _ => ⟨[], rfl, fun n hn => by simp at hn⟩
  | x :: xs, h => by
    rw [List.all_cons, Bool.and_eq_true] at h
    obtain ⟨ns, e, h2⟩ := ints_of h.2
    cases x with
    | int i =>
      have h1 : (decide (0 ≤ i) && decide (i < lim)) = true := h.1
      rw [Bool.and_eq_true, decide_eq_true_iff, decide_eq_true_iff] at h1
      refine ⟨i :: ns, by rw [e]; rfl, fun n hn => ?_⟩
      rcases List.mem_cons.mp hn with z | z
      · rw [z]
        exact h1
      · exact h2 n z
    | _ => exact absurd (show false = true from h.1) Bool.false_ne_true
theorem nodup_ints {ns : List Int} : (ns.map V.int).Nodup ↔ ns.Nodup := by
  unfold List.Nodup
  rw [List.pairwise_map]
  exact ⟨fun h => h.imp fun {a b} g z => g (by rw [z]), fun h => h.imp fun {a b} g z => g (V.int.inj z)⟩
theorem room65 {k : Nat} {A : PySem.Around} (r : Room k A) : A.units + 65 < cLine := by have := r.un; omega
theorem eqv_two (x y u v : Int) : PyData.eqv (intsD [x, y]) (intsD [u, v]) = (decide (u = x) && decide (v = y)) := by
  show PyData.eqv (.tuple [.int x, .int y]) (.tuple [.int u, .int v]) = _
  rw [PyData.eqv, PyData.eqvAll, PyData.eqv, PyData.eqvAll, PyData.eqv, PyData.eqvAll, Bool.and_true]
  rw [Bool.eq_iff_iff, Bool.and_eq_true, Bool.and_eq_true, beq_iff_eq, beq_iff_eq, decide_eq_true_iff, decide_eq_true_iff]
  exact ⟨fun h => ⟨h.1.symm, h.2.symm⟩, fun h => ⟨h.1.symm, h.2.symm⟩⟩
def spBelow : Sp := fun vs H Q _ => ∃ lim v, vs = [.int lim, v] ∧ Kn H v ∧ Q (.bl (wbelow lim v)) H
def spUnlike (Ps : List Addr) : Sp := fun vs H Q _ => ∃ lim v, vs = [.int lim, v] ∧ Kn H v ∧ (∀ xs, parts H v = some xs → (∀ x ∈ xs, Kn H x) ∧ xs.length ≤ 1000) ∧ Tabs Ps H ∧ ∀ H', Kt Ps H H' → Q (.bl (unl lim (parts H v))) H'
def joinB (t : Tie) (a b : Int) : Bool := (decide (t.one = a) && decide (t.other = b)) || (decide (t.one = b) && decide (t.other = a))
def spJoins : Sp := fun vs H Q _ => ∃ (c : Addr) (a b : Int) (t : Tie), vs = [.ref c, .int a, .int b] ∧ H c = some (.tup [.int t.one, .int t.other, .str (kindS t.foe)]) ∧ ∀ H', Same H H' → Q (.bl (joinB t a b)) H'
section
variable {P : Program} {w : World} {K : PySem.W.Frag} {mg : Str → Option Value} {base : Heap}
theorem ok_is_whole_below {f : Addr} {fd : FuncData} (F : Fun K "is_whole_below" "is_whole_below" s_is_whole_below f fd) (D1 : Df P w K mg base 1 "is_whole" ["thing"] spWhole) : FnOk P w K mg base CX0 2 f fd ["limit", "thing"] spBelow := by
  obtain ⟨f1, fd1, G1, g1, k1, b1⟩ := D1
  refine F.ok sc_is_whole_below (fun vs H Q E h => ?_) (fun cdv A outer s H vs Q E hr h => ?_)
  · obtain ⟨lim, v, rfl, _⟩ := h
    rfl
  · obtain ⟨lim, v, rfl, hk, q⟩ := h
    refine ⟨_, (pss_one (ps_ret (pe_and (pe_call G1 hr (by rfl) g1 k1 b1 .nil pass0 (pa_cons (pv 1) pa_nil)) (pe_one (pe_chain op_le op_lt pe_int (pv 1) (pv 0)))))), ?_⟩
    refine ⟨v, rfl, v, rfl, hk, _, rfl, ?_⟩
    cases v with
    | int i =>
      refine ⟨.int i, rfl, 0, i, rfl, rfl, _, rfl, ?_⟩
      have e : wbelow lim (.int i) = (decide (0 ≤ i) && decide (i < lim)) := rfl
      rw [e] at q
      by_cases h0 : (0 : Int) ≤ i
      · rw [decide_eq_true h0] at q ⊢
        rw [Bool.true_and] at q
        exact ⟨.int lim, rfl, i, lim, rfl, rfl, q⟩
      · rw [decide_eq_false h0] at q ⊢
        exact q
    | _ => exact q
theorem ok_are_unlike {f c Pt : Addr} {fd : FuncData} {Ps : List Addr} (F : FunC K "are_unlike_below" "are_unlike_below" s_are_unlike_below f fd c) (TB : GxR.TabB base mg c Pt) (hPt : Pt ∈ Ps) (M : Free mg) (hall : mg "all" = none) (hset : mg "set" = none) (D1 : Df P w K mg base 2 "is_whole_below" ["limit", "thing"] spBelow) : FnOk P w K mg base CX0 4 f fd ["limit", "thing"] (spUnlike Ps) := by
  obtain ⟨f1, fd1, G1, g1, k1, b1⟩ := D1
  refine F.ok sc_are_unlike_below (fun vs H Q E h => ?_) (fun A outer s H vs Q E hr h => ?_)
  · obtain ⟨lim, v, rfl, _⟩ := h
    rfl
  · obtain ⟨lim, v, rfl, hk, hsub, hT, q⟩ := h
    refine ⟨_, (pss_cons (ps_if (pt_not (pt_val (pe_callB call_isi (by rfl) M.isinstance (by decide +kernel) (pa_cons (pv 1) (pa_cons (pe_bltn (v := .ty "tuple") (by rfl) M.tuple (by decide +kernel) rfl) pa_nil)))))
        (pss_one (ps_ret pe_bl))
        pss_nil)
      (pss_one (ps_ret (pe_and (pe_all (k := 2) (own := [("number", 2)]) (g := gName 2) hr TB rfl rfl sc_are_unlike_below.nd (by rfl) hall (pi_tup (pv 1)) (blkOk_by (N := N_are_unlike_below) (sc := defScope s_are_unlike_below) (own := [("number", 2)]) (by decide +kernel)) ⟨rfl, by decide +kernel, by decide +kernel⟩ (show (".0" : Str) ∉ N_are_unlike_below by decide +kernel)
        (fun _ _ _ _ _ _ _ => pg_name (i := 2) sc_are_unlike_below.nd rfl (.inl rfl)) (fun _ _ _ _ _ _ _ hr' => pe_call G1 hr' (by rfl) g1 k1 b1 .nil pass0 (pa_cons (pv 0) (pa_cons (pv 2) pa_nil)))) (pe_one (pe_cmpR op_eq (pe_lenSetT (by rfl) M.len (by rfl) hset (pv 1)) (pe_callB call_len_seq (by rfl) M.len PySem.boot_len (pa_cons (pv 1) pa_nil)) (nomark _))))))), ?_⟩
    obtain ⟨t1, h1, e1⟩ := kn_tup (K := K) hk
    refine ⟨v, rfl, v, _, t1, _, _, rfl, .ty "tuple", h1, e1, _, rfl, ?_⟩
    cases hi : isT H v with
    | false =>
      rw [parts_none hi] at q
      exact q _ (Kt.refl hT)
    | true =>
      obtain ⟨a, xs, rfl, ea⟩ := isT_at hi
      rw [parts_of' ea] at q
      obtain ⟨kn, few⟩ := hsub xs (parts_of' ea)
      refine ⟨.ref a, rfl, a, rfl, ⟨_, SqT.of ea⟩, hT Pt hPt, fun i m H' => i + m = xs.length ∧ Kt Ps H H' ∧ (xs.take i).all (wbelow lim) = true, fun H2 hH2 => ⟨xs.length, by omega, Kt.tabbed hT hPt hH2, rfl⟩, fun i m H' hw => ?_⟩
      obtain ⟨em, kt, hal⟩ := hw
      have ea' := kt.tup hT ea
      by_cases hi : i < xs.length
      · refine .inr ⟨⟨_, _, SqT.of ea', List.getElem?_eq_getElem hi⟩, fun H3 => Kt Ps H H3 ∧ (xs.take (i + 1)).all (wbelow lim) = true, fun H3 n3 => ⟨m - 1, by omega, by omega, n3.1, n3.2⟩, fun x H3 hy => ?_⟩
        obtain ⟨rfl, fy⟩ := hy
        have ex : xs[i]? = some x := fy _ (SqT.of ea')
        refine ⟨rfl, .int lim, rfl, x, rfl, lim, x, rfl, kt.kn hT (kn x (List.mem_of_getElem? ex)), _, rfl, ?_⟩
        have step : (xs.take (i + 1)).all (wbelow lim) = wbelow lim x := by
          rw [List.take_add_one, ex, List.all_append, hal]
          simp
        cases hb : wbelow lim x with
        | true => exact ⟨kt, step.trans hb⟩
        | false =>
          have no : xs.all (wbelow lim) = false := by
            rw [Bool.eq_false_iff]
            intro z
            rw [List.all_eq_true] at z
            rw [z x (List.mem_of_getElem? ex)] at hb
            cases hb
          refine ⟨_, rfl, ?_⟩
          have e : unl lim (some xs) = false := by
            show (xs.all (wbelow lim) && decide xs.Nodup) = false
            rw [no, Bool.false_and]
          rw [e] at q
          exact q _ kt
      · refine .inl ⟨⟨_, SqT.of ea', by omega⟩, _, rfl, ?_⟩
        rw [List.take_of_length_le (by omega)] at hal
        obtain ⟨ns, rfl, _⟩ := ints_of hal
        refine ⟨.ref a, rfl, a, ns, rfl, SqT.of ea', by rw [List.length_map] at few; omega, fun cnt hc => ⟨.ref a, rfl, a, _, rfl, .inr (SqT.of ea'), rfl, ?_⟩⟩
        have e : unl lim (some (ns.map V.int)) = decide (V.int (cnt : Int) = V.int ((ns.map V.int).length : Int)) := by
          show ((ns.map V.int).all (wbelow lim) && decide (ns.map V.int).Nodup) = _
          rw [hal, Bool.true_and, decide_eq_decide, nodup_ints, ← hc, List.length_map]
          constructor
          · intro z
            rw [z]
          · intro z
            have := V.int.inj z
            omega
        rw [← e]
        exact q _ kt
theorem ok_joins {f : Addr} {fd : FuncData} (F : Fun K "joins" "joins" s_joins f fd) : FnOk P w K mg base CX0 1 f fd ["tie", "one", "other"] spJoins := by
  refine F.ok sc_joins (fun vs H Q E h => ?_) (fun cdv A outer s H vs Q E hr h => ?_)
  · obtain ⟨c, a, b, t, rfl, _⟩ := h
    rfl
  · obtain ⟨c, a, b, t, rfl, hc, q⟩ := h
    have hu := room65 hr
    refine ⟨_, (pss_one (ps_ret (pe_cmpR (op_inTup hu) (pe_tup (pa_cons (pe_ix ix_tup (pv 0) pe_int (fun _ _ => rfl)) (pa_cons (pe_ix ix_tup (pv 0) pe_int (fun _ _ => rfl)) pa_nil))) (pe_tup (pa_cons (pe_tup (pa_cons (pv 1) (pa_cons (pv 2) pa_nil))) (pa_cons (pe_tup (pa_cons (pv 2) (pa_cons (pv 1) pa_nil))) pa_nil))) rfl))), ?_⟩
    refine ⟨.ref c, rfl, c, _, 0, _, rfl, rfl, SqT.of hc, rfl, .ref c, rfl, c, _, 1, _, rfl, rfl, SqT.of hc, rfl, by show 2 ≤ sizeLine; decide, fun p1 n1 => ?_⟩
    refine ⟨.int a, rfl, .int b, rfl, by show 2 ≤ sizeLine; decide, fun p2 n2 => ⟨.int b, rfl, .int a, rfl, by show 2 ≤ sizeLine; decide, fun p3 n3 => ⟨by show 2 ≤ sizeLine; decide, fun p4 n4 => ?_⟩⟩⟩
    have s4 := same_new (o := .tup [.ref p2, .ref p3]) n4
    have s3 := (same_new (o := .tup [.int b, .int a]) n3).trans s4
    have s2 := (same_new (o := .tup [.int a, .int b]) n2).trans s3
    have s1 := (same_new (o := .tup [.int t.one, .int t.other]) n1).trans s2
    refine ⟨intsD [t.one, t.other], [intsD [a, b], intsD [b, a]], IntsV.dp ⟨p1, rfl, s2 _ _ upd_same⟩, .tup (SqT.of upd_same) (.cons (IntsV.dp ⟨p2, rfl, s3 _ _ upd_same⟩) (.cons (IntsV.dp ⟨p3, rfl, s4 _ _ upd_same⟩) .nil)), shaped_intsD _, rfl, ?_⟩
    have e : ([intsD [a, b], intsD [b, a]].any fun z => PyData.eqv z (intsD [t.one, t.other])) = joinB t a b := by
      show (PyData.eqv (intsD [a, b]) (intsD [t.one, t.other]) || (PyData.eqv (intsD [b, a]) (intsD [t.one, t.other]) || false)) = joinB t a b
      rw [eqv_two, eqv_two, Bool.or_false]
      rfl
    rw [e]
    exact q _ s1
end
def tieAt (ts : List Tie) (i : Int) : Tie := ts.getD i.toNat ⟨0, 0, false⟩
theorem tieAt_get {ts : List Tie} {i : Int} (h0 : 0 ≤ i) (h1 : i < ts.length) : ts[i.toNat]? = some (tieAt ts i) := by
  have h : i.toNat < ts.length := by omega
  unfold tieAt
  rw [List.getD_eq_getElem?_getD, List.getElem?_eq_getElem h]
  rfl
def toI : V → Int
  | .int i => i
  | _ => 0
theorem toI_map (ns : List Int) : (ns.map V.int).map toI = ns := by
  rw [List.map_map]
  exact List.map_id ns
/-- the ties join the places, each with the one behind it -/
def ringI (ts : List Tie) (ps es : List Int) : Bool := (List.range es.length).all fun k => joinB (tieAt ts (es.getD k 0)) (ps.getD k 0) (ps.getD ((k + 1) % ps.length) 0)
def ringP (n : Int) (ts : List Tie) : Option (List V) → Option (List V) → Bool
  | some ps, some es => unl n (some ps) && (unl ts.length (some es) && (decide (2 ≤ ps.length) && (decide (ps.length = es.length) && ringI ts (ps.map toI) (es.map toI))))
  | _, _ => false
def ringB (H : Hp) (n : Int) (ts : List Tie) (v : V) : Bool := match parts H v with
  | some [p, t] => ringP n ts (parts H p) (parts H t)
  | _ => false
def Part2 (H : Hp) (x : V) : Prop := Kn H x ∧ ∀ ys, parts H x = some ys → (∀ y ∈ ys, Kn H y) ∧ ys.length ≤ 1000
def Thing2 (H : Hp) (v : V) : Prop := Kn H v ∧ ∀ xs, parts H v = some xs → ∀ x ∈ xs, Part2 H x
theorem kt_parts {Ps : List Addr} {H H' : Hp} (k : Kt Ps H H') (t : Tabs Ps H) {v : V} (h : Kn H v) : parts H' v = parts H v := by
  cases v with
  | ref a =>
    unfold parts
    rcases h with ⟨xs, h⟩ | ⟨xs, h⟩ | ⟨xs, h⟩
    · simp only [h, k.lst t h]
    · simp only [h, k.tup t h]
    · simp only [h, k.dct t h]
  | _ => rfl
theorem Part2.kt {Ps : List Addr} {H H' : Hp} (k : Kt Ps H H') (t : Tabs Ps H) {v : V} (h : Part2 H v) : Part2 H' v :=
  ⟨k.kn t h.1, fun ys e => by
    rw [kt_parts k t h.1] at e
    obtain ⟨h1, h2⟩ := h.2 ys e
    exact ⟨fun y hy => k.kn t (h1 y hy), h2⟩⟩
def spRing (Ps : List Addr) : Sp := fun vs H Q _ => ∃ (wv : V) (n : Int) (ts : List Tie) (v : V), vs = [wv, v] ∧ WebAt H wv n ts ∧ WebOk n ts ∧ Thing2 H v ∧ Tabs Ps H ∧ ∀ H', Kt Ps H H' → Q (.bl (ringB H n ts v)) H'
theorem behind {ns : List Int} {k : Nat} (h2 : 2 ≤ ns.length) (hk : k < ns.length) : (ns.drop 1 ++ ns.take 1)[k]? = some (ns.getD ((k + 1) % ns.length) 0) := by
  by_cases e : k + 1 < ns.length
  · rw [List.getElem?_append_left (by rw [List.length_drop]; omega), List.getElem?_drop, Nat.mod_eq_of_lt e, show 1 + k = k + 1 from by omega, List.getD_eq_getElem?_getD, List.getElem?_eq_getElem e]
    rfl
  · have e2 : k + 1 = ns.length := by omega
    rw [List.getElem?_append_right (by rw [List.length_drop]; omega), List.length_drop, show k - (ns.length - 1) = 0 from by omega, e2, Nat.mod_self, List.getElem?_take_of_lt (by decide), List.getD_eq_getElem?_getD, List.getElem?_eq_getElem (by omega)]
    rfl
theorem cut1a {xs : List V} (h : 1 ≤ xs.length) : cutV xs (some 1) none = xs.drop 1 := by
  unfold cutV
  rw [HT.sIx_none, show (some (1 : Int)) = some ((1 : Nat) : Int) from rfl, HT.sIx_nat, Nat.min_eq_left h]
  exact List.take_of_length_le (by rw [List.length_drop]; omega)
theorem cut1b {xs : List V} (h : 1 ≤ xs.length) : cutV xs none (some 1) = xs.take 1 := by
  unfold cutV
  rw [HT.sIx_none, show (some (1 : Int)) = some ((1 : Nat) : Int) from rfl, HT.sIx_nat, Nat.min_eq_left h, List.drop_zero]
section
variable {P : Program} {w : World} {K : PySem.W.Frag} {mg : Str → Option Value} {base : Heap}
set_option maxHeartbeats 4000000 in
theorem ok_ring_holds {f c Pt : Addr} {fd : FuncData} {Ps : List Addr} (F : FunC K "ring_holds" "ring_holds" s_ring_holds f fd c) (TB : GxR.TabB base mg c Pt) (hPt : Pt ∈ Ps) (M : Free mg) (hall : mg "all" = none) (mz : mg "zip" = none) (D1 : Df P w K mg base 1 "is_tuple_of" ["length", "thing"] spTupleOf)
    (D2 : Df P w K mg base 4 "are_unlike_below" ["limit", "thing"] (spUnlike Ps)) (D3 : Df P w K mg base 1 "joins" ["tie", "one", "other"] spJoins) : FnOk P w K mg base CX0 5 f fd ["web", "thing"] (spRing Ps) := by
  obtain ⟨f1, fd1, G1, g1, k1, b1⟩ := D1
  obtain ⟨f2, fd2, G2, g2, k2, b2⟩ := D2
  obtain ⟨f3, fd3, G3, g3, k3, b3⟩ := D3
  refine F.ok sc_ring_holds (fun vs H Q E h => ?_) (fun A outer s H vs Q E hr h => ?_)
  · obtain ⟨wv, n, ts, v, rfl, _⟩ := h
    rfl
  · obtain ⟨wv, n, ts, v, rfl, ⟨wa, wb, us, rfl, hwa, hwb, hp⟩, ok, ⟨hk, hsub⟩, hT, q⟩ := h
    have hr1 : Room 1 _ := hr.mono (by decide : 1 ≤ 4)
    refine ⟨_, (pss_cons (ps_if (pt_not (pt_val (pe_call G1 hr1 (by rfl) g1 k1 b1 .nil pass0 (pa_cons pe_int (pa_cons (pv 1) pa_nil)))))
        (pss_one (ps_ret pe_bl))
        pss_nil)
      (pss_cons (ps_asg (pv 1) (pg_tup rfl (pgs_cons (pg_name (i := 2) sc_ring_holds.nd rfl (.inl rfl)) (pgs_cons (pg_name (i := 3) sc_ring_holds.nd rfl (.inl rfl)) pgs_nil))))
      (pss_cons (ps_if (PW.pt (pw_or (pt_not (pt_val (pe_call G2 hr (by rfl) g2 k2 b2 .nil pass0 (pa_cons (pe_ix ix_tup (pv 0) pe_int (fun _ _ => rfl)) (pa_cons (pv 2) pa_nil))))) (pw_or1 (pt_not (pt_val (pe_call G2 hr (by rfl) g2 k2 b2 .nil pass0 (pa_cons (pe_callB call_len_seq (by rfl) M.len PySem.boot_len (pa_cons (pe_ix ix_tup (pv 0) pe_int (fun _ _ => rfl)) pa_nil)) (pa_cons (pv 3) pa_nil))))))))
        (pss_one (ps_ret pe_bl))
        pss_nil)
      (pss_cons (ps_if (PW.pt (pw_or (pt_cmpR op_lt (pe_callB call_len_seq (by rfl) M.len PySem.boot_len (pa_cons (pv 2) pa_nil)) pe_int (nomark _)) (pw_or1 (pt_cmpR op_ne (pe_callB call_len_seq (by rfl) M.len PySem.boot_len (pa_cons (pv 2) pa_nil)) (pe_callB call_len_seq (by rfl) M.len PySem.boot_len (pa_cons (pv 3) pa_nil)) (nomark _)))))
        (pss_one (ps_ret pe_bl))
        pss_nil)
      (pss_cons (ps_set (i := 4) sc_ring_holds.nd rfl (.inl rfl) (pe_op op_catU (pe_slice sl_tupU (pv 2) (po_some pe_int) po_none) (pe_slice sl_tupU (pv 2) po_none (po_some pe_int))))
      (pss_one (ps_ret (pe_all (k := 3) (own := [("tie", 5), ("one", 6), ("other", 7)]) (g := gTup K 3 (gCons (gName 5) (gCons (gName 6) (gCons (gName 7) gNil)))) hr TB rfl rfl sc_ring_holds.nd (by rfl) hall (pi_zip3 (by rfl) mz (pa_cons (pv 3) (pa_cons (pv 2) (pa_cons (pv 4) pa_nil)))) (blkOk_by (N := N_ring_holds) (sc := defScope s_ring_holds) (own := [("tie", 5), ("one", 6), ("other", 7)]) (by decide +kernel)) ⟨rfl, by decide +kernel, by decide +kernel⟩ (show (".0" : Str) ∉ N_ring_holds by decide +kernel)
        (fun _ _ _ _ _ _ _ => pg_tup rfl (pgs_cons (pg_name (i := 5) sc_ring_holds.nd rfl (.inl rfl)) (pgs_cons (pg_name (i := 6) sc_ring_holds.nd rfl (.inl rfl)) (pgs_cons (pg_name (i := 7) sc_ring_holds.nd rfl (.inl rfl)) pgs_nil)))) (fun _ _ _ _ _ _ _ hr' => pe_call G3 (hr'.mono (by decide : 1 ≤ 3)) (by rfl) g3 k3 b3 .nil pass0 (pa_cons (pe_ix (r := rIxT K) ix_tup (pe_ix (r := rIxT K) ix_tup (pv 0) pe_int (fun _ _ => rfl)) (pv 5) (fun _ _ => rfl)) (pa_cons (pv 6) (pa_cons (pv 7) pa_nil)))))))))))), ?_⟩
    have hlen : us.length = ts.length := Paired.length hp
    have few := ok.few
    -- a pair
    refine ⟨v, rfl, 2, v, rfl, hk, _, rfl, ?_⟩
    cases hpv : parts H v with
    | none =>
      have e1 : lenIs H v 2 = false := by unfold lenIs; rw [hpv]
      have e2 : ringB H n ts v = false := by unfold ringB; rw [hpv]
      rw [e1]
      rw [e2] at q
      exact q _ (Kt.refl hT)
    | some xs =>
    obtain ⟨a, rfl, ea⟩ := parts_at hpv
    have e1 : lenIs H (.ref a) 2 = decide ((xs.length : Int) = 2) := by unfold lenIs; rw [hpv]
    rw [e1]
    match xs, hpv, ea, hsub xs hpv with
    | [], hpv, ea, _ =>
      have e2 : ringB H n ts (.ref a) = false := by unfold ringB; rw [hpv]
      rw [e2] at q
      exact q _ (Kt.refl hT)
    | [x], hpv, ea, _ =>
      have e2 : ringB H n ts (.ref a) = false := by unfold ringB; rw [hpv]
      rw [e2] at q
      exact q _ (Kt.refl hT)
    | x :: y :: z :: r, hpv, ea, _ =>
      have e2 : ringB H n ts (.ref a) = false := by unfold ringB; rw [hpv]
      rw [e2] at q
      rw [decide_eq_false (by simp only [List.length_cons]; omega)]
      exact q _ (Kt.refl hT)
    | [pv', tv], hpv, ea, hxs =>
    have e2 : ringB H n ts (.ref a) = ringP n ts (parts H pv') (parts H tv) := by unfold ringB; rw [hpv]
    rw [e2] at q
    have hP := hxs pv' (by simp)
    have hQ := hxs tv (by simp)
    clear e1 e2 hxs hsub
    refine ⟨.ref a, rfl, a, _, rfl, SqT.of ea, rfl, _, _, rfl, _, _, rfl, rfl, ?_⟩
    -- unlike places
    refine ⟨.ref wa, rfl, wa, _, 0, .int n, rfl, rfl, SqT.of hwa, rfl, pv', rfl, n, pv', rfl, hP.1, hP.2, hT, fun H1 k1' => ⟨_, rfl, ?_⟩⟩
    cases hu1 : unl n (parts H pv') with
    | false =>
      have e : ringP n ts (parts H pv') (parts H tv) = false := by
        cases h1 : parts H pv' with
        | none => rfl
        | some ps =>
          cases h2 : parts H tv with
          | none => rfl
          | some es =>
            rw [h1] at hu1
            show (unl n (some ps) && _) = false
            rw [hu1, Bool.false_and]
      rw [e] at q
      exact q _ k1'
    | true =>
    -- unlike ties
    have hwa1 := k1'.tup hT hwa
    have hwb1 := k1'.tup hT hwb
    have hQ1 := hQ.kt k1' hT
    refine ⟨.ref wa, rfl, wa, _, 1, .ref wb, rfl, rfl, SqT.of hwa1, rfl, wb, us, rfl, .inr (SqT.of hwb1), tv, rfl, _, tv, rfl, hQ1.1, hQ1.2, k1'.tab, fun H2 k2' => ⟨_, rfl, ?_⟩⟩
    rw [kt_parts k1' hT hQ.1, hlen]
    have k12 := k1'.trans k2'
    cases hu2 : unl ts.length (parts H tv) with
    | false =>
      have e : ringP n ts (parts H pv') (parts H tv) = false := by
        cases h1 : parts H pv' with
        | none => rfl
        | some ps =>
          cases h2 : parts H tv with
          | none => rfl
          | some es =>
            rw [h1] at hu1
            rw [h2] at hu2
            show (unl n (some ps) && (unl ts.length (some es) && _)) = false
            rw [hu2, Bool.false_and, Bool.and_false]
      rw [e] at q
      exact q _ k12
    | true =>
    cases h1 : parts H pv' with
    | none => rw [h1] at hu1; cases hu1
    | some ps =>
    cases h2 : parts H tv with
    | none => rw [h2] at hu2; cases hu2
    | some es =>
    rw [h1] at hu1
    rw [h2] at hu2
    rw [h1, h2] at q
    obtain ⟨pa, rfl, epa⟩ := parts_at h1
    obtain ⟨ta, rfl, eta⟩ := parts_at h2
    have epa2 := k12.tup hT epa
    have eta2 := k12.tup hT eta
    have er : ringP n ts (some ps) (some es) = (decide (2 ≤ ps.length) && (decide (ps.length = es.length) && ringI ts (ps.map toI) (es.map toI))) := by
      show (unl n (some ps) && (unl ts.length (some es) && _)) = _
      rw [hu1, hu2, Bool.true_and, Bool.true_and]
    rw [er] at q
    -- lengths
    refine ⟨.ref pa, rfl, pa, ps, rfl, .inr (SqT.of epa2), _, 2, rfl, rfl, _, rfl, ?_⟩
    by_cases l2 : 2 ≤ ps.length
    · rw [decide_eq_false (show ¬ ((ps.length : Int) < 2) by omega)]
      rw [decide_eq_true l2, Bool.true_and] at q
      refine ⟨.ref pa, rfl, pa, ps, rfl, .inr (SqT.of epa2), .ref ta, rfl, ta, es, rfl, .inr (SqT.of eta2), rfl, _, rfl, ?_⟩
      by_cases le : ps.length = es.length
      · rw [show decide (V.int (ps.length : Int) = V.int (es.length : Int)) = true from decide_eq_true (by rw [le])]
        rw [decide_eq_true le, Bool.true_and] at q
        have ha1 : ps.all (wbelow n) = true := (Bool.and_eq_true_iff.mp hu1).1
        have ha2 : es.all (wbelow ts.length) = true := (Bool.and_eq_true_iff.mp hu2).1
        obtain ⟨pn, rfl, hpn⟩ := ints_of ha1
        obtain ⟨en, rfl, hen⟩ := ints_of ha2
        rw [toI_map, toI_map] at q
        rw [List.length_map] at l2 le
        rw [List.length_map] at le
        have lps : pn.length ≤ 1000 := by have := (hP.2 _ h1).2; rw [List.length_map] at this; exact this
        -- followers
        refine ⟨.ref pa, rfl, 1, rfl, pa, _, rfl, epa2, fun r1 H3 s3 h3 => ⟨.ref pa, rfl, 1, rfl, pa, _, rfl, s3 _ _ epa2, fun r2 H4 s4 h4 => ⟨r1, r2, _, _, rfl, rfl, s4 _ _ h3, h4, ?_, fun r3 H5 s5 h5 => ?_⟩⟩⟩
        · have z1 := cutV_length (pn.map V.int) (some 1) none
          have z2 := cutV_length (pn.map V.int) none (some 1)
          rw [List.length_map] at z1 z2
          omega
        rw [cut1a (by rw [List.length_map]; omega), cut1b (by rw [List.length_map]; omega), ← List.map_drop, ← List.map_take, ← List.map_append] at h5
        have k5 := k12.trans (Kt.same k12.tab ((s3.trans s4).trans s5))
        have hwa5 := k5.tup hT hwa
        have hwb5 := k5.tup hT hwb
        have epa5 := k5.tup hT epa
        have eta5 := k5.tup hT eta
        have hp5 := ties_tk (k5.tk hT) hp
        clear s3 s4 s5 h3 h4 epa2 eta2 hwa1 hwb1
        have lfo : (pn.drop 1 ++ pn.take 1).length = pn.length := by rw [List.length_append, List.length_drop, List.length_take]; omega
        have nth : ∀ k : Nat, k < en.length → ∃ (cc : Addr), H5 cc = some (.tup [.int (tieAt ts (en.getD k 0)).one, .int (tieAt ts (en.getD k 0)).other, .str (kindS (tieAt ts (en.getD k 0)).foe)]) ∧ atI us (en.getD k 0) = some (.ref cc) := fun k hk => by
          have hm : en.getD k 0 ∈ en := by
            rw [List.getD_eq_getElem?_getD, List.getElem?_eq_getElem hk]
            exact List.getElem_mem hk
          obtain ⟨z0, z1⟩ := hen _ hm
          obtain ⟨u, eu, cc, rfl, hcc⟩ := Paired.at' hp5 (tieAt_get z0 z1)
          exact ⟨cc, hcc, atI_of z0 eu⟩
        refine ⟨.ref ta, rfl, .ref pa, rfl, .ref r3, rfl, ta, pa, r3, _, _, _, rfl, SqT.of eta5, SqT.of epa5, SqT.of h5, k5.tab Pt hPt, fun i m H' => i + m = en.length ∧ Kt Ps H5 H' ∧ (List.range i).all (fun k => joinB (tieAt ts (en.getD k 0)) (pn.getD k 0) (pn.getD ((k + 1) % pn.length) 0)) = true, fun H6 t6 => ⟨en.length, by omega, Kt.tabbed k5.tab hPt t6, rfl⟩, fun i m H6 hw => ?_⟩
        obtain ⟨em, k6, hal⟩ := hw
        have eta6 := k6.tup k5.tab eta5
        have epa6 := k6.tup k5.tab epa5
        have h6 := k6.tup k5.tab h5
        by_cases hi : i < en.length
        · refine .inr ⟨⟨_, _, _, ⟨SqT.of eta6, SqT.of epa6, SqT.of h6⟩, by rw [List.length_map]; exact hi, by rw [List.length_map, List.length_map]; exact le, by rw [List.length_map, List.length_map, lfo]; exact le⟩, fun H7 => Kt Ps H5 H7 ∧ (List.range (i + 1)).all (fun k => joinB (tieAt ts (en.getD k 0)) (pn.getD k 0) (pn.getD ((k + 1) % pn.length) 0)) = true, fun H7 n7 => ⟨m - 1, by omega, by omega, n7.1, n7.2⟩, fun x H7 hy => ?_⟩
          obtain ⟨T, x1, x2, x3, rfl, nT, rfl, y1, y2, y3⟩ := hy
          have ex1 : x1 = .int (en.getD i 0) := by
            have z := y1 _ (SqT.of eta6)
            rw [List.getElem?_map, List.getElem?_eq_getElem hi] at z
            rw [List.getD_eq_getElem?_getD, List.getElem?_eq_getElem hi]
            exact (Option.some.inj z).symm
          have ex2 : x2 = .int (pn.getD i 0) := by
            have z := y2 _ (SqT.of epa6)
            rw [List.getElem?_map, List.getElem?_eq_getElem (show i < pn.length by omega)] at z
            rw [List.getD_eq_getElem?_getD, List.getElem?_eq_getElem (show i < pn.length by omega)]
            exact (Option.some.inj z).symm
          have ex3 : x3 = .int (pn.getD ((i + 1) % pn.length) 0) := by
            have z := y3 _ (SqT.of h6)
            rw [List.getElem?_map, behind l2 (by omega)] at z
            exact (Option.some.inj z).symm
          subst ex1
          subst ex2
          subst ex3
          obtain ⟨cc, hcc, acc⟩ := nth i hi
          have k7 := k6.trans (Kt.same k6.tab (same_new (o := .tup [.int (en.getD i 0), .int (pn.getD i 0), .int (pn.getD ((i + 1) % pn.length) 0)]) nT))
          refine ⟨T, _, rfl, SqT.of upd_same, rfl, _, _, rfl, _, _, rfl, _, _, rfl, rfl, rfl, .ref wa, rfl, wa, _, 1, .ref wb, rfl, rfl, SqT.of (k7.tup k5.tab hwa5), rfl, .int (en.getD i 0), rfl, wb, us, _, .ref cc, rfl, rfl, SqT.of (k7.tup k5.tab hwb5), acc, .int (pn.getD i 0), rfl, .int (pn.getD ((i + 1) % pn.length) 0), rfl, cc, _, _, tieAt ts (en.getD i 0), rfl, k7.tup k5.tab hcc, fun H8 s8 => ⟨_, rfl, ?_⟩⟩
          have k8 := k7.trans (Kt.same k7.tab s8)
          cases hj : joinB (tieAt ts (en.getD i 0)) (pn.getD i 0) (pn.getD ((i + 1) % pn.length) 0) with
          | true =>
            refine ⟨k8, ?_⟩
            rw [List.range_succ, List.all_append, hal]
            simp only [List.all_cons, List.all_nil, hj, Bool.and_true]
          | false =>
            have no : ringI ts pn en = false := by
              unfold ringI
              rw [Bool.eq_false_iff]
              intro z
              rw [List.all_eq_true] at z
              rw [z i (List.mem_range.mpr hi)] at hj
              cases hj
            rw [no] at q
            exact q _ (k5.trans k8)
        · have ei : i = en.length := by omega
          refine .inl ⟨⟨_, _, _, ⟨SqT.of eta6, SqT.of epa6, SqT.of h6⟩, by rw [List.length_map, ei], by rw [List.length_map, ei]; exact le, by rw [List.length_map, lfo, ei]; exact le⟩, ?_⟩
          rw [ei] at hal
          have yes : ringI ts pn en = true := hal
          rw [yes] at q
          exact q _ (k5.trans k6)
      · rw [show decide (V.int (ps.length : Int) = V.int (es.length : Int)) = false from decide_eq_false (fun z => le (by have := V.int.inj z; omega))]
        rw [decide_eq_false le, Bool.false_and] at q
        exact q _ k12
    · rw [decide_eq_true (show ((ps.length : Int) < 2) by omega)]
      rw [decide_eq_false l2, Bool.false_and] at q
      exact q _ k12
end
/-! ### sorted(t), a tuple of fewer than 64 ints -/
def rSortT (K : PySem.W.Frag) : List V → Hp → VK → Prop := fun vs H Q => ∃ (a : Addr) (ns : List Int), vs = [V.ref a] ∧ SqT K H a (ns.map V.int) ∧ ns.length < 64 ∧
  ∀ (ys : List Int) (p : Addr), ys.Perm ns → ys.Pairwise (· ≤ ·) → H p = none → Q (.ref p) (upd H p (.lst (ys.map V.int)))
theorem cr_sortT {X : Cx} (hc : X.calm = true) : CallR X (.builtin "sorted") (rSortT X.K) := by
  intro pins s σ H vs us Q I rel want
  obtain ⟨a, ns, ex, hq, few, q⟩ := want
  subst ex
  obtain ⟨u, eu, rx⟩ := vals1 rel
  subst eu
  obtain rfl : u = Value.ref a := rx
  obtain ⟨its, rv, tup, small⟩ := I.tuple hq
  have len : its.length = ns.length := by rw [← rv.length, List.length_map]
  refine Calls.call_function_entry PyProof.Rows.kind_sorted PyProof.Rows.plain_sorted PyProof.Rows.entry_sorted (PyProof.Rows.args_sorted1 _) ?_
  unfold Builtin.«sorted»
  refine wpAny_bind (m := checkCount "sorted" 1 1 _) (wpAny_pure ?_)
  obtain ⟨o, ho, hcls, m, hd⟩ := tup
  refine wpAny_bind (wpAny_collect_seq a (.inr rfl) ho hcls hd (fun h' kp => ?_) (by rw [List.size_toArray, len, sizeLine_eq]; omega))
  have hS : IntsAre its.toArray.toList ns := by simpa using rv.ints
  have J : Inv X pins σ H { s with heap := h' } := I.kept (t' := s.toks) kp
  have hal : its.toArray.toList.length = ns.length := by simpa using len
  refine wpAny_bind (wpAny_newList ?_ (by rw [hal, sizeLine_eq]; omega))
  have new : (h'.push (seqObj "list" its.toArray.toList.toArray 0)).get? h'.objs.size = some (seqObj "list" its.toArray.toList.toArray 0) := Heap.get?_push_size _ rfl
  show wpAny _ _ _ _ _ { s with heap := h'.push (seqObj "list" its.toArray.toList.toArray 0) }
  refine wpAny_bind (wpAny_holding (wpAny_call_entry PyProof.Rows.slot_list_sort ⟨_, new, rfl⟩ PyProof.Rows.entry_list_sort
    (PyProof.Rows.list_sort_tree (s := { s with heap := h'.push (seqObj "list" its.toArray.toList.toArray 0) }) new hS (by rw [hal]; exact few) fun out ys o1 o2 o3 => ⟨_, rfl, ?_⟩) (PyProof.Rows.args_list_sort _)))
  obtain ⟨e', he'⟩ := PyProof.Rows.sortedHeap_at (vs := its.toArray.toList) (out := out) new
  have fits : (ys.map V.int).length ≤ sizeLine := by
    rw [List.length_map, o2.length_eq, sizeLine_eq]
    omega
  refine wpAny_pure ⟨_, rfl, .ref h'.objs.size, upd H h'.objs.size (.lst (ys.map V.int)), J.laid (t' := s.toks) (fun b u e => ?_) (Nat.le_refl _)
    (show ObjOk X.prog X.w _ _ _ (.lst (ys.map V.int)) from ⟨fits, out.toList, e', vals_of_ints o1, by rw [Array.toArray_toList]; exact he'⟩), rfl, q ys _ o2 o3 (J.hok.fresh (Nat.le_refl _))⟩
  have lb : b < h'.objs.size := Heap.lt_size e
  rw [PyProof.Rows.sortedHeap_old (Nat.ne_of_lt lb) (by rw [size_push']; exact Nat.lt_succ_of_lt lb)]
  exact Heap.get?_push_of_some _ e
/-! ### the law's own look at rings -/
theorem pair_sort {ys : List Int} {x y : Int} (h : ys.Perm [x, y]) (s : ys.Pairwise (· ≤ ·)) : ys = [min x y, max x y] := by
  have l := h.length_eq
  match ys, l, h, s with
  | [p, q], _, h, s =>
    have h1 : p = x ∨ p = y := by simpa using h.mem_iff.mp (show p ∈ [p, q] by simp)
    have h2 : q = x ∨ q = y := by simpa using h.mem_iff.mp (show q ∈ [p, q] by simp)
    have h3 : x = p ∨ x = q := by simpa using h.mem_iff.mpr (show x ∈ [x, y] by simp)
    have h4 : y = p ∨ y = q := by simpa using h.mem_iff.mpr (show y ∈ [x, y] by simp)
    have h5 : p ≤ q := by simpa using s
    have e1 : p = min x y := by omega
    have e2 : q = max x y := by omega
    rw [← e1, ← e2]
def listD (xs : List Int) : PyData := .list (xs.map PyData.int)
theorem shaped_listD (xs : List Int) : SeqAt.shaped (listD xs) = true := by
  unfold SeqAt.shaped listD
  rw [PyData.canLay0, lay_ints, PyData.depth, deep_ints]
  rfl
theorem eqv_pairs (x y u v : Int) : PyData.eqv (listD [x, y]) (listD [u, v]) = (decide (x = u) && decide (y = v)) := by
  show PyData.eqv (.list [.int x, .int y]) (.list [.int u, .int v]) = _
  rw [PyData.eqv, PyData.eqvAll, PyData.eqv, PyData.eqvAll, PyData.eqv, PyData.eqvAll, Bool.and_true]
  rw [Bool.eq_iff_iff, Bool.and_eq_true, Bool.and_eq_true, beq_iff_eq, beq_iff_eq, decide_eq_true_iff, decide_eq_true_iff]
theorem join_sort (t : Tie) (a b : Int) : (decide (min t.one t.other = min a b) && decide (max t.one t.other = max a b)) = joinB t a b := by
  unfold joinB
  rw [Bool.eq_iff_iff]
  simp only [Bool.and_eq_true, Bool.or_eq_true, decide_eq_true_iff]
  omega
def spNumbers : Sp := fun vs H Q _ => ∃ lim v, vs = [v, .int lim] ∧ Part2 H v ∧ ∀ H', Same H H' → Q (.bl (unl lim (parts H v))) H'
def spIsRing : Sp := fun vs H Q _ => ∃ (wv : V) (n : Int) (ts : List Tie) (v : V), vs = [wv, v] ∧ WebAt H wv n ts ∧ WebOk n ts ∧ Thing2 H v ∧ ∀ H', Same H H' → Q (.bl (ringB H n ts v)) H'
theorem parts_same {H H' : Hp} (s : Same H H') {v : V} (h : Kn H v) : parts H' v = parts H v := by
  cases v with
  | ref a =>
    unfold parts
    rcases h with ⟨xs, h⟩ | ⟨xs, h⟩ | ⟨xs, h⟩
    · simp only [h, s _ _ h]
    · simp only [h, s _ _ h]
    · simp only [h, s _ _ h]
  | _ => rfl
theorem Kn.same {H H' : Hp} (s : Same H H') {v : V} (h : Kn H v) : Kn H' v := by
  cases v with
  | ref a =>
    rcases h with ⟨xs, h⟩ | ⟨xs, h⟩ | ⟨xs, h⟩
    · exact .inl ⟨xs, s _ _ h⟩
    · exact .inr (.inl ⟨xs, s _ _ h⟩)
    · exact .inr (.inr ⟨xs, s _ _ h⟩)
  | _ => exact h
theorem Part2.same {H H' : Hp} (s : Same H H') {v : V} (h : Part2 H v) : Part2 H' v :=
  ⟨Kn.same s h.1, fun ys e => by
    rw [parts_same s h.1] at e
    obtain ⟨h1, h2⟩ := h.2 ys e
    exact ⟨fun y hy => Kn.same s (h1 y hy), h2⟩⟩
theorem in_ints (z : Int) (ns : List Int) : inV (.int z) (ns.map V.int) = decide (z ∈ ns) := by
  rw [Bool.eq_iff_iff, decide_eq_true_iff]
  unfold inV
  rw [List.any_map, List.any_eq_true]
  constructor
  · rintro ⟨x, hx, e⟩
    have e' : (x == z) = true := e
    rw [beq_iff_eq] at e'
    rw [← e']
    exact hx
  · intro h
    exact ⟨z, h, by show (z == z) = true; simp⟩
theorem flat_ints (xs : List Int) : (xs.map V.int).all flatV = true := by
  rw [List.all_map, List.all_eq_true]
  intro x _
  rfl
theorem cut_take {xs : List V} {k : Nat} (h : k ≤ xs.length) : cutV xs none (some (k : Int)) = xs.take k := by
  unfold cutV
  rw [HT.sIx_none, HT.sIx_nat, Nat.min_eq_left h, List.drop_zero]
  rfl
section
variable {P : Program} {w : World} {K : PySem.W.Frag} {mg : Str → Option Value} {base : Heap}
theorem ok_l_numbers {f : Addr} {fd : FuncData} (F : Fun K "_law_numbers" "_law_numbers" s_l_numbers f fd) (M : Free mg) : FnOk P w K mg base CX0 1 f fd ["_law_thing", "_law_many"] spNumbers := by
  refine F.ok sc_l_numbers (fun vs H Q E h => ?_) (fun cdv A outer s H vs Q E hr h => ?_)
  · obtain ⟨lim, v, rfl, _⟩ := h
    rfl
  · obtain ⟨lim, v, rfl, ⟨hk, hsub⟩, q⟩ := h
    refine ⟨_, (pss_cons (ps_if (pt_not (pt_val (pe_callB call_isi (by rfl) M.isinstance (by decide +kernel) (pa_cons (pv 0) (pa_cons (pe_bltn (v := .ty "tuple") (by rfl) M.tuple (by decide +kernel) rfl) pa_nil)))))
        (pss_one (ps_ret pe_bl))
        pss_nil)
      (pss_cons (ps_for PassesOwn.never rfl (pi_range1 (by rfl) M.range (pa_cons (pe_callB call_len_seq (by rfl) M.len PySem.boot_len (pa_cons (pv 0) pa_nil)) pa_nil)) (pg_name (i := 2) sc_l_numbers.nd rfl (.inl rfl))
        (pss_cons (ps_set (i := 3) sc_l_numbers.nd rfl (.inl rfl) (pe_ix ix_tup (pv 0) (pv 2) (fun _ _ => rfl)))
        (pss_one (ps_if (PW.pt (pw_or (pt_not (pt_val (pe_callB call_isi (by rfl) M.isinstance (by decide +kernel) (pa_cons (pv 3) (pa_cons (pe_bltn (v := .ty "int") (by rfl) M.int (by decide +kernel) rfl) pa_nil))))) (pw_or (pt_val (pe_callB call_isi (by rfl) M.isinstance (by decide +kernel) (pa_cons (pv 3) (pa_cons (pe_bltn (v := .ty "bool") (by rfl) M.bool (by decide +kernel) rfl) pa_nil)))) (pw_or (pt_cmpR op_lt (pv 3) pe_int (nomark _)) (pw_or (pt_cmpR op_ge (pv 3) (pv 1) (nomark _)) (pw_or1 (pt_cmpR op_in_seq (pv 3) (pe_slice sl_tupU (pv 0) po_none (po_some (pv 2))) rfl)))))))
          (pss_one (ps_ret pe_bl))
          pss_nil))))
      (pss_one (ps_ret pe_bl)))), ?_⟩
    obtain ⟨t1, h1, e1⟩ := kn_tup (K := K) hk
    refine ⟨v, rfl, v, _, t1, _, _, rfl, .ty "tuple", h1, e1, _, rfl, ?_⟩
    cases hi : isT H v with
    | false =>
      rw [parts_none hi] at q
      exact q _ (Same.refl _)
    | true =>
      obtain ⟨a, xs, rfl, ea⟩ := isT_at hi
      rw [parts_of' ea] at q
      obtain ⟨kn, few⟩ := hsub xs (parts_of' ea)
      refine ⟨.ref a, rfl, a, xs, rfl, .inr (SqT.of ea), _, rfl, by omega, by omega, ?_⟩
      rw [Int.toNat_natCast]
      refine for_range (lo := 0) (n := xs.length) (fun i σ' H' => ∃ y2 y3 : Option V, σ' = [some (.ref a), some (.int lim), y2, y3] ∧ (xs.take i).all (wbelow lim) = true ∧ (xs.take i).Nodup ∧ Same H H') ⟨_, _, rfl, rfl, by simp, Same.refl _⟩ ?_ ?_
      · rintro i σ' H1 hi ⟨y2, y3, rfl, hal, nd, s1⟩
        rw [show (0 : Int) + (i : Nat) = i from by omega]
        have ei := List.getElem?_eq_getElem hi
        refine ⟨.ref a, rfl, .int i, rfl, a, xs, i, _, rfl, rfl, SqT.of (s1 _ _ ea), atI_nat ei, ?_⟩
        generalize hx : xs[i] = x at ei
        have kx : Kn H1 x := Kn.same s1 (kn x (by rw [← hx]; exact List.getElem_mem hi))
        have bad : wbelow lim x = false → ∀ H', Same H H' → Q (.bl false) H' := fun hb => by
          have e : unl lim (some xs) = false := by
            show (xs.all (wbelow lim) && decide xs.Nodup) = false
            have no : xs.all (wbelow lim) = false := by
              rw [Bool.eq_false_iff]
              intro z
              rw [List.all_eq_true] at z
              rw [z x (List.mem_of_getElem? ei)] at hb
              cases hb
            rw [no, Bool.false_and]
          rw [e] at q
          exact q
        obtain ⟨t2, h2, e2⟩ := kn_int (K := K) kx
        obtain ⟨t3, h3, e3⟩ := kn_bool (K := K) kx
        refine ⟨x, rfl, x, _, t2, _, _, rfl, .ty "int", h2, e2, _, rfl, ?_⟩
        cases x with
        | int z =>
          refine ⟨.int z, rfl, .int z, _, t3, _, _, rfl, .ty "bool", h3, e3, _, rfl, ?_⟩
          refine ⟨.int z, rfl, z, 0, rfl, rfl, _, rfl, ?_⟩
          by_cases z0 : z < 0
          · rw [decide_eq_true z0]
            exact bad (by show (decide (0 ≤ z) && decide (z < lim)) = false; rw [decide_eq_false (by omega), Bool.false_and]) _ s1
          · rw [decide_eq_false z0]
            refine ⟨.int z, rfl, .int lim, rfl, z, lim, rfl, rfl, _, rfl, ?_⟩
            by_cases z1 : z < lim
            · have hge : decide (z ≥ lim) = false := decide_eq_false (by omega)
              have step : (xs.take (i + 1)) = xs.take i ++ [.int z] := by
                rw [List.take_add_one, ei]
                rfl
              obtain ⟨ns, ens, _⟩ := ints_of hal
              refine (show (if decide (lim ≤ z) = true then _ else _) from ?_)
              rw [show decide (lim ≤ z) = false from decide_eq_false (by omega)]
              refine ⟨.int z, rfl, .ref a, rfl, .int i, rfl, i, rfl, a, xs, rfl, s1 _ _ ea, fun r H2 s2 h2 => ?_⟩
              rw [cut_take (by omega), ens] at h2
              refine ⟨r, _, rfl, .inr (SqT.of h2), rfl, flat_ints ns, _, rfl, ?_⟩
              simp only [Bool.false_eq_true, if_false]
              rw [in_ints]
              by_cases hm : z ∈ ns
              · rw [decide_eq_true hm]
                have e : unl lim (some xs) = false := by
                  show (xs.all (wbelow lim) && decide xs.Nodup) = false
                  rw [decide_eq_false (fun nd2 => ?_), Bool.and_false]
                  have nd3 : (xs.take (i + 1)).Nodup := nd2.sublist (List.take_sublist _ _)
                  rw [step, ens, List.nodup_append] at nd3
                  exact nd3.2.2 (.int z) (List.mem_map.mpr ⟨z, hm, rfl⟩) (.int z) (by simp) rfl
                rw [e] at q
                exact q _ (s1.trans s2)
              · rw [decide_eq_false hm]
                refine ⟨_, _, rfl, ?_, ?_, s1.trans s2⟩
                · rw [step, List.all_append, hal]
                  show (true && ((decide (0 ≤ z) && decide (z < lim)) && true)) = true
                  rw [decide_eq_true (by omega), decide_eq_true z1]
                  rfl
                · rw [step, ens, List.nodup_append]
                  rw [ens] at nd
                  refine ⟨nd, by simp, fun y hy y' hy' e => ?_⟩
                  rw [List.mem_singleton] at hy'
                  subst hy'
                  subst e
                  obtain ⟨z', hz', e'⟩ := List.mem_map.mp hy
                  exact hm (by rw [← V.int.inj e']; exact hz')
            · refine (show (if decide (lim ≤ z) = true then _ else _) from ?_)
              rw [show decide (lim ≤ z) = true from decide_eq_true (by omega)]
              exact bad (by show (decide (0 ≤ z) && decide (z < lim)) = false; rw [decide_eq_false z1, Bool.and_false]) _ s1
        | bl b => exact ⟨.bl b, rfl, .bl b, _, t3, _, _, rfl, .ty "bool", h3, e3, _, rfl, bad rfl _ s1⟩
        | _ => exact bad rfl _ s1
      · rintro σ' H1 ⟨y2, y3, rfl, hal, nd, s1⟩
        rw [List.take_length] at hal nd
        have e : unl lim (some xs) = true := by
          show (xs.all (wbelow lim) && decide xs.Nodup) = true
          rw [hal, decide_eq_true nd]
          rfl
        rw [e] at q
        exact q _ s1
end
section
variable {P : Program} {w : World} {K : PySem.W.Frag} {mg : Str → Option Value} {base : Heap}
set_option maxHeartbeats 4000000 in
theorem ok_l_is_ring {f : Addr} {fd : FuncData} (F : Fun K "_law_is_ring" "_law_is_ring" s_l_is_ring f fd) (M : Free mg) (ms : mg "sorted" = none) (D1 : Df P w K mg base 1 "_law_numbers" ["_law_thing", "_law_many"] spNumbers) : FnOk P w K mg base CX0 2 f fd ["_law_web", "_law_thing"] spIsRing := by
  obtain ⟨f1, fd1, G1, g1, k1, b1⟩ := D1
  refine F.ok sc_l_is_ring (fun vs H Q E h => ?_) (fun cdv A outer s H vs Q E hr h => ?_)
  · obtain ⟨wv, n, ts, v, rfl, _⟩ := h
    rfl
  · obtain ⟨wv, n, ts, v, rfl, ⟨wa, wb, us, rfl, hwa, hwb, hp⟩, ok, ⟨hk, hsub⟩, q⟩ := h
    refine ⟨_, (pss_cons (ps_if (PW.pt (pw_or (pt_not (pt_val (pe_callB call_isi (by rfl) M.isinstance (by decide +kernel) (pa_cons (pv 1) (pa_cons (pe_bltn (v := .ty "tuple") (by rfl) M.tuple (by decide +kernel) rfl) pa_nil))))) (pw_or1 (pt_cmpR op_ne (pe_callB call_len_seq (by rfl) M.len PySem.boot_len (pa_cons (pv 1) pa_nil)) pe_int (nomark _)))))
        (pss_one (ps_ret pe_bl))
        pss_nil)
      (pss_cons (ps_asg (pv 1) (pg_tup rfl (pgs_cons (pg_name (i := 2) sc_l_is_ring.nd rfl (.inl rfl)) (pgs_cons (pg_name (i := 3) sc_l_is_ring.nd rfl (.inl rfl)) pgs_nil))))
      (pss_cons (ps_if (PW.pt (pw_or (pt_not (pt_val (pe_call G1 hr (by rfl) g1 k1 b1 .nil pass0 (pa_cons (pv 2) (pa_cons (pe_ix ix_tup (pv 0) pe_int (fun _ _ => rfl)) pa_nil))))) (pw_or1 (pt_not (pt_val (pe_call G1 hr (by rfl) g1 k1 b1 .nil pass0 (pa_cons (pv 3) (pa_cons (pe_callB call_len_seq (by rfl) M.len PySem.boot_len (pa_cons (pe_ix ix_tup (pv 0) pe_int (fun _ _ => rfl)) pa_nil)) pa_nil))))))))
        (pss_one (ps_ret pe_bl))
        pss_nil)
      (pss_cons (ps_if (PW.pt (pw_or (pt_cmpR op_lt (pe_callB call_len_seq (by rfl) M.len PySem.boot_len (pa_cons (pv 2) pa_nil)) pe_int (nomark _)) (pw_or1 (pt_cmpR op_ne (pe_callB call_len_seq (by rfl) M.len PySem.boot_len (pa_cons (pv 2) pa_nil)) (pe_callB call_len_seq (by rfl) M.len PySem.boot_len (pa_cons (pv 3) pa_nil)) (nomark _)))))
        (pss_one (ps_ret pe_bl))
        pss_nil)
      (pss_cons (ps_for PassesOwn.never rfl (pi_range1 (by rfl) M.range (pa_cons (pe_callB call_len_seq (by rfl) M.len PySem.boot_len (pa_cons (pv 3) pa_nil)) pa_nil)) (pg_name (i := 4) sc_l_is_ring.nd rfl (.inl rfl))
        (pss_one (ps_if (pt_cmpR (op_neD hr.units) (pe_callB (cr_sortT rfl) (by rfl) ms (by decide +kernel) (pa_cons (pe_slice sl_tupU (pe_ix ix_tup (pe_ix ix_tup (pv 0) pe_int (fun _ _ => rfl)) (pe_ix ix_tup (pv 3) (pv 4) (fun _ _ => rfl)) (fun _ _ => rfl)) po_none (po_some pe_int)) pa_nil)) (pe_callB cr_sortedI (by rfl) ms (by decide +kernel) (pa_cons (pe_lst (pa_cons (pe_ix ix_tup (pv 2) (pv 4) (fun _ _ => rfl)) (pa_cons (pe_ix ix_tup (pv 2) (pe_op op_mod (pe_op op_add (pv 4) pe_int) (pe_callB call_len_seq (by rfl) M.len PySem.boot_len (pa_cons (pv 2) pa_nil))) (fun _ _ => rfl)) pa_nil))) pa_nil)) (nomark _))
          (pss_one (ps_ret pe_bl))
          pss_nil)))
      (pss_one (ps_ret pe_bl))))))), ?_⟩
    have hlen : us.length = ts.length := Paired.length hp
    obtain ⟨t1, h1, e1⟩ := kn_tup (K := K) hk
    refine ⟨v, rfl, v, _, t1, _, _, rfl, .ty "tuple", h1, e1, _, rfl, ?_⟩
    cases hit : isT H v with
    | false =>
      have e2 : ringB H n ts v = false := by unfold ringB; rw [parts_none hit]
      rw [e2] at q
      exact q _ (Same.refl _)
    | true =>
    obtain ⟨a, xs, rfl, ea⟩ := isT_at hit
    have hpv := parts_of' ea
    refine ⟨.ref a, rfl, a, xs, rfl, .inr (SqT.of ea), rfl, _, rfl, ?_⟩
    match xs, hpv, ea, hsub xs hpv with
    | [], hpv, ea, _ =>
      have e2 : ringB H n ts (.ref a) = false := by unfold ringB; rw [hpv]
      rw [e2] at q
      exact q _ (Same.refl _)
    | [x], hpv, ea, _ =>
      have e2 : ringB H n ts (.ref a) = false := by unfold ringB; rw [hpv]
      rw [e2] at q
      exact q _ (Same.refl _)
    | x :: y :: z :: r, hpv, ea, _ =>
      have e2 : ringB H n ts (.ref a) = false := by unfold ringB; rw [hpv]
      rw [e2] at q
      rw [show decide (V.int ((x :: y :: z :: r).length : Int) = V.int 2) = false from decide_eq_false (fun w => by have := V.int.inj w; simp only [List.length_cons] at this; omega)]
      exact q _ (Same.refl _)
    | [pv', tv], hpv, ea, hxs =>
    have e2 : ringB H n ts (.ref a) = ringP n ts (parts H pv') (parts H tv) := by unfold ringB; rw [hpv]
    rw [e2] at q
    have hP := hxs pv' (by simp)
    have hQ := hxs tv (by simp)
    clear e1 e2 hxs hsub
    refine ⟨.ref a, rfl, a, _, rfl, SqT.of ea, rfl, _, _, rfl, _, _, rfl, rfl, ?_⟩
    refine ⟨pv', rfl, .ref wa, rfl, wa, _, 0, .int n, rfl, rfl, SqT.of hwa, rfl, n, pv', rfl, hP, fun H1 s1 => ⟨_, rfl, ?_⟩⟩
    cases hu1 : unl n (parts H pv') with
    | false =>
      have e : ringP n ts (parts H pv') (parts H tv) = false := by
        cases h1 : parts H pv' with
        | none => rfl
        | some ps =>
          cases h2 : parts H tv with
          | none => rfl
          | some es =>
            rw [h1] at hu1
            show (unl n (some ps) && _) = false
            rw [hu1, Bool.false_and]
      rw [e] at q
      exact q _ s1
    | true =>
    refine ⟨tv, rfl, .ref wa, rfl, wa, _, 1, .ref wb, rfl, rfl, SqT.of (s1 _ _ hwa), rfl, wb, us, rfl, .inr (SqT.of (s1 _ _ hwb)), _, tv, rfl, hQ.same s1, fun H2 s2 => ⟨_, rfl, ?_⟩⟩
    rw [parts_same s1 hQ.1, hlen]
    have s12 := s1.trans s2
    cases hu2 : unl ts.length (parts H tv) with
    | false =>
      have e : ringP n ts (parts H pv') (parts H tv) = false := by
        cases h1 : parts H pv' with
        | none => rfl
        | some ps =>
          cases h2 : parts H tv with
          | none => rfl
          | some es =>
            rw [h2] at hu2
            show (unl n (some ps) && (unl ts.length (some es) && _)) = false
            rw [hu2, Bool.false_and, Bool.and_false]
      rw [e] at q
      exact q _ s12
    | true =>
    cases h1 : parts H pv' with
    | none => rw [h1] at hu1; cases hu1
    | some ps =>
    cases h2 : parts H tv with
    | none => rw [h2] at hu2; cases hu2
    | some es =>
    rw [h1] at hu1
    rw [h2] at hu2
    rw [h1, h2] at q
    obtain ⟨pa, rfl, epa⟩ := parts_at h1
    obtain ⟨ta, rfl, eta⟩ := parts_at h2
    have epa2 := s12 _ _ epa
    have eta2 := s12 _ _ eta
    have er : ringP n ts (some ps) (some es) = (decide (2 ≤ ps.length) && (decide (ps.length = es.length) && ringI ts (ps.map toI) (es.map toI))) := by
      show (unl n (some ps) && (unl ts.length (some es) && _)) = _
      rw [hu1, hu2, Bool.true_and, Bool.true_and]
    rw [er] at q
    refine ⟨.ref pa, rfl, pa, ps, rfl, .inr (SqT.of epa2), _, 2, rfl, rfl, _, rfl, ?_⟩
    by_cases l2 : 2 ≤ ps.length
    · rw [decide_eq_false (show ¬ ((ps.length : Int) < 2) by omega)]
      rw [decide_eq_true l2, Bool.true_and] at q
      refine ⟨.ref pa, rfl, pa, ps, rfl, .inr (SqT.of epa2), .ref ta, rfl, ta, es, rfl, .inr (SqT.of eta2), rfl, _, rfl, ?_⟩
      by_cases le : ps.length = es.length
      · rw [show decide (V.int (ps.length : Int) = V.int (es.length : Int)) = true from decide_eq_true (by rw [le])]
        rw [decide_eq_true le, Bool.true_and] at q
        have ha1 : ps.all (wbelow n) = true := (Bool.and_eq_true_iff.mp hu1).1
        have ha2 : es.all (wbelow ts.length) = true := (Bool.and_eq_true_iff.mp hu2).1
        obtain ⟨pn, rfl, hpn⟩ := ints_of ha1
        obtain ⟨en, rfl, hen⟩ := ints_of ha2
        rw [toI_map, toI_map] at q
        rw [List.length_map] at l2 le
        rw [List.length_map] at le
        have lps : pn.length ≤ 1000 := by have := (hP.2 _ h1).2; rw [List.length_map] at this; exact this
        refine ⟨.ref ta, rfl, ta, _, rfl, .inr (SqT.of eta2), _, rfl, by rw [List.length_map]; omega, by rw [List.length_map]; omega, ?_⟩
        rw [List.length_map, Int.toNat_natCast]
        refine for_range (lo := 0) (n := en.length) (fun i σ' H' => ∃ y4 : Option V, σ' = [some (.ref wa), some (.ref a), some (.ref pa), some (.ref ta), y4] ∧ (List.range i).all (fun k => joinB (tieAt ts (en.getD k 0)) (pn.getD k 0) (pn.getD ((k + 1) % pn.length) 0)) = true ∧ Same H H') ⟨_, rfl, rfl, s12⟩ ?_ ?_
        · rintro i σ' H3 hi ⟨y4, rfl, hal, s3⟩
          rw [show (0 : Int) + (i : Nat) = i from by omega]
          have gE : (en.map V.int)[i]? = some (.int (en.getD i 0)) := by
            rw [List.getElem?_map, List.getElem?_eq_getElem hi, List.getD_eq_getElem?_getD, List.getElem?_eq_getElem hi]
            rfl
          have gP : ∀ j : Nat, j < pn.length → (pn.map V.int)[j]? = some (.int (pn.getD j 0)) := fun j hj => by
            rw [List.getElem?_map, List.getElem?_eq_getElem hj, List.getD_eq_getElem?_getD, List.getElem?_eq_getElem hj]
            rfl
          have hm : en.getD i 0 ∈ en := by
            rw [List.getD_eq_getElem?_getD, List.getElem?_eq_getElem hi]
            exact List.getElem_mem hi
          obtain ⟨z0, z1⟩ := hen _ hm
          obtain ⟨u, eu, cc, rfl, hcc⟩ := Paired.at' (ties_tk (Same.tk s3) hp) (tieAt_get z0 z1)
          have emod : (((i : Int) + 1) % ((pn.map V.int).length : Int)) = (((i + 1) % pn.length : Nat) : Int) := by
            rw [List.length_map, Int.natCast_emod, Int.natCast_add]
            rfl
          have lmod : (i + 1) % pn.length < pn.length := Nat.mod_lt _ (by omega)
          refine ⟨.ref wa, rfl, wa, _, 1, .ref wb, rfl, rfl, SqT.of (s3 _ _ hwa), rfl, .ref ta, rfl, .int i, rfl, ta, _, i, _, rfl, rfl, SqT.of (s3 _ _ eta), atI_nat gE, wb, us, _, .ref cc, rfl, rfl, SqT.of (s3 _ _ hwb), atI_of z0 eu, 2, rfl, cc, _, rfl, hcc, fun r1 H4 s4 h4 => ?_⟩
          have e2 : cutV [V.int (tieAt ts (en.getD i 0)).one, V.int (tieAt ts (en.getD i 0)).other, V.str (kindS (tieAt ts (en.getD i 0)).foe)] none (some 2) = [(tieAt ts (en.getD i 0)).one, (tieAt ts (en.getD i 0)).other].map V.int := rfl
          rw [e2] at h4
          refine ⟨r1, _, rfl, SqT.of h4, by show 2 < 64; decide, fun ys1 p1 hp1 hs1 n1 => ?_⟩
          have s5 := (s3.trans s4).trans (same_new (o := .lst (ys1.map V.int)) n1)
          refine ⟨.ref pa, rfl, .int i, rfl, pa, _, i, _, rfl, rfl, SqT.of (s5 _ _ epa), atI_nat (gP i (by omega)), .ref pa, rfl, .int i, rfl, i, 1, rfl, rfl, .ref pa, rfl, pa, _, rfl, .inr (SqT.of (s5 _ _ epa)), _, _, rfl, rfl, ?_, pa, _, _, .int (pn.getD ((i + 1) % pn.length) 0), rfl, rfl, SqT.of (s5 _ _ epa), ?_, by show 2 ≤ sizeLine; decide, fun p2 n2 => ?_⟩
          · rw [List.length_map]
            show (0 : Int) < _
            omega
          · rw [emod]
            exact atI_nat (gP _ lmod)
          refine ⟨p2, [pn.getD i 0, pn.getD ((i + 1) % pn.length) 0], rfl, SqL.of upd_same, fun ys2 p3 hp2 hs2 n3 => ?_⟩
          have s6 := (same_new (o := .lst [V.int (pn.getD i 0), V.int (pn.getD ((i + 1) % pn.length) 0)]) n2).trans (same_new (o := .lst (ys2.map V.int)) n3)
          obtain rfl := pair_sort hp1 hs1
          obtain rfl := pair_sort hp2 hs2
          refine ⟨listD _, listD _, .lst (SqL.of (s6 _ _ upd_same)) (dp_ints _), .lst (SqL.of upd_same) (dp_ints _), shaped_listD _, shaped_listD _, _, rfl, ?_⟩
          rw [eqv_pairs, join_sort]
          have s7 := s5.trans s6
          cases hj : joinB (tieAt ts (en.getD i 0)) (pn.getD i 0) (pn.getD ((i + 1) % pn.length) 0) with
          | true =>
            refine ⟨_, rfl, ?_, s7⟩
            rw [List.range_succ, List.all_append, hal]
            simp only [List.all_cons, List.all_nil, hj, Bool.and_true]
          | false =>
            have no : ringI ts pn en = false := by
              unfold ringI
              rw [Bool.eq_false_iff]
              intro z
              rw [List.all_eq_true] at z
              rw [z i (List.mem_range.mpr hi)] at hj
              cases hj
            rw [no] at q
            exact q _ s7
        · rintro σ' H3 ⟨y4, rfl, hal, s3⟩
          have yes : ringI ts pn en = true := hal
          rw [yes] at q
          exact q _ s3
      · rw [show decide (V.int (ps.length : Int) = V.int (es.length : Int)) = false from decide_eq_false (fun z => le (by have := V.int.inj z; omega))]
        rw [decide_eq_false le, Bool.false_and] at q
        exact q _ s12
    · rw [decide_eq_true (show ((ps.length : Int) < 2) by omega)]
      rw [decide_eq_false l2, Bool.false_and] at q
      exact q _ s12
end
/-! ### pairs of rows of numbers -/
def PairAt (H : Hp) (v : V) (pn en : List Int) : Prop := ∃ a pa ta, v = .ref a ∧ H a = some (.tup [.ref pa, .ref ta]) ∧ H pa = some (.tup (pn.map V.int)) ∧ H ta = some (.tup (en.map V.int))
structure RowOk (ns : List Int) : Prop where
  few : ns.length ≤ 200
  rng : ∀ x ∈ ns, 0 ≤ x ∧ x < 1000
theorem PairAt.tk {H H' : Hp} (k : Tk H H') {v : V} {pn en : List Int} (h : PairAt H v pn en) : PairAt H' v pn en := by
  obtain ⟨a, pa, ta, e, h1, h2, h3⟩ := h
  exact ⟨a, pa, ta, e, k _ _ h1, k _ _ h2, k _ _ h3⟩
theorem PairAt.thing {H : Hp} {v : V} {pn en : List Int} (h : PairAt H v pn en) (o1 : RowOk pn) (o2 : RowOk en) : Thing2 H v := by
  obtain ⟨a, pa, ta, rfl, h1, h2, h3⟩ := h
  refine ⟨.inr (.inl ⟨_, h1⟩), fun xs e x hx => ?_⟩
  rw [parts_of' h1] at e
  cases e
  simp only [List.mem_cons, List.not_mem_nil, or_false] at hx
  rcases hx with rfl | rfl
  · refine ⟨.inr (.inl ⟨_, h2⟩), fun ys e => ?_⟩
    rw [parts_of' h2] at e
    cases e
    refine ⟨fun y hy => ?_, by rw [List.length_map]; have := o1.few; omega⟩
    obtain ⟨z, _, rfl⟩ := List.mem_map.mp hy
    trivial
  · refine ⟨.inr (.inl ⟨_, h3⟩), fun ys e => ?_⟩
    rw [parts_of' h3] at e
    cases e
    refine ⟨fun y hy => ?_, by rw [List.length_map]; have := o2.few; omega⟩
    obtain ⟨z, _, rfl⟩ := List.mem_map.mp hy
    trivial
def ringN (n : Int) (ts : List Tie) (pn en : List Int) : Bool := ringP n ts (some (pn.map V.int)) (some (en.map V.int))
theorem PairAt.ring {H : Hp} {v : V} {pn en : List Int} (h : PairAt H v pn en) (n : Int) (ts : List Tie) : ringB H n ts v = ringN n ts pn en := by
  obtain ⟨a, pa, ta, rfl, h1, h2, h3⟩ := h
  unfold ringB
  rw [parts_of' h1]
  show ringP n ts (parts H (.ref pa)) (parts H (.ref ta)) = _
  rw [parts_of' h2, parts_of' h3]
  rfl
theorem ringN_en {n : Int} {ts : List Tie} {pn en : List Int} (h : ringN n ts pn en = true) : ∀ e ∈ en, 0 ≤ e ∧ e < (ts.length : Int) := by
  unfold ringN at h
  change (unl n (some (pn.map V.int)) && (unl ts.length (some (en.map V.int)) && _)) = true at h
  rw [Bool.and_eq_true, Bool.and_eq_true] at h
  have v2 : (en.map V.int).all (wbelow ts.length) = true ∧ _ := Bool.and_eq_true_iff.mp h.2.1
  obtain ⟨zs, e, hz⟩ := ints_of v2.1
  have e' : en = zs := by
    have := congrArg (List.map toI) e
    rw [toI_map, toI_map] at this
    exact this
  rw [e']
  exact hz
def spSame : Sp := fun vs H Q _ => ∃ b : Bool, vs = [.bl b, .bl b] ∧ Q (.bl true) H
theorem cut_drop {xs : List V} {k : Nat} (h : k ≤ xs.length) : cutV xs (some (k : Int)) none = xs.drop k := by
  unfold cutV
  rw [HT.sIx_none, HT.sIx_nat, Nat.min_eq_left h]
  exact List.take_of_length_le (by rw [List.length_drop]; omega)
section
variable {P : Program} {w : World} {K : PySem.W.Frag} {mg : Str → Option Value} {base : Heap}
theorem ok_l_same {f : Addr} {fd : FuncData} (F : Fun K "_law_same" "_law_same" s_l_same f fd) (M : Free mg) : FnOk P w K mg base CX0 1 f fd ["_law_found", "_law_due"] spSame := by
  refine F.ok sc_l_same (fun vs H Q E h => ?_) (fun cdv A outer s H vs Q E hr h => ?_)
  · obtain ⟨b, rfl, _⟩ := h
    rfl
  · obtain ⟨b, rfl, q⟩ := h
    refine ⟨_, (pss_one (ps_ret (pe_and (pe_callB call_isi (by rfl) M.isinstance (by decide +kernel) (pa_cons (pv 0) (pa_cons (pe_bltn (v := .ty "bool") (by rfl) M.bool (by decide +kernel) rfl) pa_nil))) (pe_one (pe_cmpR op_eq (pv 0) (pv 1) (nomark _)))))), ?_⟩
    obtain ⟨t3, h3, e3⟩ := kn_bool (K := K) (H := H) (v := .bl b) trivial
    refine ⟨.bl b, rfl, .bl b, _, t3, _, _, rfl, .ty "bool", h3, e3, _, rfl, .bl b, rfl, .bl b, rfl, rfl, ?_⟩
    rw [decide_eq_true rfl]
    exact q
end
/-! ### a web with a ring laid in it -/
def RowV (H : Hp) (v : V) (r : Tie × Int) : Prop := ∃ a c, v = .ref a ∧ H a = some (.tup [.ref c, .int r.2]) ∧ H c = some (.tup [.int r.1.one, .int r.1.other, .str (kindS r.1.foe)])
theorem RowV.tk {H H' : Hp} (k : Tk H H') {v : V} {r : Tie × Int} (h : RowV H v r) : RowV H' v r := by
  obtain ⟨a, c, e, h1, h2⟩ := h
  exact ⟨a, c, e, k _ _ h1, k _ _ h2⟩
theorem rows_tk {H H' : Hp} (k : Tk H H') {vs : List V} {rs : List (Tie × Int)} (h : Paired (RowV H) vs rs) : Paired (RowV H') vs rs := Paired.mono (fun _ _ x => x.tk k) h
theorem erase_map {α β : Type} (f : α → β) : ∀ (l : List α) (k : Nat), (l.map f).eraseIdx k = (l.eraseIdx k).map f
  | [], _ => by simp
  | _ :: _, 0 => rfl
  | x :: l, k + 1 => by
    show f x :: (l.map f).eraseIdx k = _
    rw [erase_map f l k]
    rfl
theorem erase_perm : ∀ (l : List Int) (k : Nat) (h : k < l.length), (l[k] :: l.eraseIdx k).Perm l
  | _ :: _, 0, _ => List.Perm.refl _
  | x :: l, k + 1, h => by
    have h' : k < l.length := by simpa using h
    show (l[k] :: x :: l.eraseIdx k).Perm (x :: l)
    exact (List.Perm.swap _ _ _).trans ((erase_perm l k h').cons x)
theorem rgV_ints (n : Nat) : rgV 0 n = (rng n).map V.int := by
  unfold rgV rng
  rw [List.map_map, show ((n : Int) - 0).toNat = n from by omega]
  refine List.map_congr_left fun i _ => ?_
  show V.int (0 + (i : Int)) = V.int i
  rw [Int.zero_add]
theorem rng_nodup (n : Nat) : (rng n).Nodup := (rng_rising n).imp fun {a b} h => by omega
def rLen (K : PySem.W.Frag) : List V → Hp → VK → Prop := fun xs H Q => ∃ p ys, xs = [.ref p] ∧ (SqL K H p ys ∨ SqT K H p ys) ∧ Q (.int ys.length) H
structure Ringed (H : Hp) (v : V) : Prop where
  ex : ∃ (a : Addr) (wv rv : V) (n : Int) (ts : List Tie) (pn en : List Int), v = .ref a ∧ H a = some (.tup [wv, rv]) ∧ WebAt H wv n ts ∧ WebOk n ts ∧ PairAt H rv pn en ∧ RowOk pn ∧ RowOk en ∧ 2 ≤ pn.length ∧ pn.length ≤ 40 ∧ en.length = pn.length ∧ ∀ e ∈ en, 0 ≤ e ∧ e < (ts.length : Int)
def spRinged : Sp := fun vs H Q _ => ∃ (d c : Addr), vs = [.ref d] ∧ Deck H d c ∧ ∀ v H', Ringed H' v → Deck H' d c → Kp d c H H' → Q v H'
/-! ### repr of data with dicts (and no lists) -/
mutual
inductive DpL (K : PySem.W.Frag) (H : Hp) : V → PyData → Prop
  | non : DpL K H .non .none
  | bl (b : Bool) : DpL K H (.bl b) (.bool b)
  | int (i : Int) : DpL K H (.int i) (.int i)
  | str (x : Str) : DpL K H (.str x) (.str x)
  | tup {a : Addr} {xs : List V} {ds : List PyData} : SqT K H a xs → DpLAll K H xs ds → DpL K H (.ref a) (.tuple ds)
  | d0 {a : Addr} : H a = some (.dK []) → DpL K H (.ref a) (.dict [])
  | d1 {a : Addr} {k : Int} {v : V} {d : PyData} : H a = some (.dK [(Sum.inl k, v)]) → DpL K H v d → DpL K H (.ref a) (.dict [(.int k, d)])
inductive DpLAll (K : PySem.W.Frag) (H : Hp) : List V → List PyData → Prop
  | nil : DpLAll K H [] []
  | cons {v : V} {vs : List V} {d : PyData} {ds : List PyData} : DpL K H v d → DpLAll K H vs ds → DpLAll K H (v :: vs) (d :: ds)
end
section
variable {X : Cx} {pins : List (Addr × Obj)} {σ : L2.St} {H : Hp} {s : Shared}
mutual
theorem DpL.reads (I : Inv X pins σ H s) : ∀ {v : V} {d : PyData}, DpL X.K H v d → ∀ {u : Value}, RelV v u → ∃ as, Reads s.heap u d as ∧ sysModules ∉ as
  | _, _, .non, _, r => by
    cases r
    exact ⟨_, Reads.none, by simp⟩
  | _, _, .bl b, _, r => by
    cases r
    exact ⟨_, Reads.bool _, by simp⟩
  | _, _, .int i, _, r => by
    obtain ⟨t, rfl⟩ := r
    exact ⟨_, Reads.int _ _, by simp⟩
  | _, _, .str x, _, r => by
    obtain ⟨t, rfl⟩ := r
    exact ⟨_, Reads.str _ _, by simp⟩
  | _, _, .tup hs ha, _, r => by
    cases r
    obtain ⟨its, rv, ⟨o, ho, hc, n, hd⟩, hlen⟩ := I.tuple hs
    obtain ⟨as, hr, hn⟩ := DpLAll.reads I ha rv
    exact ⟨as, Reads.tuple ho hc hd (by simpa using hr), hn⟩
  | _, _, .d0 (a := a) h, _, r => by
    cases r
    obtain ⟨hz, hne, vs, kv, o, es, ep, ho, ed, hd, ko, pr, nd⟩ := I.hok a _ h
    cases kv
    cases he : es.toList with
    | cons x y =>
      rw [he] at pr
      cases pr
    | nil =>
      refine ⟨_, Reads.dict (as := []) (bs := []) ho ed.1 hd (by rw [he]; exact .nil) (by rw [he]; exact .nil), ?_⟩
      intro hm
      simp at hm
      rw [← hm] at hne
      simp at hne
  | _, _, .d1 (a := a) (k := k) (v := v) h hv, _, r => by
    cases r
    obtain ⟨hz, hne, vs, kv, o, es, ep, ho, ed, hd, ko, pr, nd⟩ := I.hok a _ h
    cases kv with
    | cons q qs =>
      cases qs
      rename_i y
      obtain ⟨q1, q2⟩ := q
      cases he : es.toList with
      | nil =>
        rw [he] at pr
        cases pr
      | cons e0 er =>
        rw [he] at pr
        cases pr with
        | cons i1 i2 i3 =>
          cases i3
          obtain ⟨bs, hr, hn⟩ := DpL.reads I hv q2
          rw [← q1] at i1
          have i1' : keyIs (Sum.inl k) e0.key = true := i1
          rcases keyIs_shape i1' with ⟨i, t, ek, ev⟩ | ⟨x, t, ek, ev⟩
          · cases ek
            refine ⟨_, Reads.dict (as := [] ++ []) (bs := bs ++ []) ho ed.1 hd (by rw [he]; show ReadsAll s.heap [e0.key] [.int k] _; rw [ev]; exact .cons (.int _ _) .nil) (by rw [he]; show ReadsAll s.heap [e0.val] [_] _; rw [i2]; exact .cons hr .nil), ?_⟩
            intro hm
            simp at hm
            rcases hm with hm | hm
            · rw [← hm] at hne
              simp at hne
            · exact hn hm
          · cases ek
theorem DpLAll.reads (I : Inv X pins σ H s) : ∀ {vs : List V} {ds : List PyData}, DpLAll X.K H vs ds → ∀ {us : List Value}, Vals vs us → ∃ as, ReadsAll s.heap us ds as ∧ sysModules ∉ as
  | _, _, .nil, _, r => by
    cases r
    exact ⟨_, .nil, by simp⟩
  | _, _, .cons h1 h2, _, r => by
    cases r with
    | cons r1 r2 =>
      obtain ⟨as, q1, n1⟩ := DpL.reads I h1 r1
      obtain ⟨bs, q2, n2⟩ := DpLAll.reads I h2 r2
      exact ⟨_, .cons q1 q2, fun hm => (List.mem_append.mp hm).elim n1 n2⟩
end
/-- what repr tells -/
def RdX (K : PySem.W.Frag) (H : Hp) (v : V) (d : PyData) : Prop := (Dp K H v d ∧ d.hasDict = false) ∨ DpL K H v d
def rReprX (K : PySem.W.Frag) : List V → Hp → VK → Prop := fun xs H Q => ∃ a d, xs = [.ref a] ∧ RdX K H (.ref a) d ∧ d.showable = true ∧ d.depth ≤ 60 ∧ d.shown.length ≤ sizeLine ∧ Q (.str d.shown) H
theorem call_reprX (hG : X.A.guards = some []) (hu : X.A.units + 64 < cLine) : CallR X (.builtin "repr") (rReprX X.K) := by
  intro pins z σ H xs us Q I rel want
  obtain ⟨a, d, ex, hd, h1, h3, h4, q⟩ := want
  subst ex
  obtain ⟨u, eu, rx⟩ := vals1 rel
  subst eu
  have hr : ∃ as, Reads z.heap u d as ∧ (d.hasDict = true → sysModules ∉ as) := by
    rcases hd with ⟨hd, hn⟩ | hd
    · obtain ⟨as, rd⟩ := Dp.reads I d (.ref a) u hd rx
      exact ⟨as, rd, fun h => by rw [hn] at h; cases h⟩
    · obtain ⟨as, rd, hn⟩ := DpL.reads I hd rx
      exact ⟨as, rd, fun _ => hn⟩
  obtain ⟨as, rd, hsm⟩ := hr
  obtain rfl : u = Value.ref a := rx
  exact repr_of_reads' rd h1 hsm hG (by omega) (fun _ _ h => h) (fun h' t tk kp => ⟨.str d.shown, H, I.kept kp, ⟨t, rfl⟩, q⟩) h4
end
/-! ### such data stay -/
def KpD (K : PySem.W.Frag) (H H' : Hp) : Prop := (∀ a xs, SqT K H a xs → SqT K H' a xs) ∧ (∀ a xs, SqL K H a xs → SqL K H' a xs) ∧ ∀ a kvs, H a = some (.dK kvs) → H' a = some (.dK kvs)
section
variable {K : PySem.W.Frag} {H H' : Hp}
mutual
theorem Dp.kp (k : KpD K H H') : ∀ {v : V} {d : PyData}, Dp K H v d → Dp K H' v d
  | _, _, .non => .non
  | _, _, .bl b => .bl b
  | _, _, .int i => .int i
  | _, _, .str x => .str x
  | _, _, .lst hs ha => .lst (k.2.1 _ _ hs) (DpAll.kp k ha)
  | _, _, .tup hs ha => .tup (k.1 _ _ hs) (DpAll.kp k ha)
theorem DpAll.kp (k : KpD K H H') : ∀ {vs : List V} {ds : List PyData}, DpAll K H vs ds → DpAll K H' vs ds
  | _, _, .nil => .nil
  | _, _, .cons h t => .cons (Dp.kp k h) (DpAll.kp k t)
end
mutual
theorem DpL.kp (k : KpD K H H') : ∀ {v : V} {d : PyData}, DpL K H v d → DpL K H' v d
  | _, _, .non => .non
  | _, _, .bl b => .bl b
  | _, _, .int i => .int i
  | _, _, .str x => .str x
  | _, _, .tup hs ha => .tup (k.1 _ _ hs) (DpLAll.kp k ha)
  | _, _, .d0 h => .d0 (k.2.2 _ _ h)
  | _, _, .d1 h hv => .d1 (k.2.2 _ _ h) (DpL.kp k hv)
theorem DpLAll.kp (k : KpD K H H') : ∀ {vs : List V} {ds : List PyData}, DpLAll K H vs ds → DpLAll K H' vs ds
  | _, _, .nil => .nil
  | _, _, .cons h t => .cons (DpL.kp k h) (DpLAll.kp k t)
end
theorem RdX.kp (k : KpD K H H') {v : V} {d : PyData} (h : RdX K H v d) : RdX K H' v d := by
  rcases h with ⟨h, n⟩ | h
  · exact .inl ⟨Dp.kp k h, n⟩
  · exact .inr (DpL.kp k h)
theorem KpD.same (s : Same H H') : KpD K H H' := by
  refine ⟨fun a xs h => ?_, fun a xs h => s.seq h, fun a kvs h => s _ _ h⟩
  rcases h with (h | ⟨o, h⟩) | h
  · exact .inl (.inl (s _ _ h))
  · exact .inl (.inr ⟨o, s _ _ h⟩)
  · exact .inr h
theorem KpD.trans {H1 : Hp} (a : KpD K H H1) (b : KpD K H1 H') : KpD K H H' := ⟨fun x xs h => b.1 x xs (a.1 x xs h), fun x xs h => b.2.1 x xs (a.2.1 x xs h), fun x xs h => b.2.2 x xs (a.2.2 x xs h)⟩
end
/-! ### what can be told -/
structure FineX (k w : Nat) (d : PyData) : Prop where
  shw : d.showable = true
  lsh : d.leavesShort 80 = true
  dep : d.depth ≤ k
  wei : d.weight ≤ w
theorem FineX.mono {k k' w w' : Nat} {d : PyData} (h : FineX k w d) (hk : k ≤ k') (hw : w ≤ w') : FineX k' w' d := ⟨h.shw, h.lsh, Nat.le_trans h.dep hk, Nat.le_trans h.wei hw⟩
theorem FineX.int {i : Int} (h : i.natAbs < 10 ^ 70) : FineX 0 240 (.int i) := by
  have hl : i.natAbs ≠ 0 → i.natAbs.log2 < 233 := fun e => (Nat.log2_lt e).mpr (Nat.lt_of_lt_of_le h (by decide))
  have hl2 : i.natAbs.log2 < 1920 := by
    by_cases e : i.natAbs = 0
    · rw [e]; decide
    · have := hl e; omega
  refine ⟨by rw [PyData.showable]; exact decide_eq_true hl2, ?_, Nat.le_refl _, ?_⟩
  · rw [PyData.leavesShort]
    refine decide_eq_true ?_
    have e := int_text_length_le10 (k := 70) (by decide) h
    show (Str.ofString (toString i)).length ≤ 80
    rw [PySem.ofString_length]
    omega
  · rw [PyData.weight]
    split
    · omega
    · rename_i e
      have := hl (fun z => e (by simpa using z))
      omega
theorem FineX.non : FineX 0 0 .none := ⟨rfl, rfl, Nat.le_refl _, Nat.le_refl _⟩
theorem FineX.bool (b : Bool) : FineX 0 0 (.bool b) := ⟨rfl, rfl, Nat.le_refl _, Nat.le_refl _⟩
theorem FineX.str {x : Str} (h1 : (PyData.str x).leavesShort 80 = true) (h2 : x.cps.size ≤ 100) : FineX 0 100 (.str x) := ⟨rfl, h1, Nat.le_refl _, h2⟩
theorem finex_all {k w : Nat} : ∀ {xs : List PyData}, (∀ x ∈ xs, FineX k w x) → PyData.showableAll xs = true ∧ PyData.leavesShortAll 80 xs = true ∧ PyData.depthAll xs ≤ k ∧ PyData.weightAll xs ≤ xs.length * (w + 1)
  | [], _ => by simp [PyData.showableAll, PyData.leavesShortAll, PyData.depthAll, PyData.weightAll]
  | x :: xs, h => by
    obtain ⟨h1, h2, h3, h4⟩ := finex_all (xs := xs) fun y hy => h y (List.mem_cons_of_mem _ hy)
    obtain ⟨g1, g2, g3, g4⟩ := h x (by simp)
    refine ⟨by rw [PyData.showableAll, g1, h1]; rfl, by rw [PyData.leavesShortAll, g2, h2]; rfl, ?_, ?_⟩
    · rw [PyData.depthAll]
      omega
    · rw [PyData.weightAll, List.length_cons, Nat.succ_mul]
      omega
theorem FineX.tup {k w n : Nat} {xs : List PyData} (h : ∀ x ∈ xs, FineX k w x) (hn : xs.length ≤ n) : FineX (k + 1) (n * (w + 1)) (.tuple xs) := by
  obtain ⟨h1, h2, h3, h4⟩ := finex_all h
  refine ⟨by rw [PyData.showable]; exact h1, by rw [PyData.leavesShort]; exact h2, by rw [PyData.depth]; omega, ?_⟩
  rw [PyData.weight]
  exact Nat.le_trans h4 (Nat.mul_le_mul_right _ hn)
theorem FineX.lst {k w n : Nat} {xs : List PyData} (h : ∀ x ∈ xs, FineX k w x) (hn : xs.length ≤ n) : FineX (k + 1) (n * (w + 1)) (.list xs) := by
  obtain ⟨h1, h2, h3, h4⟩ := finex_all h
  refine ⟨by rw [PyData.showable]; exact h1, by rw [PyData.leavesShort]; exact h2, by rw [PyData.depth]; omega, ?_⟩
  rw [PyData.weight]
  exact Nat.le_trans h4 (Nat.mul_le_mul_right _ hn)
theorem FineX.d0 : FineX 1 0 (.dict []) := ⟨rfl, rfl, by decide, by decide⟩
theorem FineX.d1 {k w : Nat} {i : Int} {d : PyData} (hi : i.natAbs < 10 ^ 70) (h : FineX k w d) : FineX (k + 1) (w + 300) (.dict [(.int i, d)]) := by
  obtain ⟨g1, g2, g3, g4⟩ := FineX.int hi
  refine ⟨by simp only [PyData.showable, PyData.showableKv, Bool.and_true] at g1 ⊢; rw [Bool.and_eq_true]; exact ⟨g1, h.shw⟩, by simp only [PyData.leavesShort, PyData.leavesShortKv, Bool.and_true] at g2 ⊢; rw [Bool.and_eq_true]; exact ⟨g2, h.lsh⟩, ?_, ?_⟩
  · simp only [PyData.depth, PyData.depthKv]
    have := h.dep
    omega
  · simp only [PyData.weight, PyData.weightKv] at g4 ⊢
    have := h.wei
    omega
theorem FineX.len {k w : Nat} {d : PyData} (h : FineX k w d) (hw : w ≤ 200000) : d.shown.length ≤ sizeLine := by
  have := PyData.shown_le 80 (by decide) d h.lsh
  have h2 : (80 + 2) * d.weight ≤ 82 * 200000 := Nat.mul_le_mul (by decide) (Nat.le_trans h.wei hw)
  rw [sizeLine_eq]
  omega
theorem kind_okX (b : Bool) : (PyData.str (kindS b)).leavesShort 80 = true ∧ (kindS b).cps.size ≤ 100 := by cases b <;> decide +kernel
theorem small_int {i : Int} (h0 : -1000 ≤ i) (h1 : i < 1000) : FineX 0 10 (.int i) := by
  have h := FineX.int (i := i) (Nat.lt_of_lt_of_le (show i.natAbs < 1001 by omega) (by decide))
  refine ⟨h.shw, h.lsh, h.dep, ?_⟩
  rw [PyData.weight]
  split
  · omega
  · rename_i e
    have hn : i.natAbs < 1024 := by omega
    have := (Nat.log2_lt (show i.natAbs ≠ 0 from fun z => e (by simpa using z))).mpr (show i.natAbs < 2 ^ 10 by omega)
    omega
theorem FineX.tie {n : Int} {t : Tie} (h : TieOk n t) (hn : n ≤ 40) : FineX 1 303 (tieD t) := by
  obtain ⟨h1, h2, h3, h4, _⟩ := h
  refine (FineX.tup (k := 0) (w := 100) (n := 3) (fun x hx => ?_) (Nat.le_refl _)).mono (Nat.le_refl _) (by decide)
  simp only [List.mem_cons, List.not_mem_nil, or_false] at hx
  rcases hx with rfl | rfl | rfl
  · exact (small_int (by omega) (by omega)).mono (Nat.le_refl _) (by decide)
  · exact (small_int (by omega) (by omega)).mono (Nat.le_refl _) (by decide)
  · exact FineX.str (kind_okX _).1 (kind_okX _).2
theorem FineX.web {n : Int} {ts : List Tie} (h : WebOk n ts) : FineX 3 80000 (webD n ts) := by
  have h1 := h.lo
  have h2 := h.hi
  have ft : FineX 2 36480 (.tuple (ts.map tieD)) := (FineX.tup (k := 1) (w := 303) (n := 120) (fun x hx => by
    obtain ⟨t, ht, rfl⟩ := List.mem_map.mp hx
    exact FineX.tie (h.ok t ht) h2) (by rw [List.length_map]; exact h.few)).mono (Nat.le_refl _) (by decide)
  refine (FineX.tup (k := 2) (w := 36480) (n := 2) (fun x hx => ?_) (Nat.le_refl _)).mono (Nat.le_refl _) (by decide)
  simp only [List.mem_cons, List.not_mem_nil, or_false] at hx
  rcases hx with rfl | rfl
  · exact (small_int (by omega) (by omega)).mono (by decide) (by decide)
  · exact ft
theorem dpl_ties {K : PySem.W.Frag} {H : Hp} : ∀ {vs : List V} {ts : List Tie}, Paired (TieV H) vs ts → DpLAll K H vs (ts.map tieD)
  | _, _, .nil => .nil
  | _, _, .cons r t => by
    obtain ⟨a, rfl, e⟩ := r
    exact .cons (.tup (SqT.of e) (.cons (.int _) (.cons (.int _) (.cons (.str _) .nil)))) (dpl_ties t)
theorem WebAt.dpl {K : PySem.W.Frag} {H : Hp} {v : V} {n : Int} {ts : List Tie} (h : WebAt H v n ts) : DpL K H v (webD n ts) := by
  obtain ⟨a, b, vs, rfl, h1, h2, h3⟩ := h
  exact .tup (SqT.of h1) (.cons (.int _) (.cons (.tup (SqT.of h2) (dpl_ties h3)) .nil))
theorem web_nod (n : Int) (ts : List Tie) : (webD n ts).hasDict = false := by
  have h : ∀ ts : List Tie, PyData.hasDictAll (ts.map tieD) = false := fun ts => by
    induction ts with
    | nil => rfl
    | cons t ts ih => rw [List.map_cons, PyData.hasDictAll, ih]; rfl
  unfold webD
  simp only [PyData.hasDict, PyData.hasDictAll, h, Bool.or_false]
/-- a web beside a thing -/
theorem RdX.pair {K : PySem.W.Frag} {H : Hp} {r : Addr} {wv v : V} {n : Int} {ts : List Tie} {d : PyData} (hr : H r = some (.tup [wv, v])) (hw : WebAt H wv n ts) (h : RdX K H v d) : RdX K H (.ref r) (.tuple [webD n ts, d]) := by
  rcases h with ⟨h, hn⟩ | h
  · refine .inl ⟨.tup (SqT.of hr) (.cons hw.dp (.cons h .nil)), ?_⟩
    simp only [PyData.hasDict, PyData.hasDictAll, web_nod, hn, Bool.or_false]
  · exact .inr (.tup (SqT.of hr) (.cons hw.dpl (.cons h .nil)))
def Knw (H : Hp) (v : V) : Prop := Kn H v ∧ ∀ xs, parts H v = some xs → xs.length ≤ 1000 ∧ ∀ x ∈ xs, Kn H x
theorem Knw.part {H : Hp} {v : V} (h : Knw H v) : Part2 H v := ⟨h.1, fun ys e => ⟨(h.2 ys e).2, (h.2 ys e).1⟩⟩
/-! ### k08: things drawn -/
theorem same_new2 {H : Hp} {p : Addr} {o o' : HO} (h : H p = none) : Same H (upd (upd H p o) p o') := fun b x e => by
  rw [upd_ne (ne_of_none e h), upd_ne (ne_of_none e h)]
  exact e
/-- a thing that can be judged and told -/
def Th (K : PySem.W.Frag) (k w : Nat) (H : Hp) (v : V) : Prop := Knw H v ∧ ∃ d, RdX K H v d ∧ FineX k w d
theorem knw_of {H : Hp} {v : V} (h : Kn H v) (n : isT H v = false) : Knw H v := ⟨h, fun xs e => by rw [parts_none n] at e; cases e⟩
theorem knw_tup {H : Hp} {a : Addr} {xs : List V} (h : H a = some (.tup xs)) (l : xs.length ≤ 1000) (k : ∀ x ∈ xs, Kn H x) : Knw H (.ref a) := ⟨.inr (.inl ⟨xs, h⟩), fun ys e => by
  rw [parts_of' h] at e
  cases e
  exact ⟨l, k⟩⟩
theorem knw_lst {H : Hp} {a : Addr} {xs : List V} (h : H a = some (.lst xs)) : Knw H (.ref a) := knw_of (.inl ⟨xs, h⟩) (by unfold isT; simp only [h])
theorem knw_dct {H : Hp} {a : Addr} {xs : List (Key × V)} (h : H a = some (.dK xs)) : Knw H (.ref a) := knw_of (.inr (.inr ⟨xs, h⟩)) (by unfold isT; simp only [h])
theorem th_int {K : PySem.W.Frag} {H : Hp} {i : Int} (h : i.natAbs < 10 ^ 70) : Th K 3 600 H (.int i) := ⟨knw_of trivial rfl, _, .inr (.int i), (FineX.int h).mono (by decide) (by decide)⟩
theorem th_bl {K : PySem.W.Frag} {H : Hp} (b : Bool) : Th K 3 600 H (.bl b) := ⟨knw_of trivial rfl, _, .inr (.bl b), (FineX.bool b).mono (by decide) (by decide)⟩
theorem th_str {K : PySem.W.Frag} {H : Hp} {x : Str} (h1 : (PyData.str x).leavesShort 80 = true) (h2 : x.cps.size ≤ 100) : Th K 3 600 H (.str x) := ⟨knw_of trivial rfl, _, .inr (.str x), (FineX.str h1 h2).mono (by decide) (by decide)⟩
def spOddT (K : PySem.W.Frag) : Sp := fun vs H Q _ => ∃ (d c : Addr), vs = [.ref d] ∧ Deck H d c ∧ ∀ v H', Deck H' d c → Kp d c H H' → (∀ H'', Kp d c H' H'' → Th K 3 600 H'' v ∧ Thing2 H'' v) → Q v H'
theorem tg_no {H : Hp} {v : V} (h : Kn H v) (n : isT H v = false) : Thing2 H v := ⟨h, fun xs e => by rw [parts_none n] at e; cases e⟩
theorem tg_tup {H : Hp} {a : Addr} {xs : List V} (h : H a = some (.tup xs)) (k : ∀ x ∈ xs, Part2 H x) : Thing2 H (.ref a) := ⟨.inr (.inl ⟨xs, h⟩), fun ys e => by
  rw [parts_of' h] at e
  cases e
  exact k⟩
theorem tg_lst {H : Hp} {a : Addr} {xs : List V} (h : H a = some (.lst xs)) : Thing2 H (.ref a) := tg_no (.inl ⟨xs, h⟩) (by unfold isT; simp only [h])
theorem tg_dct {H : Hp} {a : Addr} {xs : List (Key × V)} (h : H a = some (.dK xs)) : Thing2 H (.ref a) := tg_no (.inr (.inr ⟨xs, h⟩)) (by unfold isT; simp only [h])
theorem part_int {H : Hp} (i : Int) : Part2 H (.int i) := ⟨trivial, fun ys e => by cases e⟩
theorem part_row {H : Hp} {a : Addr} {xs : List V} (h : H a = some (.tup xs)) (k : ∀ x ∈ xs, Kn H x) (l : xs.length ≤ 1000) : Part2 H (.ref a) := ⟨.inr (.inl ⟨xs, h⟩), fun ys e => by
  rw [parts_of' h] at e
  cases e
  exact ⟨k, l⟩⟩
section
variable {P : Program} {w : World} {K : PySem.W.Frag} {mg : Str → Option Value} {base : Heap}
theorem ok_l_odd {f : Addr} {fd : FuncData} (F : Fun K "_law_odd" "_law_odd" s_l_odd f fd) (D_l_draw : Df P w K mg base 1 "_law_draw" ["_law_deck_here", "_law_most"] spDraw) : FnOk P w K mg base CX0 2 f fd ["_law_deck_here"] (spOddT K) := by
  obtain ⟨f_l_draw, fd_l_draw, G_l_draw, g_l_draw, k_l_draw, b_l_draw⟩ := D_l_draw
  refine F.ok sc_l_odd (fun vs H Q E h => ?_) (fun cdv A outer s H vs Q E hr h => ?_)
  · obtain ⟨d, c, rfl, _⟩ := h
    rfl
  · obtain ⟨d, c, rfl, hD, q⟩ := h
    refine ⟨_, (pss_cons (ps_set (i := 1) sc_l_odd.nd rfl (.inl rfl) (pe_lst (pa_cons pe_int (pa_cons (pe_un un_neg pe_int) (pa_cons pe_bl (pa_cons pe_bl (pa_cons pe_non (pa_cons pe_str (pa_cons pe_str (pa_cons (pe_tup (pa_cons pe_int pa_nil)) (pa_cons (pe_tup pa_nil) (pa_cons (pe_lst (pa_cons pe_int pa_nil)) (pa_cons pe_dnewK (pa_cons (pe_op op_pow pe_int pe_int) (pa_cons (pe_op op_sub pe_int (pe_op op_pow pe_int pe_int)) (pa_cons pe_int (pa_cons pe_str (pa_cons (pe_tup (pa_cons (pe_tup pa_nil) pa_nil)) (pa_cons (pe_lst pa_nil) (pa_cons (pe_disp (pps_cons pe_int pe_int pps_nil) (by rfl) (by rfl) (fun z => by cases z) (by decide)) pa_nil))))))))))))))))))))
      (pss_one (ps_ret (pe_ix ix_list (pv 1) (pe_call G_l_draw (hr.mono (by decide)) (by rfl) g_l_draw k_l_draw b_l_draw .nil pass0 (pa_cons (pv 0) (pa_cons pe_int pa_nil))) (fun _ _ => rfl))))), ?_⟩
    refine ⟨1, rfl, by show 1 ≤ sizeLine; decide, fun p1 n1 => ?_⟩
    have s1 : Same H _ := same_new (o := .tup [.int 0]) n1
    have h1 : (upd H p1 (.tup [.int 0])) p1 = some (.tup [.int 0]) := upd_same
    generalize upd H p1 (.tup [.int 0]) = H1 at s1 h1
    refine ⟨Nat.zero_le _, fun p2 n2 => ?_⟩
    have s2 : Same H1 _ := same_new (o := .tup []) n2
    have h2 : (upd H1 p2 (.tup [])) p2 = some (.tup []) := upd_same
    generalize upd H1 p2 (.tup []) = H2 at s2 h2
    refine ⟨by show 1 ≤ sizeLine; decide, fun p3 n3 => ?_⟩
    have e3 := (hD.same (s1.trans s2)).ned n3
    have s3 : Same H2 _ := same_new (o := .lst [.int 0]) n3
    have h3 : (upd H2 p3 (.lst [.int 0])) p3 = some (.lst [.int 0]) := upd_same
    generalize upd H2 p3 (.lst [.int 0]) = H3 at s3 h3
    refine fun p4 n4 => ?_
    have e4 := (hD.same ((s1.trans s2).trans s3)).ned n4
    have s4 : Same H3 _ := same_new (o := .dK []) n4
    have h4 : (upd H3 p4 (.dK [])) p4 = some (.dK []) := upd_same
    generalize upd H3 p4 (.dK []) = H4 at s4 h4
    refine ⟨10, 59, rfl, rfl, ⟨by decide, by decide, by decide⟩, 10, 59, rfl, rfl, ⟨by decide, by decide, by decide⟩, 0, _, rfl, rfl, Nat.zero_le _, fun p5 n5 => ?_⟩
    have s5 : Same H4 _ := same_new (o := .tup []) n5
    have h5 : (upd H4 p5 (.tup [])) p5 = some (.tup []) := upd_same
    generalize upd H4 p5 (.tup []) = H5 at s5 h5
    refine ⟨by show 1 ≤ sizeLine; decide, fun p6 n6 => ?_⟩
    have s6 : Same H5 _ := same_new (o := .tup [.ref p5]) n6
    have h6 : (upd H5 p6 (.tup [.ref p5])) p6 = some (.tup [.ref p5]) := upd_same
    generalize upd H5 p6 (.tup [.ref p5]) = H6 at s6 h6
    refine ⟨Nat.zero_le _, fun p7 n7 => ?_⟩
    have t6 : Same H H6 := ((((s1.trans s2).trans s3).trans s4).trans s5).trans s6
    have e7 := (hD.same t6).ned n7
    have s7 : Same H6 _ := same_new (o := .lst []) n7
    have h7 : (upd H6 p7 (.lst [])) p7 = some (.lst []) := upd_same
    generalize upd H6 p7 (.lst []) = H7 at s7 h7
    refine fun p8 n8 => ⟨upd_same, [(Sum.inl 0, .int 1)], rfl, by decide, ?_⟩
    have e8 := (hD.same (t6.trans s7)).ned n8
    have s8 : Same H7 _ := same_new2 (o := .dK []) (o' := .dK (mergeK [] [((Sum.inl 0 : Key), V.int 1)])) n8
    have h8 : (upd (upd H7 p8 (.dK [])) p8 (.dK (mergeK [] [((Sum.inl 0 : Key), V.int 1)]))) p8 = some (.dK [(Sum.inl 0, .int 1)]) := upd_same
    generalize upd (upd H7 p8 (.dK [])) p8 (.dK (mergeK [] [((Sum.inl 0 : Key), V.int 1)])) = H8 at s8 h8
    refine ⟨by show 18 ≤ sizeLine; decide, fun S nS => ?_⟩
    have t8 : Same H H8 := (t6.trans s7).trans s8
    have eS := (hD.same t8).ned nS
    refine ⟨.ref S, rfl, .ref d, rfl, d, c, 18, rfl, (hD.same t8).new nS, by decide, by decide, fun v H9 a9 b9 D9 K9 => ?_⟩
    have D8 := (hD.same t8).new (o := .lst []) nS
    have sS : ∀ o, Same H8 (upd H8 S o) := fun o => same_new nS
    have K : Kp d c H H9 := (Kp.trans (Same.kp t8) (Kp.new nS)).trans K9
    have hS := K9 _ _ eS.1 eS.2 upd_same
    have kp : ∀ b o, b ≠ d → b ≠ c → H8 b = some o → H9 b = some o := fun b o x y z => K9 b o x y (sS _ _ _ z)
    have ned : ∀ b xs, H8 b = some (.tup xs) → b ≠ d ∧ b ≠ c := fun b xs e => by
      obtain ⟨cells, st, n, z1, z2, _⟩ := hD.same t8
      exact ⟨ne_of e z1 (by intro z; cases z), ne_of e z2 (by intro z; cases z)⟩
    have kt : ∀ b xs, H8 b = some (.tup xs) → H9 b = some (.tup xs) := fun b xs e => kp b _ (ned b xs e).1 (ned b xs e).2 e
    have u7 := s7.trans s8
    have u6 := s6.trans u7
    have u5 := s5.trans u6
    have u4 := s4.trans u5
    have u3 := s3.trans u4
    have u2 := s2.trans u3
    have g1 := kt _ _ (u2 _ _ h1)
    have g2 := kt _ _ (u3 _ _ h2)
    have g3 := kp _ _ e3.1 e3.2 (u4 _ _ h3)
    have g4 := kp _ _ e4.1 e4.2 (u5 _ _ h4)
    have g5 := kt _ _ (u6 _ _ h5)
    have g6 := kt _ _ (u7 _ _ h6)
    have g7 := kp _ _ e7.1 e7.2 (s8 _ _ h7)
    have g8 := kp _ _ e8.1 e8.2 h8
    have n1 := ned _ _ (u2 _ _ h1)
    have n2' := ned _ _ (u3 _ _ h2)
    have n5' := ned _ _ (u6 _ _ h5)
    have n6' := ned _ _ (u7 _ _ h6)
    have G1 : ∀ Hx, Kp d c H9 Hx → _ := fun Hx kx => kx _ _ n1.1 n1.2 g1
    have G2 : ∀ Hx, Kp d c H9 Hx → _ := fun Hx kx => kx _ _ n2'.1 n2'.2 g2
    have G3 : ∀ Hx, Kp d c H9 Hx → _ := fun Hx kx => kx _ _ e3.1 e3.2 g3
    have G4 : ∀ Hx, Kp d c H9 Hx → _ := fun Hx kx => kx _ _ e4.1 e4.2 g4
    have G5 : ∀ Hx, Kp d c H9 Hx → _ := fun Hx kx => kx _ _ n5'.1 n5'.2 g5
    have G6 : ∀ Hx, Kp d c H9 Hx → _ := fun Hx kx => kx _ _ n6'.1 n6'.2 g6
    have G7 : ∀ Hx, Kp d c H9 Hx → _ := fun Hx kx => kx _ _ e7.1 e7.2 g7
    have G8 : ∀ Hx, Kp d c H9 Hx → _ := fun Hx kx => kx _ _ e8.1 e8.2 g8
    have go : ∀ z : V, (∀ Hx, Kp d c H9 Hx → Th _ 3 600 Hx z ∧ Thing2 Hx z) → Q z H9 := fun z hz => q z H9 D9 K hz
    have zero : FineX 0 240 (.int 0) := FineX.int (by decide)
    have t5 : FineX 1 0 (.tuple []) := (FineX.tup (k := 0) (w := 0) (n := 0) (fun x hx => by simp at hx) (Nat.le_refl _)).mono (Nat.le_refl _) (by decide)
    obtain ⟨k, rfl⟩ : ∃ k : Nat, v = k := ⟨v.toNat, by omega⟩
    have hk : k < 18 := by omega
    refine ⟨S, _, k, _, rfl, rfl, SqL.of hS, atI_nat (List.getElem?_eq_getElem (by exact hk)), ?_⟩
    match k, hk with
    | 0, _ => exact go _ (fun Hx kx => And.intro ((th_int (by decide))) (tg_no trivial rfl))
    | 1, _ => exact go _ (fun Hx kx => And.intro ((th_int (by decide))) (tg_no trivial rfl))
    | 2, _ => exact go _ (fun Hx kx => And.intro ((th_bl _)) (tg_no trivial rfl))
    | 3, _ => exact go _ (fun Hx kx => And.intro ((th_bl _)) (tg_no trivial rfl))
    | 4, _ => exact go _ (fun Hx kx => And.intro (⟨knw_of trivial rfl, _, .inr .non, FineX.non.mono (by decide) (by decide)⟩) (tg_no trivial rfl))
    | 5, _ => exact go _ (fun Hx kx => And.intro ((th_str (by decide +kernel) (by decide +kernel))) (tg_no trivial rfl))
    | 6, _ => exact go _ (fun Hx kx => And.intro ((th_str (by decide +kernel) (by decide +kernel))) (tg_no trivial rfl))
    | 7, _ => exact go _ (fun Hx kx => And.intro (⟨knw_tup (G1 Hx kx) (by decide) (fun x hx => by rw [List.mem_singleton.mp hx]; trivial), _, .inr (.tup (SqT.of (G1 Hx kx)) (.cons (.int _) .nil)), (FineX.tup (k := 0) (w := 240) (n := 1) (fun x hx => by rw [List.mem_singleton.mp hx]; exact zero) (Nat.le_refl _)).mono (by decide) (by decide)⟩) (tg_tup (G1 Hx kx) (fun x hx => by rw [List.mem_singleton.mp hx]; exact part_int 0)))
    | 8, _ => exact go _ (fun Hx kx => And.intro (⟨knw_tup (G2 Hx kx) (by decide) (fun x hx => by simp at hx), _, .inr (.tup (SqT.of (G2 Hx kx)) .nil), t5.mono (by decide) (by decide)⟩) (tg_tup (G2 Hx kx) (fun x hx => by simp at hx)))
    | 9, _ => exact go _ (fun Hx kx => And.intro (⟨knw_lst (G3 Hx kx), _, .inl ⟨.lst (SqL.of (G3 Hx kx)) (.cons (.int _) .nil), rfl⟩, (FineX.lst (k := 0) (w := 240) (n := 1) (fun x hx => by rw [List.mem_singleton.mp hx]; exact zero) (Nat.le_refl _)).mono (by decide) (by decide)⟩) (tg_lst (G3 Hx kx)))
    | 10, _ => exact go _ (fun Hx kx => And.intro (⟨knw_dct (G4 Hx kx), _, .inr (.d0 (G4 Hx kx)), FineX.d0.mono (by decide) (by decide)⟩) (tg_dct (G4 Hx kx)))
    | 11, _ => exact go _ (fun Hx kx => And.intro ((th_int (by decide +kernel))) (tg_no trivial rfl))
    | 12, _ => exact go _ (fun Hx kx => And.intro ((th_int (by decide +kernel))) (tg_no trivial rfl))
    | 13, _ => exact go _ (fun Hx kx => And.intro ((th_int (by decide))) (tg_no trivial rfl))
    | 14, _ => exact go _ (fun Hx kx => And.intro ((th_str (by decide +kernel) (by decide +kernel))) (tg_no trivial rfl))
    | 15, _ => exact go _ (fun Hx kx => And.intro (⟨knw_tup (G6 Hx kx) (by show 1 ≤ 1000; decide) (fun x hx => by rw [List.mem_singleton.mp hx]; exact .inr (.inl ⟨_, (G5 Hx kx)⟩)), _, .inr (.tup (SqT.of (G6 Hx kx)) (.cons (.tup (SqT.of (G5 Hx kx)) .nil) .nil)), (FineX.tup (k := 1) (w := 0) (n := 1) (fun x hx => by rw [List.mem_singleton.mp hx]; exact t5) (Nat.le_refl _)).mono (by decide) (by decide)⟩) (tg_tup (G6 Hx kx) (fun x hx => by rw [List.mem_singleton.mp hx]; exact part_row (G5 Hx kx) (fun y hy => by simp at hy) (Nat.zero_le _))))
    | 16, _ => exact go _ (fun Hx kx => And.intro (⟨knw_lst (G7 Hx kx), _, .inl ⟨.lst (SqL.of (G7 Hx kx)) .nil, rfl⟩, (FineX.lst (k := 0) (w := 0) (n := 0) (fun x hx => by simp at hx) (Nat.le_refl _)).mono (by decide) (by decide)⟩) (tg_lst (G7 Hx kx)))
    | 17, _ => exact go _ (fun Hx kx => And.intro (⟨knw_dct (G8 Hx kx), _, .inr (.d1 (G8 Hx kx) (.int _)), (FineX.d1 (k := 0) (w := 240) (by decide) (FineX.int (by decide))).mono (by decide) (by decide)⟩) (tg_dct (G8 Hx kx)))
end
/-! ### k08: things spoilt -/
def Row (k : Nat) (ns : List Int) : Prop := ns.length ≤ k ∧ ∀ x ∈ ns, 0 ≤ x ∧ x < 1000
theorem row_cut {k : Nat} {ns : List Int} (h : Row k ns) (lo hi : Option Int) : ∃ ms : List Int, cutV (ns.map V.int) lo hi = ms.map V.int ∧ Row k ms := by
  refine ⟨(ns.drop (HT.sIx ns.length 0 lo)).take (HT.sIx ns.length ns.length hi - HT.sIx ns.length 0 lo), ?_, ?_, fun x hx => h.2 x (List.mem_of_mem_drop (List.mem_of_mem_take hx))⟩
  · unfold cutV
    rw [List.length_map, List.map_take, List.map_drop]
  · have := h.1
    rw [List.length_take, List.length_drop]
    omega
theorem Row.app {k l : Nat} {a b : List Int} (h : Row k a) (g : Row l b) : Row (k + l) (a ++ b) := ⟨by rw [List.length_append]; have := h.1; have := g.1; omega, fun x hx => (List.mem_append.mp hx).elim (h.2 x) (g.2 x)⟩
theorem Row.rev {k : Nat} {a : List Int} (h : Row k a) : Row k a.reverse := ⟨by rw [List.length_reverse]; exact h.1, fun x hx => h.2 x (List.mem_reverse.mp hx)⟩
theorem Row.one {x : Int} (h0 : 0 ≤ x) (h1 : x < 1000) : Row 1 [x] := ⟨Nat.le_refl _, fun y hy => by rw [List.mem_singleton.mp hy]; exact ⟨h0, h1⟩⟩
theorem KpD.kt {K : PySem.W.Frag} {Ps : List Addr} {H H' : Hp} (t : Tabs Ps H) (k : Kt Ps H H') : KpD K H H' := by
  refine ⟨fun a xs h => ?_, fun a xs h => ?_, fun a kvs h => k.dct t h⟩
  · rcases h with (h | ⟨o, h⟩) | h
    · exact .inl (.inl (k.tup t h))
    · exact .inl (.inr ⟨o, k.keep _ _ (t.out h fun _ z => by cases z) h⟩)
    · exact .inr h
  · rcases h with (h | ⟨o, h⟩) | h
    · exact .inl (.inl (k.lst t h))
    · exact .inl (.inr ⟨o, k.keep _ _ (t.out h fun _ z => by cases z) h⟩)
    · exact .inr h
def Kx (H H' : Hp) : Prop := (∀ a xs, H a = some (.tup xs) → H' a = some (.tup xs)) ∧ (∀ a xs, H a = some (.lst xs) → H' a = some (.lst xs)) ∧ ∀ a xs, H a = some (.dK xs) → H' a = some (.dK xs)
theorem Kx.same {H H' : Hp} (s : Same H H') : Kx H H' := ⟨fun a xs h => s a _ h, fun a xs h => s a _ h, fun a xs h => s a _ h⟩
theorem Kx.kt {Ps : List Addr} {H H' : Hp} (t : Tabs Ps H) (k : Kt Ps H H') : Kx H H' := ⟨fun a xs h => k.tup t h, fun a xs h => k.lst t h, fun a xs h => k.dct t h⟩
theorem Kn.kx {H H' : Hp} {v : V} (h : Kn H v) (k : Kx H H') : Kn H' v := by
  cases v with
  | ref a =>
    rcases h with ⟨xs, h⟩ | ⟨xs, h⟩ | ⟨xs, h⟩
    · exact .inl ⟨xs, k.2.1 _ _ h⟩
    · exact .inr (.inl ⟨xs, k.1 _ _ h⟩)
    · exact .inr (.inr ⟨xs, k.2.2 _ _ h⟩)
  | _ => exact h
theorem Kn.parts_kx {H H' : Hp} {v : V} (h : Kn H v) (k : Kx H H') : parts H' v = parts H v := by
  cases v with
  | ref a =>
    rcases h with ⟨xs, h⟩ | ⟨xs, h⟩ | ⟨xs, h⟩
    · rw [parts_none (H := H) (by unfold isT; simp only [h]), parts_none (H := H') (by unfold isT; simp only [k.2.1 _ _ h])]
    · rw [parts_of' h, parts_of' (k.1 _ _ h)]
    · rw [parts_none (H := H) (by unfold isT; simp only [h]), parts_none (H := H') (by unfold isT; simp only [k.2.2 _ _ h])]
  | _ => rfl
theorem Knw.kx {H H' : Hp} {v : V} (h : Knw H v) (k : Kx H H') : Knw H' v := ⟨h.1.kx k, fun xs e => by
  rw [h.1.parts_kx k] at e
  exact ⟨(h.2 xs e).1, fun x hx => ((h.2 xs e).2 x hx).kx k⟩⟩
theorem Th.same {K : PySem.W.Frag} {k w : Nat} {H H' : Hp} {v : V} (h : Th K k w H v) (s : Same H H') : Th K k w H' v := by
  obtain ⟨h1, d, h2, h3⟩ := h
  exact ⟨h1.kx (Kx.same s), d, h2.kp (KpD.same s), h3⟩
theorem Th.mono {K : PySem.W.Frag} {k w k' w' : Nat} {H : Hp} {v : V} (h : Th K k w H v) (hk : k ≤ k') (hw : w ≤ w') : Th K k' w' H v := by
  obtain ⟨h1, d, h2, h3⟩ := h
  exact ⟨h1, d, h2, h3.mono hk hw⟩
theorem dpl_ints {K : PySem.W.Frag} {H : Hp} : ∀ (ns : List Int), DpLAll K H (ns.map V.int) (ns.map PyData.int)
  | [] => .nil
  | n :: ns => .cons (.int n) (dpl_ints ns)
theorem dpa_ints {K : PySem.W.Frag} {H : Hp} : ∀ (ns : List Int), DpAll K H (ns.map V.int) (ns.map PyData.int)
  | [] => .nil
  | n :: ns => .cons (.int n) (dpa_ints ns)
theorem dpl_app {K : PySem.W.Frag} {H : Hp} : ∀ {vs us : List V} {ds es : List PyData}, DpLAll K H vs ds → DpLAll K H us es → DpLAll K H (vs ++ us) (ds ++ es)
  | _, _, _, _, .nil, h => h
  | _, _, _, _, .cons a b, h => .cons a (dpl_app b h)
theorem dpa_app {K : PySem.W.Frag} {H : Hp} : ∀ {vs us : List V} {ds es : List PyData}, DpAll K H vs ds → DpAll K H us es → DpAll K H (vs ++ us) (ds ++ es)
  | _, _, _, _, .nil, h => h
  | _, _, _, _, .cons a b, h => .cons a (dpa_app b h)
theorem nod_app (xs ys : List PyData) : PyData.hasDictAll (xs ++ ys) = (PyData.hasDictAll xs || PyData.hasDictAll ys) := by
  induction xs with
  | nil => rfl
  | cons x xs ih => rw [List.cons_append, PyData.hasDictAll, PyData.hasDictAll, ih, Bool.or_assoc]
theorem nod_ints (ns : List Int) : PyData.hasDictAll (ns.map PyData.int) = false := by
  induction ns with
  | nil => rfl
  | cons x xs ih => rw [List.map_cons, PyData.hasDictAll, ih]; rfl
theorem fine_row {ns : List Int} (h : Row 200 ns) : ∀ x ∈ ns.map PyData.int, FineX 0 10 x := fun x hx => by
  obtain ⟨n, hn, rfl⟩ := List.mem_map.mp hx
  have := h.2 n hn
  exact small_int (by omega) (by omega)
theorem Row.mono {k l : Nat} {ns : List Int} (h : Row k ns) (e : k ≤ l) : Row l ns := ⟨Nat.le_trans h.1 e, h.2⟩
theorem fine_rowT {ns : List Int} (h : Row 200 ns) : FineX 1 2200 (.tuple (ns.map .int)) := (FineX.tup (k := 0) (w := 10) (n := 200) (fine_row h) (by rw [List.length_map]; exact h.1)).mono (by decide) (by decide)
theorem kn_ints {H : Hp} (ns : List Int) : ∀ x ∈ ns.map V.int, Kn H x := fun x hx => by
  obtain ⟨n, _, rfl⟩ := List.mem_map.mp hx
  trivial
theorem th_row {K : PySem.W.Frag} {H : Hp} {r : Addr} {k : Nat} {ns : List Int} (h : H r = some (.tup (ns.map V.int))) (o : Row k ns) (hk : k ≤ 200) : Th K 5 49000 H (.ref r) :=
  ⟨knw_tup h (by rw [List.length_map]; exact Nat.le_trans o.1 (by omega)) (kn_ints ns), _, .inr (.tup (SqT.of h) (dpl_ints ns)), (fine_rowT (o.mono hk)).mono (by decide) (by decide)⟩
theorem th_mix {K : PySem.W.Frag} {H : Hp} {r : Addr} {v : V} {a b : List Int} (h : H r = some (.tup (a.map V.int ++ [v] ++ b.map V.int))) (oa : Row 40 a) (ob : Row 40 b) (hv : Th K 3 600 H v) : Th K 5 49000 H (.ref r) := by
  obtain ⟨h1, d, h2, h3⟩ := hv
  have la := oa.1
  have lb := ob.1
  refine ⟨knw_tup h (by simp only [List.length_append, List.length_map, List.length_singleton]; omega) (fun x hx => ?_), .tuple (a.map .int ++ [d] ++ b.map .int), ?_, (FineX.tup (k := 3) (w := 600) (n := 81) (fun x hx => ?_) (by simp only [List.length_append, List.length_map, List.length_singleton]; omega)).mono (by decide) (by decide)⟩
  · rcases List.mem_append.mp hx with z | z
    · rcases List.mem_append.mp z with z | z
      · exact kn_ints a x z
      · rw [List.mem_singleton.mp z]
        exact h1.1
    · exact kn_ints b x z
  · rcases h2 with ⟨h2, hn⟩ | h2
    · refine .inl ⟨.tup (SqT.of h) (dpa_app (dpa_app (dpa_ints a) (.cons h2 .nil)) (dpa_ints b)), ?_⟩
      rw [PyData.hasDict, nod_app, nod_app, nod_ints, nod_ints]
      simp only [PyData.hasDictAll, hn, Bool.or_false]
    · exact .inr (.tup (SqT.of h) (dpl_app (dpl_app (dpl_ints a) (.cons h2 .nil)) (dpl_ints b)))
  · rcases List.mem_append.mp hx with z | z
    · rcases List.mem_append.mp z with z | z
      · exact (fine_row (oa.mono (by decide)) x z).mono (by decide) (by decide)
      · rw [List.mem_singleton.mp z]
        exact h3
    · exact (fine_row (ob.mono (by decide)) x z).mono (by decide) (by decide)
/-! ### k11: a ring begun elsewhere -/
structure Rows (k : Nat) (n m : Int) (pn en : List Int) : Prop where
  lp : pn.length = k
  le : en.length = k
  op : ∀ x ∈ pn, 0 ≤ x ∧ x < n
  oe : ∀ x ∈ en, 0 ≤ x ∧ x < m
def spBegun : Sp := fun vs H Q _ => ∃ (d c : Addr) (rv : V) (k : Nat) (n m : Int) (pn en : List Int), vs = [.ref d, rv] ∧ Deck H d c ∧ PairAt H rv pn en ∧ Rows k n m pn en ∧ 2 ≤ k ∧ k ≤ 40 ∧ ∀ v pn' en' H', PairAt H' v pn' en' → Rows k n m pn' en' → Deck H' d c → Kp d c H H' → Q v H'
theorem turn_len {k : Nat} (xs : List Int) (h : k ≤ xs.length) : (xs.drop k ++ xs.take k).length = xs.length := by
  rw [List.length_append, List.length_drop, List.length_take]
  omega
theorem turn_mem {k : Nat} {xs : List Int} {x : Int} (h : x ∈ xs.drop k ++ xs.take k) : x ∈ xs := (List.mem_append.mp h).elim List.mem_of_mem_drop List.mem_of_mem_take
theorem cutI_take {ns : List Int} {k : Nat} (h : k ≤ ns.length) : cutV (ns.map V.int) none (some (k : Int)) = (ns.take k).map V.int := by
  rw [cut_take (by rw [List.length_map]; exact h), List.map_take]
theorem cutI_drop {ns : List Int} {k : Nat} (h : k ≤ ns.length) : cutV (ns.map V.int) (some (k : Int)) none = (ns.drop k).map V.int := by
  rw [cut_drop (by rw [List.length_map]; exact h), List.map_drop]
section
variable {P : Program} {w : World} {K : PySem.W.Frag} {mg : Str → Option Value} {base : Heap}
theorem ok_l_begun {f : Addr} {fd : FuncData} (F : Fun K "_law_begun" "_law_begun" s_l_begun f fd) (M : Free mg) (D_l_draw : Df P w K mg base 1 "_law_draw" ["_law_deck_here", "_law_most"] spDraw) : FnOk P w K mg base CX0 2 f fd ["_law_deck_here", "_law_ring"] spBegun := by
  obtain ⟨f_l_draw, fd_l_draw, G_l_draw, g_l_draw, k_l_draw, b_l_draw⟩ := D_l_draw
  refine F.ok sc_l_begun (fun vs H Q E h => ?_) (fun cdv A outer s H vs Q E hr h => ?_)
  · obtain ⟨d, c, rv, k, n, m, pn, en, rfl, _⟩ := h
    rfl
  · obtain ⟨d, c, rv, k, n, m, pn, en, rfl, hD, hP, ro, k2, k40, q⟩ := h
    refine ⟨_, (pss_cons (ps_asg (pv 1) (pg_tup rfl (pgs_cons (pg_name (i := 2) sc_l_begun.nd rfl (.inl rfl)) (pgs_cons (pg_name (i := 3) sc_l_begun.nd rfl (.inl rfl)) pgs_nil))))
      (pss_cons (ps_set (i := 4) sc_l_begun.nd rfl (.inl rfl) (pe_call G_l_draw (hr.mono (by decide)) (by rfl) g_l_draw k_l_draw b_l_draw .nil pass0 (pa_cons (pv 0) (pa_cons (pe_callB call_len_seq (by rfl) M.len PySem.boot_len (pa_cons (pv 2) pa_nil)) pa_nil))))
      (Evl.pss_cut (ps_if (pt_cmpR op_eq (pe_call G_l_draw (hr.mono (by decide)) (by rfl) g_l_draw k_l_draw b_l_draw .nil pass0 (pa_cons (pv 0) (pa_cons pe_int pa_nil))) pe_int (nomark _))
        (pss_cons (ps_set (i := 2) sc_l_begun.nd rfl (.inl rfl) (pe_op op_catU (pe_slice sl_tupU (pv 2) po_none (po_some pe_int)) (pe_revT (pe_slice sl_tupU (pv 2) (po_some pe_int) po_none))))
        (pss_one (ps_set (i := 3) sc_l_begun.nd rfl (.inl rfl) (pe_revT (pv 3)))))
        pss_nil)
      (pss_one (ps_ret (pe_tup (pa_cons (pe_op op_catU (pe_slice sl_tupU (pv 2) (po_some (pv 4)) po_none) (pe_slice sl_tupU (pv 2) po_none (po_some (pv 4)))) (pa_cons (pe_op op_catU (pe_slice sl_tupU (pv 3) (po_some (pv 4)) po_none) (pe_slice sl_tupU (pv 3) po_none (po_some (pv 4)))) pa_nil)))))))), ?_⟩
    obtain ⟨a, pa, ta, rfl, ha, hpa, hta⟩ := hP
    have lp := ro.lp
    have le := ro.le
    refine ⟨.ref a, rfl, a, _, rfl, SqT.of ha, rfl, _, _, rfl, _, _, rfl, rfl, ?_⟩
    refine ⟨.ref d, rfl, .ref pa, rfl, pa, _, rfl, .inr (SqT.of hpa), d, c, _, rfl, hD, by rw [List.length_map]; omega, by rw [List.length_map]; omega, fun at' H1 a1 b1 D1 K1 => ?_⟩
    rw [List.length_map] at b1
    obtain ⟨j, rfl⟩ : ∃ j : Nat, at' = j := ⟨at'.toNat, by omega⟩
    have hpa1 := K1.tk hD _ _ hpa
    have hta1 := K1.tk hD _ _ hta
    refine ⟨fun σ' H' => ∃ (pb tb : Addr) (pm em : List Int), σ' = [some (.ref d), some (.ref a), some (.ref pb), some (.ref tb), some (.int j)] ∧ H' pb = some (.tup (pm.map V.int)) ∧ H' tb = some (.tup (em.map V.int)) ∧ Rows k n m pm em ∧ Deck H' d c ∧ Kp d c H H', ?_, ?_⟩
    · refine ⟨.ref d, rfl, d, c, 2, rfl, D1, by decide, by decide, fun v H2 a2 b2 D2 K2 => ⟨rfl, _, rfl, ?_⟩⟩
      have hpa2 := K2.tk D1 _ _ hpa1
      have hta2 := K2.tk D1 _ _ hta1
      have K12 := K1.trans K2
      refine ite2 (fun _ => ?_) (fun _ => ?_)
      · refine ⟨.ref pa, rfl, 1, rfl, pa, _, rfl, hpa2, fun r1 H3 s3 h3 => ⟨.ref pa, rfl, 1, rfl, pa, _, rfl, s3 _ _ hpa2, fun r2 H4 s4 h4 => ?_⟩⟩
        rw [show (1 : Int) = ((1 : Nat) : Int) from rfl, cutI_take (by omega)] at h3
        rw [show (1 : Int) = ((1 : Nat) : Int) from rfl, cutI_drop (by omega)] at h4
        refine ⟨r2, _, rfl, SqT.of h4, fun p np => ?_⟩
        have e5 : ((pn.drop 1).map V.int).reverse = (pn.drop 1).reverse.map V.int := List.map_reverse.symm
        rw [e5]
        have s5 : Same H4 (upd H4 p (.tup ((pn.drop 1).reverse.map V.int))) := same_new np
        refine ⟨r1, p, _, _, rfl, rfl, s5 _ _ (s4 _ _ h3), upd_same, by rw [List.length_map, List.length_map, List.length_reverse, List.length_take, List.length_drop]; omega, fun r3 H6 s6 h6 => ?_⟩
        rw [← List.map_append] at h6
        have s26 := ((s3.trans s4).trans s5).trans s6
        refine ⟨.ref ta, rfl, ta, _, rfl, SqT.of (s26 _ _ hta2), fun p2 np2 => ?_⟩
        have e7 : (en.map V.int).reverse = en.reverse.map V.int := List.map_reverse.symm
        rw [e7]
        have s7 : Same H6 (upd H6 p2 (.tup (en.reverse.map V.int))) := same_new np2
        have s27 := s26.trans s7
        refine ⟨r3, p2, _, _, rfl, s7 _ _ h6, upd_same, ⟨?_, by rw [List.length_reverse]; exact le, fun x hx => ro.op x ?_, fun x hx => ro.oe x (List.mem_reverse.mp hx)⟩, D2.same s27, K12.trans (Same.kp s27)⟩
        · rw [List.length_append, List.length_reverse, List.length_take, List.length_drop]
          omega
        · rcases List.mem_append.mp hx with z | z
          · exact List.mem_of_mem_take z
          · exact List.mem_of_mem_drop (List.mem_reverse.mp z)
      · exact ⟨pa, ta, pn, en, rfl, hpa2, hta2, ro, D2, K12⟩
    rintro σ' H2 ⟨pb, tb, pm, em, rfl, hpb, htb, rm, D2, K2⟩
    have lpm := rm.lp
    have lem := rm.le
    refine ⟨.ref pb, rfl, .int j, rfl, j, rfl, pb, _, rfl, hpb, fun r1 H3 s3 h3 => ⟨.ref pb, rfl, .int j, rfl, j, rfl, pb, _, rfl, s3 _ _ hpb, fun r2 H4 s4 h4 => ?_⟩⟩
    rw [cutI_drop (by omega)] at h3
    rw [cutI_take (by omega)] at h4
    refine ⟨r1, r2, _, _, rfl, rfl, s4 _ _ h3, h4, by rw [List.length_map, List.length_map, List.length_take, List.length_drop]; omega, fun r3 H5 s5 h5 => ?_⟩
    rw [← List.map_append] at h5
    have s25 := (s3.trans s4).trans s5
    refine ⟨.ref tb, rfl, .int j, rfl, j, rfl, tb, _, rfl, s25 _ _ htb, fun r4 H6 s6 h6 => ⟨.ref tb, rfl, .int j, rfl, j, rfl, tb, _, rfl, s6 _ _ (s25 _ _ htb), fun r5 H7 s7 h7 => ?_⟩⟩
    rw [cutI_drop (by omega)] at h6
    rw [cutI_take (by omega)] at h7
    refine ⟨r4, r5, _, _, rfl, rfl, s7 _ _ h6, h7, by rw [List.length_map, List.length_map, List.length_take, List.length_drop]; omega, fun r6 H8 s8 h8 => ⟨by show 2 ≤ sizeLine; decide, fun p np => ?_⟩⟩
    rw [← List.map_append] at h8
    have s9 : Same H8 (upd H8 p (.tup [.ref r3, .ref r6])) := same_new np
    have s59 := ((s6.trans s7).trans s8).trans s9
    have s29 := s25.trans s59
    exact q _ _ _ _ ⟨p, r3, r6, rfl, upd_same, s59 _ _ h5, s9 _ _ h8⟩ ⟨(turn_len _ (by omega)).trans lpm, (turn_len _ (by omega)).trans lem, fun x hx => rm.op x (turn_mem hx), fun x hx => rm.oe x (turn_mem hx)⟩ (D2.same s29) (K2.trans (Same.kp s29))
end
section
variable {P : Program} {w : World} {K : PySem.W.Frag} {mg : Str → Option Value} {base : Heap}
def RsOk (n : Int) (m : Nat) (ps : List Int) (rs : List (Tie × Int)) : Prop := ∀ r ∈ rs, TieOk n r.1 ∧ -1 ≤ r.2 ∧ r.2 < (m : Int) ∧ (0 ≤ r.2 → joinB r.1 (ps.getD r.2.toNat 0) (ps.getD ((r.2.toNat + 1) % m) 0) = true)
def Ords (rs : List (Tie × Int)) : List Int := (rs.map (·.2)).filter fun x => decide (0 ≤ x)
theorem Ords.app (a b : List (Tie × Int)) : Ords (a ++ b) = Ords a ++ Ords b := by
  unfold Ords
  rw [List.map_append, List.filter_append]
theorem Ords.cut (rs : List (Tie × Int)) (k : Nat) : Ords (rs.take k) ++ Ords (rs.drop k) = Ords rs := by
  rw [← Ords.app, List.take_append_drop]
/-- the numbers of the ring's ties, as far as they are known -/
def Known (rs : List (Tie × Int)) (i : Nat) (en : List Int) : Prop := ∀ k : Nat, k < (Ords (rs.take i)).length → ∃ (e : Nat) (r : Tie × Int), en[k]? = some (e : Int) ∧ rs[e]? = some r ∧ r.2 = k
theorem Known.step {rs : List (Tie × Int)} {m i : Nat} {en : List Int} {r : Tie × Int} (hk : Known rs i en) (ho : Ords rs = rng m) (er : rs[i]? = some r) (h0 : 0 ≤ r.2) (hm : r.2 < m) (le : en.length = m) : Known rs (i + 1) (en.set r.2.toNat i) := by
  have e1 : Ords (rs.take (i + 1)) = Ords (rs.take i) ++ [r.2] := by
    rw [List.take_add_one, er, Ords.app]
    congr 1
    show ([r].map (·.2)).filter (fun x => decide (0 ≤ x)) = [r.2]
    rw [List.map_singleton, List.filter_cons, if_pos (decide_eq_true h0)]
    rfl
  have e2 := Ords.cut rs (i + 1)
  rw [e1, ho, List.append_assoc] at e2
  have e3 : r.2 = ((Ords (rs.take i)).length : Int) := by
    have g : (rng m)[(Ords (rs.take i)).length]? = some r.2 := by
      rw [← e2, List.getElem?_append_right (Nat.le_refl _), Nat.sub_self]
      rfl
    have hl : (Ords (rs.take i)).length < m := by
      have := (List.getElem?_eq_some_iff.mp g).1
      rwa [rng_length] at this
    unfold rng at g
    rw [List.getElem?_map, List.getElem?_range hl] at g
    exact (Option.some.inj g).symm
  intro k hk'
  rw [e1, List.length_append, List.length_singleton] at hk'
  by_cases h : k < (Ords (rs.take i)).length
  · obtain ⟨e, r', h1, h2, h3⟩ := hk k h
    exact ⟨e, r', by rw [List.getElem?_set_ne (by omega)]; exact h1, h2, h3⟩
  · have ek : k = (Ords (rs.take i)).length := by omega
    refine ⟨i, r, ?_, er, by rw [e3, ek]⟩
    rw [show k = r.2.toNat by omega, List.getElem?_set_self (by omega)]
theorem Known.skip {rs : List (Tie × Int)} {i : Nat} {en : List Int} {r : Tie × Int} (hk : Known rs i en) (er : rs[i]? = some r) (h0 : ¬ 0 ≤ r.2) : Known rs (i + 1) en := by
  have e1 : Ords (rs.take (i + 1)) = Ords (rs.take i) := by
    rw [List.take_add_one, er, Ords.app]
    show _ ++ ([r].map (·.2)).filter (fun x => decide (0 ≤ x)) = _
    rw [List.map_singleton, List.filter_cons, if_neg (by simpa using h0), List.filter_nil, List.append_nil]
  intro k hk'
  rw [e1] at hk'
  exact hk k hk'
theorem ring_laid {n : Int} {m : Nat} {ps en : List Int} {rs : List (Tie × Int)} (hm : 2 ≤ m) (lp : ps.length = m) (np : ps.Nodup) (op : ∀ x ∈ ps, 0 ≤ x ∧ x < n) (le : en.length = m) (oe : ∀ e ∈ en, 0 ≤ e ∧ e < (rs.length : Int)) (ok : RsOk n m ps rs) (ho : Ords rs = rng m) (kn : Known rs rs.length en) : ringN n (rs.map (·.1)) ps en = true := by
  have kn' : ∀ k : Nat, k < m → ∃ (e : Nat) (r : Tie × Int), en[k]? = some (e : Int) ∧ rs[e]? = some r ∧ r.2 = k := fun k hk => kn k (by rw [List.take_length, ho, rng_length]; exact hk)
  have ne : en.Nodup := by
    refine List.pairwise_iff_getElem.mpr fun i j hi hj hij z => ?_
    obtain ⟨e, r, h1, h2, h3⟩ := kn' i (by omega)
    obtain ⟨e', r', h1', h2', h3'⟩ := kn' j (by omega)
    rw [List.getElem?_eq_getElem hi] at h1
    rw [List.getElem?_eq_getElem hj] at h1'
    have ez : e = e' := by have z1 := Option.some.inj h1; have z2 := Option.some.inj h1'; omega
    subst ez
    rw [h2] at h2'
    cases h2'
    omega
  have below : ∀ (lim : Int) (ns : List Int), (∀ x ∈ ns, 0 ≤ x ∧ x < lim) → (ns.map V.int).all (wbelow lim) = true := fun lim ns h => by
    rw [List.all_eq_true]
    intro v hv
    obtain ⟨x, hx, rfl⟩ := List.mem_map.mp hv
    show (decide (0 ≤ x) && decide (x < lim)) = true
    rw [decide_eq_true (h x hx).1, decide_eq_true (h x hx).2]
    rfl
  show (((ps.map V.int).all (wbelow n) && decide (ps.map V.int).Nodup) && (((en.map V.int).all (wbelow (rs.map (·.1)).length) && decide (en.map V.int).Nodup) && (decide (2 ≤ (ps.map V.int).length) && (decide ((ps.map V.int).length = (en.map V.int).length) && ringI (rs.map (·.1)) ((ps.map V.int).map toI) ((en.map V.int).map toI))))) = true
  rw [below n ps op, below _ en (by rw [List.length_map]; exact oe), decide_eq_true (nodup_ints.mpr np), decide_eq_true (nodup_ints.mpr ne), List.length_map, List.length_map, decide_eq_true (by omega), decide_eq_true (by omega), toI_map, toI_map]
  show ringI _ _ _ = true
  unfold ringI
  rw [List.all_eq_true]
  intro k hk
  have hk := List.mem_range.mp hk
  obtain ⟨e, r, h1, h2, h3⟩ := kn' k (by omega)
  have okr := ok r (List.mem_of_getElem? h2)
  have j := okr.2.2.2 (by omega)
  rw [h3, Int.toNat_natCast] at j
  have et : tieAt (rs.map (·.1)) (en.getD k 0) = r.1 := by
    rw [List.getD_eq_getElem?_getD, h1]
    show tieAt _ (e : Int) = _
    unfold tieAt
    rw [Int.toNat_natCast, List.getD_eq_getElem?_getD, List.getElem?_map, h2]
    rfl
  rw [et, lp]
  exact j
structure RingedS (H : Hp) (v : V) : Prop where
  ex : ∃ (a : Addr) (wv rv : V) (n : Int) (ts : List Tie) (pn en : List Int), v = .ref a ∧ H a = some (.tup [wv, rv]) ∧ WebAt H wv n ts ∧ WebOk n ts ∧ PairAt H rv pn en ∧ RowOk pn ∧ RowOk en ∧ 2 ≤ pn.length ∧ pn.length ≤ 40 ∧ en.length = pn.length ∧ (∀ e ∈ en, 0 ≤ e ∧ e < (ts.length : Int)) ∧ ringN n ts pn en = true
def spRingedS : Sp := fun vs H Q _ => ∃ (d c : Addr), vs = [.ref d] ∧ Deck H d c ∧ ∀ v H', RingedS H' v → Deck H' d c → Kp d c H H' → Q v H'

theorem Paired.app {α β : Type} {F : α → β → Prop} : ∀ {l l' : List α} {m m' : List β}, Paired F l m → Paired F l' m' → Paired F (l ++ l') (m ++ m')
  | _, _, _, _, .nil, h => h
  | _, _, _, _, .cons r t, h => .cons r (Paired.app t h)
theorem Paired.take {α β : Type} {F : α → β → Prop} : ∀ {l : List α} {m : List β} (k : Nat), Paired F l m → Paired F (l.take k) (m.take k)
  | _, _, 0, _ => by simp; exact .nil
  | _, _, _ + 1, .nil => by simp; exact .nil
  | _, _, k + 1, .cons r t => .cons r (Paired.take k t)
theorem Paired.drop {α β : Type} {F : α → β → Prop} : ∀ {l : List α} {m : List β} (k : Nat), Paired F l m → Paired F (l.drop k) (m.drop k)
  | _, _, 0, h => h
  | _, _, _ + 1, .nil => .nil
  | _, _, k + 1, .cons _ t => Paired.drop k t
set_option maxHeartbeats 4000000 in
theorem ok_l_ringed {f : Addr} {fd : FuncData} (F : Fun K "_law_ringed" "_law_ringed" s_l_ringed f fd) (M : Free mg) (mi : mg "min" = none) (Dd : Df P w K mg base 1 "_law_draw" ["_law_deck_here", "_law_most"] spDraw) : FnOk P w K mg base CX0 2 f fd ["_law_deck_here"] spRingedS := by
  obtain ⟨fD, fdD, GD, gD, kD, bD⟩ := Dd
  refine F.ok sc_l_ringed (fun vs H Q E h => ?_) (fun cdv A outer s H vs Q E hr h => ?_)
  · obtain ⟨d, c, rfl, _⟩ := h
    rfl
  · obtain ⟨d, c, rfl, hD, q⟩ := h
    refine ⟨_, (Evl.pss_cut (ps_set (i := 1) sc_l_ringed.nd rfl (.inl rfl) (pe_ix ix_list (pe_lst (pa_cons (pe_op op_add pe_int (pe_call GD hr (by rfl) gD kD bD .nil pass0 (pa_cons (pv 0) (pa_cons pe_int pa_nil)))) (pa_cons (pe_op op_add pe_int (pe_call GD hr (by rfl) gD kD bD .nil pass0 (pa_cons (pv 0) (pa_cons pe_int pa_nil)))) pa_nil))) (pe_callTy call_int1 (by rfl) M.int (by decide +kernel) (pa_cons (pe_cmpR op_eq (pe_call GD hr (by rfl) gD kD bD .nil pass0 (pa_cons (pv 0) (pa_cons pe_int pa_nil))) pe_int (nomark _)) pa_nil)) (fun _ _ => rfl)))
      (Evl.pss_cut (ps_set (i := 2) sc_l_ringed.nd rfl (.inl rfl) (pe_callB (call_min2 rfl) (by rfl) mi (by decide +kernel) (pa_cons pe_int (pa_cons (pe_op op_add (pv 1) (pe_call GD hr (by rfl) gD kD bD .nil pass0 (pa_cons (pv 0) (pa_cons pe_int pa_nil)))) pa_nil))))
      (pss_cons (ps_set (i := 3) sc_l_ringed.nd rfl (.inr rfl) (pe_listRg rfl (by rfl) M.list (prg_1 (by rfl) M.range (pv 2))))
      (Evl.pss_cut (ps_set (i := 4) sc_l_ringed.nd rfl (.inl rfl) (pe_callTy call_tuple_of (by rfl) M.tuple (by decide +kernel) (pa_cons (pe_lc (own := [("_law_k", 5)]) (g := gName 5) (tt := tYes) (te := tBM K "list" rPopAt (tVar 3) (tCons (tCall spDraw [] _ (tCons (tVar 0) (tCons (tCB (rLen K) (tCons (tVar 3) tNil)) tNil))) tNil)) rfl sc_l_ringed.nd (pi_range1 (by rfl) M.range (pa_cons (pv 1) pa_nil)) (blkOk_by (N := N_l_ringed) (sc := defScope s_l_ringed) (own := [("_law_k", 5)]) (by decide +kernel)) (fun _ _ _ _ _ => (pg_name (i := 5) sc_l_ringed.nd rfl (.inl rfl))) (fun _ _ _ _ _ => pts_nil) (fun _ _ _ _ _ => (pe_bm PySem.F.plainAttrs_list PySem.F.slot_list_pop PySem.F.type_list_pop mt_popAt (pv 3) (pa_cons (pe_call GD hr (by rfl) gD kD bD .nil pass0 (pa_cons (pv 0) (pa_cons (pe_callB (r := rLen K) call_len_seq (by rfl) M.len PySem.boot_len (pa_cons (pv 3) pa_nil)) pa_nil))) pa_nil)))) pa_nil)))
      (pss_cons (ps_set (i := 6) sc_l_ringed.nd rfl (.inl rfl) (pe_lst pa_nil))
      (Evl.pss_cut (ps_for PassesOwn.never rfl (pi_range1 (by rfl) M.range (pa_cons (pv 1) pa_nil)) (pg_name (i := 5) sc_l_ringed.nd rfl (.inl rfl))
        (Evl.pss_cut (ps_set (i := 7) sc_l_ringed.nd rfl (.inl rfl) (pe_ix ix_list (pe_lst (pa_cons (pe_tup (pa_cons (pe_ix ix_tup (pv 4) (pv 5) (fun _ _ => rfl)) (pa_cons (pe_ix ix_tup (pv 4) (pe_op op_mod (pe_op op_add (pv 5) pe_int) (pv 1)) (fun _ _ => rfl)) pa_nil))) (pa_cons (pe_tup (pa_cons (pe_ix ix_tup (pv 4) (pe_op op_mod (pe_op op_add (pv 5) pe_int) (pv 1)) (fun _ _ => rfl)) (pa_cons (pe_ix ix_tup (pv 4) (pv 5) (fun _ _ => rfl)) pa_nil))) pa_nil))) (pe_call GD hr (by rfl) gD kD bD .nil pass0 (pa_cons (pv 0) (pa_cons pe_int pa_nil))) (fun _ _ => rfl)))
        (pss_one (ps_expr (pe_bm PySem.F.plainAttrs_list PySem.F.slot_list_append PySem.F.type_list_append mt_append (pv 6) (pa_cons (pe_tup (pa_cons (pe_op op_catU (pv 7) (pe_tup (pa_cons (pe_ix ix_list (pe_lst (pa_cons pe_str (pa_cons pe_str pa_nil))) (pe_call GD hr (by rfl) gD kD bD .nil pass0 (pa_cons (pv 0) (pa_cons pe_int pa_nil))) (fun _ _ => rfl)) pa_nil))) (pa_cons (pv 5) pa_nil))) pa_nil))))))
      (Evl.pss_cut (ps_for PassesOwn.never rfl (pi_range1 (by rfl) M.range (pa_cons (pe_call GD hr (by rfl) gD kD bD .nil pass0 (pa_cons (pv 0) (pa_cons pe_int pa_nil))) pa_nil)) (pg_name (i := 5) sc_l_ringed.nd rfl (.inl rfl))
        (pss_cons (ps_set (i := 8) sc_l_ringed.nd rfl (.inl rfl) (pe_call GD hr (by rfl) gD kD bD .nil pass0 (pa_cons (pv 0) (pa_cons (pv 2) pa_nil))))
        (pss_cons (ps_set (i := 9) sc_l_ringed.nd rfl (.inl rfl) (pe_op op_mod (pe_op op_add (pe_op op_add (pv 8) pe_int) (pe_call GD hr (by rfl) gD kD bD .nil pass0 (pa_cons (pv 0) (pa_cons (pe_op op_sub (pv 2) pe_int) pa_nil)))) (pv 2)))
        (Evl.pss_cut (ps_if (pt_cmpR op_eq (pe_call GD hr (by rfl) gD kD bD .nil pass0 (pa_cons (pv 0) (pa_cons pe_int pa_nil))) pe_int (nomark _))
          (pss_one (ps_asg (pe_ix ix_tup (pe_ix ix_list (pv 6) (pe_call GD hr (by rfl) gD kD bD .nil pass0 (pa_cons (pv 0) (pa_cons (pe_callB call_len_seq (by rfl) M.len PySem.boot_len (pa_cons (pv 6) pa_nil)) pa_nil))) (fun _ _ => rfl)) pe_int (fun _ _ => rfl)) (pg_tup rfl (pgs_cons (pg_name (i := 8) sc_l_ringed.nd rfl (.inl rfl)) (pgs_cons (pg_name (i := 9) sc_l_ringed.nd rfl (.inl rfl)) (pgs_cons (pg_name (i := 10) sc_l_ringed.nd rfl (.inl rfl)) pgs_nil))))))
          pss_nil)
        (pss_cons (ps_set (i := 11) sc_l_ringed.nd rfl (.inl rfl) (pe_tup (pa_cons (pv 8) (pa_cons (pv 9) (pa_cons (pe_ix ix_list (pe_lst (pa_cons pe_str (pa_cons pe_str pa_nil))) (pe_call GD hr (by rfl) gD kD bD .nil pass0 (pa_cons (pv 0) (pa_cons pe_int pa_nil))) (fun _ _ => rfl)) pa_nil)))))
        (pss_one (ps_expr (pe_bm PySem.F.plainAttrs_list PySem.F.slot_list_insert PySem.F.type_list_insert mt_insert (pv 6) (pa_cons (pe_call GD hr (by rfl) gD kD bD .nil pass0 (pa_cons (pv 0) (pa_cons (pe_op op_add (pe_callB call_len_seq (by rfl) M.len PySem.boot_len (pa_cons (pv 6) pa_nil)) pe_int) pa_nil))) (pa_cons (pe_tup (pa_cons (pv 11) (pa_cons (pe_un un_neg pe_int) pa_nil))) pa_nil))))))))))
      (pss_cons (ps_set (i := 12) sc_l_ringed.nd rfl (.inl rfl) (pe_op op_rep (pe_lst (pa_cons pe_int pa_nil)) (pv 1)))
      (Evl.pss_cut (ps_for PassesOwn.never rfl (pi_range1 (by rfl) M.range (pa_cons (pe_callB call_len_seq (by rfl) M.len PySem.boot_len (pa_cons (pv 6) pa_nil)) pa_nil)) (pg_name (i := 13) sc_l_ringed.nd rfl (.inl rfl))
        (pss_one (ps_if (pt_cmpR op_ge (pe_ix ix_tup (pe_ix ix_list (pv 6) (pv 13) (fun _ _ => rfl)) pe_int (fun _ _ => rfl)) pe_int (nomark _))
          (pss_one (ps_asg (pv 13) (pg_sub (pv 12) (pe_ix ix_tup (pe_ix ix_list (pv 6) (pv 13) (fun _ _ => rfl)) pe_int (fun _ _ => rfl)) set_list)))
          pss_nil)))
      (pss_one (ps_ret (pe_tup (pa_cons (pe_tup (pa_cons (pv 2) (pa_cons (pe_callTy call_tuple_of (by rfl) M.tuple (by decide +kernel) (pa_cons (pe_lc (own := [("_law_row", 14)]) (g := gName 14) (tt := tYes) rfl sc_l_ringed.nd (pi_list (pv 6)) (blkOk_by (N := N_l_ringed) (sc := defScope s_l_ringed) (own := [("_law_row", 14)]) (by decide +kernel)) (fun _ _ _ _ _ => (pg_name (i := 14) sc_l_ringed.nd rfl (.inl rfl))) (fun _ _ _ _ _ => pts_nil) (fun _ _ _ _ _ => (pe_ix (r := rIxT K) ix_tup (pv 14) pe_int (fun _ _ => rfl)))) pa_nil)) pa_nil))) (pa_cons (pe_tup (pa_cons (pv 4) (pa_cons (pe_callTy call_tuple_of (by rfl) M.tuple (by decide +kernel) (pa_cons (pv 12) pa_nil)) pa_nil))) pa_nil)))))))))))))), ?_⟩
    -- size
    refine ⟨fun σ' H' => ∃ m : Nat, σ' = [some (.ref d), some (.int m), none, none, none, none, none, none, none, none, none, none, none, none, none] ∧ 2 ≤ m ∧ m ≤ 40 ∧ Deck H' d c ∧ Kp d c H H', ?_, ?_⟩
    · refine ⟨.ref d, rfl, d, c, 5, rfl, hD, by decide, by decide, fun v1 H1 a1 b1 D1 K1 => ⟨2, v1, rfl, rfl, .ref d, rfl, d, c, 39, rfl, D1, by decide, by decide, fun v2 H2 a2 b2 D2 K2 => ⟨2, v2, rfl, rfl, by show 2 ≤ sizeLine; decide, fun p np => ?_⟩⟩⟩
      refine ⟨.ref d, rfl, d, c, 8, rfl, D2.new np, by decide, by decide, fun v3 H3 a3 b3 D3 K3 => ⟨rfl, .inr ⟨_, rfl, p, _, _, _, rfl, rfl, SqL.of (K3 p _ (D2.ned np).1 (D2.ned np).2 upd_same), pick2 _ _ _, ?_⟩⟩⟩
      have K := ((K1.trans K2).trans (Kp.new (o := .lst [.int (2 + v1), .int (2 + v2)]) np)).trans K3
      by_cases hk : decide (V.int v3 = V.int 7) = true
      · rw [hk]
        refine ⟨(2 + v2).toNat, ?_, by omega, by omega, D3, K⟩
        rw [show (((2 + v2).toNat : Nat) : Int) = 2 + v2 from by omega]
        rfl
      · rw [Bool.not_eq_true] at hk
        rw [hk]
        refine ⟨(2 + v1).toNat, ?_, by omega, by omega, D3, K⟩
        rw [show (((2 + v1).toNat : Nat) : Int) = 2 + v1 from by omega]
        rfl
    rintro σ' H0 ⟨m, rfl, hm1, hm2, D0, K0⟩
    -- many
    refine ⟨fun σ' H' => ∃ n : Nat, σ' = [some (.ref d), some (.int m), some (.int n), none, none, none, none, none, none, none, none, none, none, none, none] ∧ m ≤ n ∧ n ≤ 40 ∧ Deck H' d c ∧ Kp d c H H', ?_, ?_⟩
    · refine ⟨.int m, rfl, .ref d, rfl, d, c, 3, rfl, D0, by decide, by decide, fun v1 H1 a1 b1 D1 K1 => ⟨m, v1, rfl, rfl, 40, _, rfl, ?_⟩⟩
      by_cases h : (m : Int) + v1 < 40
      · rw [if_pos h]
        refine ⟨((m : Int) + v1).toNat, ?_, by omega, by omega, D1, K0.trans K1⟩
        rw [show ((((m : Int) + v1).toNat : Nat) : Int) = m + v1 from by omega]
        rfl
      · rw [if_neg h]
        exact ⟨40, rfl, by omega, by omega, D1, K0.trans K1⟩
    clear D0 K0 H0
    rintro σ' H0 ⟨n, rfl, hn1, hn2, D0, K0⟩
    -- left
    refine ⟨.int n, rfl, n, rfl, RgOk.of_le (by omega) (by omega) (by omega) (by omega), fun L nL => ?_⟩
    rw [rgV_ints]
    have hLd := D0.ned nL
    have nL0 := K0.free nL hLd.1 hLd.2
    have D1 := D0.new (o := .lst ((rng n).map V.int)) nL
    have K1 : Kp d c H (upd H0 L (.lst ((rng n).map V.int))) := K0.trans (Kp.new nL)
    have hL1 : (upd H0 L (.lst ((rng n).map V.int))) L = some (.lst ((rng n).map V.int)) := upd_same
    generalize upd H0 L (.lst ((rng n).map V.int)) = H1 at D1 K1 hL1
    clear nL D0 K0 H0
    -- places
    refine ⟨fun σ' H' => ∃ (pa : Addr) (ps : List Int), σ' = [some (.ref d), some (.int m), some (.int n), some (.ref L), some (.ref pa), none, none, none, none, none, none, none, none, none, none] ∧ H' pa = some (.tup (ps.map V.int)) ∧ ps.length = m ∧ ps.Nodup ∧ (∀ x ∈ ps, 0 ≤ x ∧ x < (n : Int)) ∧ Deck H' d c ∧ Kp d c H H', ?_, ?_⟩
    · refine ⟨.int m, rfl, m, rfl, by omega, by omega, fun Z nZ => ?_⟩
      rw [Int.toNat_natCast]
      have hZd := D1.ned nZ
      have nZ0 := K1.free nZ hZd.1 hZd.2
      have hLZ : L ≠ Z := ne_of_none hL1 nZ
      refine lc_range (lo := 0) (n := m) (fun i H' => ∃ ps ls : List Int, H' Z = some (.lst (ps.map V.int)) ∧ H' L = some (.lst (ls.map V.int)) ∧ ps.length = i ∧ (ps ++ ls).Perm (rng n) ∧ Deck H' d c ∧ Kp d c H H') ⟨[], rng n, upd_same, same_new nZ _ _ hL1, rfl, List.Perm.refl _, D1.new nZ, K1.trans (Kp.new nZ)⟩ ?_ ?_
      · rintro i H2 hi ⟨ps, ls, hZ, hL, lp, pm, D2, K2⟩
        have ll : ps.length + ls.length = n := by
          have := pm.length_eq
          rw [List.length_append, rng_length] at this
          exact this
        refine ⟨rfl, .ref L, rfl, .inl ⟨rfl, _, SqL.of hL⟩, .ref d, rfl, .ref L, rfl, L, _, rfl, .inl (SqL.of hL), d, c, _, rfl, D2, by rw [List.length_map]; omega, by rw [List.length_map]; omega, fun v H3 a3 b3 D3 K3 => ?_⟩
        rw [List.length_map] at b3
        have hk : v.toNat < ls.length := by omega
        have hL3 := K3 _ _ hLd.1 hLd.2 hL
        have hZ3 := K3 _ _ hZd.1 hZd.2 hZ
        refine ⟨L, _, v, v.toNat, .int ls[v.toNat], rfl, rfl, hL3, by omega, by omega, seqIndex_of (by omega) (by rw [List.length_map]; omega), by rw [List.getElem?_map, List.getElem?_eq_getElem hk]; rfl, ?_⟩
        refine ⟨ps.map V.int, by rw [upd_ne (Ne.symm hLZ)]; exact hZ3, by rw [List.length_map]; exact small1000 (by omega), ps ++ [ls[v.toNat]], ls.eraseIdx v.toNat, by rw [upd_same, List.map_append]; rfl, by rw [upd_ne hLZ, upd_same, erase_map], by rw [List.length_append, lp]; rfl, ?_, (D3.mut hLd.1 hLd.2).mut hZd.1 hZd.2, ((K2.trans K3).mut nL0).mut nZ0⟩
        rw [List.append_assoc]
        exact (List.Perm.append_left ps (erase_perm ls v.toNat hk)).trans pm
      · rintro H2 ⟨ps, ls, hZ, hL, lp, pm, D2, K2⟩
        refine ⟨Z, _, rfl, .inl ⟨SqL.of hZ, fun r nr => ?_⟩⟩
        have nd : (ps ++ ls).Nodup := pm.nodup_iff.mpr (rng_nodup n)
        exact ⟨r, ps, rfl, upd_same, lp, (List.nodup_append.mp nd).1, fun x hx => mem_rng.mp (pm.mem_iff.mp (List.mem_append_left _ hx)), D2.new nr, K2.trans (Kp.new nr)⟩
    clear D1 K1 hL1 nL0 hLd H1
    rintro σ' H1 ⟨pa, ps, rfl, hpa, lp, ndp, okp, D1, K1⟩
    -- rows = []
    refine ⟨Nat.zero_le _, fun R nR => ?_⟩
    have hRd := D1.ned nR
    have nR0 := K1.free nR hRd.1 hRd.2
    have D2 := D1.new (o := .lst []) nR
    have K2 : Kp d c H (upd H1 R (.lst [])) := K1.trans (Kp.new nR)
    have hpa2 := same_new (o := .lst []) nR _ _ hpa
    have hR2 : (upd H1 R (.lst [])) R = some (.lst []) := upd_same
    generalize upd H1 R (.lst []) = H2 at D2 K2 hpa2 hR2
    clear nR D1 K1 hpa H1
    -- the ring's ties
    refine ⟨fun σ' H' => ∃ (y5 y7 : Option V) (vs : List V) (rs : List (Tie × Int)), σ' = [some (.ref d), some (.int m), some (.int n), some (.ref L), some (.ref pa), y5, some (.ref R), y7, none, none, none, none, none, none, none] ∧ H' pa = some (.tup (ps.map V.int)) ∧ H' R = some (.lst vs) ∧ Paired (RowV H') vs rs ∧ rs.length = m ∧ Ords rs = rng m ∧ RsOk n m ps rs ∧ Deck H' d c ∧ Kp d c H H', ?_, ?_⟩
    · refine ⟨.int m, rfl, m, rfl, by omega, by omega, ?_⟩
      rw [Int.toNat_natCast]
      refine for_range (lo := 0) (n := m) (fun i σ' H' => ∃ (y5 y7 : Option V) (vs : List V) (rs : List (Tie × Int)), σ' = [some (.ref d), some (.int m), some (.int n), some (.ref L), some (.ref pa), y5, some (.ref R), y7, none, none, none, none, none, none, none] ∧ H' pa = some (.tup (ps.map V.int)) ∧ H' R = some (.lst vs) ∧ Paired (RowV H') vs rs ∧ rs.length = i ∧ Ords rs = rng i ∧ RsOk n m ps rs ∧ Deck H' d c ∧ Kp d c H H') ⟨_, _, [], [], rfl, hpa2, hR2, .nil, rfl, rfl, fun r hr => by simp at hr, D2, K2⟩ ?_ ?_
      · clear hpa2 hR2 D2 K2
        rintro i σ' H3 hi ⟨y5, y7, vs, rs, rfl, hpa3, hR3, hv3, lr, hord, okr, D3, K3⟩
        rw [show (0 : Int) + (i : Nat) = i from by omega]
        have hj : (i + 1) % m < m := Nat.mod_lt _ (by omega)
        have hij : i ≠ (i + 1) % m := by
          by_cases h : i + 1 < m
          · rw [Nat.mod_eq_of_lt h]; omega
          · rw [show i + 1 = m from by omega, Nat.mod_self]; omega
        have hgi : ps[i]? = some ps[i] := List.getElem?_eq_getElem (by omega)
        have hgj : ps[(i + 1) % m]? = some ps[(i + 1) % m] := List.getElem?_eq_getElem (by omega)
        have ox := okp _ (List.getElem_mem (l := ps) (n := i) (by omega))
        have oy := okp _ (List.getElem_mem (l := ps) (n := (i + 1) % m) (by omega))
        have oxy : ps[i] ≠ ps[(i + 1) % m] := fun z => hij ((List.getElem?_inj (by omega) ndp).mp (by rw [hgi, hgj, z]))
        generalize ps[i] = x at hgi ox oxy
        generalize ps[(i + 1) % m] = y at hgj oy oxy
        have ai : atI (ps.map V.int) (i : Int) = some (.int x) := atI_nat (by rw [List.getElem?_map, hgi]; rfl)
        have aj : atI (ps.map V.int) (((i : Int) + 1) % m) = some (.int y) := by
          rw [show ((i : Int) + 1) % m = (((i + 1) % m : Nat) : Int) from by rw [Int.natCast_emod]; rfl]
          exact atI_nat (by rw [List.getElem?_map, hgj]; rfl)
        have pm0 : (0 : Int) < m := by omega
        refine ⟨fun σ' H' => ∃ (a : Addr) (u v : Int), σ' = [some (.ref d), some (.int m), some (.int n), some (.ref L), some (.ref pa), some (.int i), some (.ref R), some (.ref a), none, none, none, none, none, none, none] ∧ H' a = some (.tup [.int u, .int v]) ∧ (TieOk n ⟨u, v, false⟩ ∧ joinB ⟨u, v, false⟩ x y = true) ∧ H' pa = some (.tup (ps.map V.int)) ∧ H' R = some (.lst vs) ∧ Paired (RowV H') vs rs ∧ Deck H' d c ∧ Kp d c H H', ?_, ?_⟩
        · refine ⟨.ref pa, rfl, .int i, rfl, pa, _, i, _, rfl, rfl, SqT.of hpa3, ai, .ref pa, rfl, .int i, rfl, i, 1, rfl, rfl, .int m, rfl, _, m, rfl, rfl, pm0, pa, _, _, _, rfl, rfl, SqT.of hpa3, aj, by show 2 ≤ sizeLine; decide, fun q1 n1 => ?_⟩
          have s1 := same_new (o := .tup [.int x, .int y]) n1
          refine ⟨.ref pa, rfl, .int i, rfl, i, 1, rfl, rfl, .int m, rfl, _, m, rfl, rfl, pm0, pa, _, _, _, rfl, rfl, SqT.of (s1 _ _ hpa3), aj, .ref pa, rfl, .int i, rfl, pa, _, i, _, rfl, rfl, SqT.of (s1 _ _ hpa3), ai, by show 2 ≤ sizeLine; decide, fun q2 n2 => ⟨by show 2 ≤ sizeLine; decide, fun q3 n3 => ?_⟩⟩
          have s2 := s1.trans (same_new (o := .tup [.int y, .int x]) n2)
          have s3 := s2.trans (same_new (o := .lst [.ref q1, .ref q2]) n3)
          have D4 := D3.same s3
          refine ⟨.ref d, rfl, d, c, 2, rfl, D4, by decide, by decide, fun z H5 a5 b5 D5 K5 => ?_⟩
          have nq : q3 ≠ d ∧ q3 ≠ c := (D3.same s2).ned n3
          have k35 : Tk H3 H5 := (Same.tk s3).trans (K5.tk D4)
          have h1 : H5 q1 = some (.tup [.int x, .int y]) := K5.tk D4 _ _ (same_new n3 _ _ (same_new n2 _ _ upd_same))
          have h2 : H5 q2 = some (.tup [.int y, .int x]) := K5.tk D4 _ _ (same_new n3 _ _ upd_same)
          have h3 := K5 _ _ nq.1 nq.2 (upd_same (H := upd (upd H3 q1 (.tup [.int x, .int y])) q2 (.tup [.int y, .int x])) (a := q3) (o := .lst [.ref q1, .ref q2]))
          have fin : ∀ a u v, H5 a = some (.tup [.int u, .int v]) → (TieOk n ⟨u, v, false⟩ ∧ joinB ⟨u, v, false⟩ x y = true) → ∃ (a' : Addr) (u v : Int), [some (V.ref d), some (.int m), some (.int n), some (.ref L), some (.ref pa), some (.int i), some (.ref R), some (.ref a), none, none, none, none, none, none, none] = [some (.ref d), some (.int m), some (.int n), some (.ref L), some (.ref pa), some (.int i), some (.ref R), some (.ref a'), none, none, none, none, none, none, none] ∧ H5 a' = some (.tup [.int u, .int v]) ∧ (TieOk n ⟨u, v, false⟩ ∧ joinB ⟨u, v, false⟩ x y = true) ∧ H5 pa = some (.tup (ps.map V.int)) ∧ H5 R = some (.lst vs) ∧ Paired (RowV H5) vs rs ∧ Deck H5 d c ∧ Kp d c H H5 := fun a u v e o => ⟨a, u, v, rfl, e, o, k35 _ _ hpa3, K5 _ _ hRd.1 hRd.2 (s3 _ _ hR3), rows_tk k35 hv3, D5, (K3.trans (Same.kp s3)).trans K5⟩
          have h01 : z = 0 ∨ z = 1 := by omega
          rcases h01 with e | e
          · subst e
            exact ⟨q3, _, 0, .ref q1, rfl, rfl, SqL.of h3, rfl, fin q1 x y h1 ⟨⟨ox.1, ox.2, oy.1, oy.2, oxy⟩, by unfold joinB; simp⟩⟩
          · subst e
            exact ⟨q3, _, 1, .ref q2, rfl, rfl, SqL.of h3, rfl, fin q2 y x h2 ⟨⟨oy.1, oy.2, ox.1, ox.2, Ne.symm oxy⟩, by unfold joinB; simp⟩⟩
        · rintro σ' H4 ⟨a, u, v, rfl, ha, ⟨okt, hjn⟩, hpa4, hR4, hv4, D4, K4⟩
          refine ⟨.ref R, rfl, .inl ⟨rfl, _, SqL.of hR4⟩, .ref a, rfl, by show 2 ≤ sizeLine; decide, fun q1 n1 => ⟨.ref d, rfl, d, c, 2, rfl, D4.new n1, by decide, by decide, fun z H5 a5 b5 D5 K5 => ?_⟩⟩
          have nq := D4.ned n1
          have fo : ∃ fo : Bool, atI [V.str "friend", V.str "foe"] z = some (.str (kindS fo)) := by
            have h01 : z = 0 ∨ z = 1 := by omega
            rcases h01 with e | e <;> subst e
            · exact ⟨false, rfl⟩
            · exact ⟨true, rfl⟩
          obtain ⟨fo, e5⟩ := fo
          have k45 : Tk H4 H5 := (Same.tk (same_new n1)).trans (K5.tk (D4.new n1))
          refine ⟨q1, _, z, _, rfl, rfl, SqL.of (K5 _ _ nq.1 nq.2 upd_same), e5, by show 1 ≤ sizeLine; decide, fun q2 n2 => ⟨a, q2, _, _, rfl, rfl, same_new n2 _ _ (k45 _ _ ha), upd_same, by show 3 ≤ 100000; decide, fun q3 H6 s6 h6 => ⟨.int i, rfl, by show 2 ≤ sizeLine; decide, fun q4 n4 => ?_⟩⟩⟩
          have s57 := ((same_new (o := .tup [.str (kindS fo)]) n2).trans s6).trans (same_new (o := .tup [.ref q3, .int i]) n4)
          have hR7 := s57 _ _ (K5 _ _ hRd.1 hRd.2 (same_new n1 _ _ hR4))
          have k47 := k45.trans (Same.tk s57)
          have lv : vs.length = rs.length := Paired.length hv4
          refine ⟨R, vs, _, rfl, rfl, hR7, small1000 (by omega), ?_⟩
          refine ⟨_, _, vs ++ [.ref q4], rs ++ [(⟨u, v, fo⟩, (i : Int))], rfl, tk_lst hR7 _ _ (k47 _ _ hpa4), upd_same, Paired.snoc (rows_tk (tk_lst hR7) (rows_tk k47 hv4)) (show RowV _ _ ((⟨u, v, fo⟩ : Tie), (i : Int)) from ⟨q4, q3, rfl, tk_lst hR7 _ _ upd_same, tk_lst hR7 _ _ (same_new n4 _ _ h6)⟩), by rw [List.length_append, lr]; rfl, by rw [Ords.app, hord, rng_succ]; congr 1, fun r hr => ?_, (D5.same s57).mut hRd.1 hRd.2, (((K4.trans (Kp.new n1)).trans K5).trans (Same.kp s57)).mut nR0⟩
          rcases List.mem_append.mp hr with h | h
          · exact okr r h
          · rw [List.mem_singleton.mp h]
            exact ⟨⟨okt.1, okt.2.1, okt.2.2.1, okt.2.2.2.1, okt.2.2.2.2⟩, by show (-1 : Int) ≤ i; omega, by show (i : Int) < m; omega, fun _ => by
              show joinB ⟨u, v, fo⟩ (ps.getD ((i : Int)).toNat 0) (ps.getD ((((i : Int)).toNat + 1) % m) 0) = true
              rw [Int.toNat_natCast, List.getD_eq_getElem?_getD, List.getD_eq_getElem?_getD, hgi, hgj]
              exact hjn⟩
      · rintro σ' H3 ⟨y5, y7, vs, rs, rfl, h⟩
        exact ⟨_, _, vs, rs, rfl, h⟩
    clear hpa2 hR2 D2 K2 H2
    rintro σ' H2 ⟨y5, y7, vs, rs, rfl, hpa2, hR2, hv2, lr2, hord2, okr2, D2, K2⟩
    -- more ties
    refine ⟨fun σ' H' => ∃ (y5 y7 y8 y9 y10 y11 : Option V) (vs : List V) (rs : List (Tie × Int)), σ' = [some (.ref d), some (.int m), some (.int n), some (.ref L), some (.ref pa), y5, some (.ref R), y7, y8, y9, y10, y11, none, none, none] ∧ H' pa = some (.tup (ps.map V.int)) ∧ H' R = some (.lst vs) ∧ Paired (RowV H') vs rs ∧ m ≤ rs.length ∧ rs.length ≤ 60 ∧ Ords rs = rng m ∧ RsOk n m ps rs ∧ Deck H' d c ∧ Kp d c H H', ?_, ?_⟩
    · refine ⟨.ref d, rfl, d, c, 9, rfl, D2, by decide, by decide, fun v H3 a3 b3 D3 K3 => ⟨v, rfl, by omega, by omega, ?_⟩⟩
      refine for_range (lo := 0) (n := v.toNat) (fun i σ' H' => ∃ (y5 y7 y8 y9 y10 y11 : Option V) (vs : List V) (rs : List (Tie × Int)), σ' = [some (.ref d), some (.int m), some (.int n), some (.ref L), some (.ref pa), y5, some (.ref R), y7, y8, y9, y10, y11, none, none, none] ∧ H' pa = some (.tup (ps.map V.int)) ∧ H' R = some (.lst vs) ∧ Paired (RowV H') vs rs ∧ rs.length = m + i ∧ Ords rs = rng m ∧ RsOk n m ps rs ∧ Deck H' d c ∧ Kp d c H H') ⟨_, _, _, _, _, _, vs, rs, rfl, K3.tk D2 _ _ hpa2, K3 _ _ hRd.1 hRd.2 hR2, rows_tk (K3.tk D2) hv2, by omega, hord2, okr2, D3, K2.trans K3⟩ ?_ ?_
      · clear hpa2 hR2 hv2 lr2 hord2 okr2 K3 D3 D2 K2
        rintro i σ' H4 hi ⟨y5, y7, y8, y9, y10, y11, vs, rs, rfl, hpa4, hR4, hv4, lr, hord, okr, D4, K4⟩
        refine ⟨.ref d, rfl, .int n, rfl, d, c, n, rfl, D4, by omega, by omega, fun v1 H5 a5 b5 D5 K5 => ?_⟩
        refine ⟨.int v1, rfl, v1, 1, rfl, rfl, .ref d, rfl, .int n, rfl, n, 1, rfl, rfl, d, c, (n : Int) - 1, rfl, D5, by omega, by omega, fun v2 H6 a6 b6 D6 K6 => ⟨v1 + 1, v2, rfl, rfl, .int n, rfl, _, n, rfl, rfl, show (0 : Int) < n by omega, ?_⟩⟩
        have ok1 : TieOk n ⟨v1, (v1 + 1 + v2) % n, false⟩ := ⟨a5, b5, (mod_rng (by omega)).1, (mod_rng (by omega)).2, other_ne a5 b5 a6 b6⟩
        have k46 : Tk H4 H6 := (K5.tk D4).trans (K6.tk D5)
        have hpa6 := k46 _ _ hpa4
        have hR6 := K6 _ _ hRd.1 hRd.2 (K5 _ _ hRd.1 hRd.2 hR4)
        have hv6 := rows_tk k46 hv4
        have K46 : Kp d c H H6 := (K4.trans K5).trans K6
        refine ⟨fun σ' H' => ∃ (y5 y7 y10 y11 : Option V) (t' : Tie), σ' = [some (.ref d), some (.int m), some (.int n), some (.ref L), some (.ref pa), y5, some (.ref R), y7, some (.int t'.one), some (.int t'.other), y10, y11, none, none, none] ∧ TieOk n t' ∧ H' pa = some (.tup (ps.map V.int)) ∧ H' R = some (.lst vs) ∧ Paired (RowV H') vs rs ∧ Deck H' d c ∧ Kp d c H H', ?_, ?_⟩
        · refine ⟨.ref d, rfl, d, c, 2, rfl, D6, by decide, by decide, fun v3 H7 a7 b7 D7 K7 => ⟨rfl, _, rfl, ?_⟩⟩
          have hpa7 := K7.tk D6 _ _ hpa6
          have hR7 := K7 _ _ hRd.1 hRd.2 hR6
          have hv7 := rows_tk (K7.tk D6) hv6
          refine ite2 (fun _ => ?_) (fun _ => ?_)
          · have lv : vs.length = rs.length := Paired.length hv7
            refine ⟨.ref R, rfl, .ref d, rfl, .ref R, rfl, R, vs, rfl, .inl (SqL.of hR7), d, c, vs.length, rfl, D7, by omega, by omega, fun v4 H8 a8 b8 D8 K8 => ?_⟩
            have hR8 := K8 _ _ hRd.1 hRd.2 hR7
            have hv8 := rows_tk (K8.tk D7) hv7
            obtain ⟨vv, e1, e2⟩ := getI a8 b8
            obtain ⟨r, e3, ra, rc, rfl, e4, e5⟩ := Paired.at hv8 e2
            have okt := (okr r (List.mem_of_getElem? e3)).1
            refine ⟨R, vs, v4, _, rfl, rfl, SqL.of hR8, e1, ra, _, 0, .ref rc, rfl, rfl, SqT.of e4, rfl, rc, _, rfl, SqT.of e5, rfl, _, _, rfl, _, _, rfl, _, _, rfl, rfl, ?_⟩
            exact ⟨_, _, _, _, r.1, rfl, okt, K8.tk D7 _ _ hpa7, hR8, hv8, D8, (K46.trans K7).trans K8⟩
          · exact ⟨_, _, _, _, ⟨v1, (v1 + 1 + v2) % n, false⟩, rfl, ok1, hpa7, hR7, hv7, D7, K46.trans K7⟩
        · clear hpa6 hR6 hv6 K46 k46 D6 K6 D5 K5
          rintro σ' H6 ⟨y5, y7, y10, y11, t', rfl, okt, hpa6, hR6, hv6, D6, K6⟩
          refine ⟨.int t'.one, rfl, .int t'.other, rfl, by show 2 ≤ sizeLine; decide, fun q1 n1 => ⟨.ref d, rfl, d, c, 2, rfl, D6.new n1, by decide, by decide, fun z H7 a7 b7 D7 K7 => ?_⟩⟩
          have nq := D6.ned n1
          have fo : ∃ fo : Bool, atI [V.str "friend", V.str "foe"] z = some (.str (kindS fo)) := by
            have h01 : z = 0 ∨ z = 1 := by omega
            rcases h01 with e | e <;> subst e
            · exact ⟨false, rfl⟩
            · exact ⟨true, rfl⟩
          obtain ⟨fo, e5⟩ := fo
          have k67 : Tk H6 H7 := (Same.tk (same_new n1)).trans (K7.tk (D6.new n1))
          refine ⟨q1, _, z, _, rfl, rfl, SqL.of (K7 _ _ nq.1 nq.2 upd_same), e5, by show 3 ≤ sizeLine; decide, fun q2 n2 => ?_⟩
          have k68 := k67.trans (Same.tk (same_new (o := .tup [.int t'.one, .int t'.other, .str (kindS fo)]) n2))
          have hR8 := same_new (o := .tup [.int t'.one, .int t'.other, .str (kindS fo)]) n2 _ _ (K7 _ _ hRd.1 hRd.2 (same_new n1 _ _ hR6))
          have D8 := D7.new (o := .tup [.int t'.one, .int t'.other, .str (kindS fo)]) n2
          have K8 : Kp d c H _ := ((K6.trans (Kp.new n1)).trans K7).trans (Kp.new (o := .tup [.int t'.one, .int t'.other, .str (kindS fo)]) n2)
          have hq2 : (upd H7 q2 (.tup [.int t'.one, .int t'.other, .str (kindS fo)])) q2 = some (.tup [.int t'.one, .int t'.other, .str (kindS fo)]) := upd_same
          have hpa8 := k68 _ _ hpa6
          have hv8 := rows_tk k68 hv6
          generalize upd H7 q2 (.tup [.int t'.one, .int t'.other, .str (kindS fo)]) = H8 at k68 hR8 D8 K8 hq2 hpa8 hv8
          have lv : vs.length = rs.length := Paired.length hv8
          refine ⟨.ref R, rfl, .inl ⟨rfl, _, SqL.of hR8⟩, .ref d, rfl, .ref R, rfl, R, vs, rfl, .inl (SqL.of hR8), _, 1, rfl, rfl, d, c, (vs.length : Int) + 1, rfl, D8, by omega, by omega, fun v5 H9 a9 b9 D9 K9 => ?_⟩
          have hR9 := K9 _ _ hRd.1 hRd.2 hR8
          have k89 := K9.tk D8
          refine ⟨.ref q2, rfl, 1, rfl, by show 2 ≤ sizeLine; decide, fun q3 n3 => ?_⟩
          have hR10 := same_new (o := .tup [.ref q2, .int (-1)]) n3 _ _ hR9
          have k810 := k89.trans (Same.tk (same_new (o := .tup [.ref q2, .int (-1)]) n3))
          refine ⟨R, vs, v5, _, rfl, rfl, hR10, small1000 (by omega), a9, by omega, ?_⟩
          have kl := tk_lst (ys := vs.take v5.toNat ++ [.ref q3] ++ vs.drop v5.toNat) hR10
          have hv10 := rows_tk kl (rows_tk k810 hv8)
          have hn : RowV (upd (upd H9 q3 (.tup [.ref q2, .int (-1)])) R (.lst (vs.take v5.toNat ++ [.ref q3] ++ vs.drop v5.toNat))) (.ref q3) ((⟨t'.one, t'.other, fo⟩ : Tie), (-1 : Int)) := ⟨q3, q2, rfl, kl _ _ upd_same, kl _ _ (k810 _ _ hq2)⟩
          refine ⟨_, _, _, _, _, _, _, rs.take v5.toNat ++ [((⟨t'.one, t'.other, fo⟩ : Tie), (-1 : Int))] ++ rs.drop v5.toNat, rfl, kl _ _ (k810 _ _ hpa8), upd_same, Paired.app (Paired.app (Paired.take _ hv10) (.cons hn .nil)) (Paired.drop _ hv10), ?_, by rw [Ords.app, Ords.app, ← hord, ← Ords.cut rs v5.toNat]; congr 1; show _ ++ ([((⟨t'.one, t'.other, fo⟩ : Tie), (-1 : Int))].map (·.2)).filter (fun x => decide (0 ≤ x)) = _; rw [List.map_singleton, List.filter_cons, if_neg (by simp), List.filter_nil, List.append_nil], fun r hr => ?_, (D9.new n3).mut hRd.1 hRd.2, ((K8.trans K9).trans (Kp.new n3)).mut nR0⟩
          · simp only [List.length_append, List.length_take, List.length_drop, List.length_cons, List.length_nil]
            omega
          · rcases List.mem_append.mp hr with h | h
            · rcases List.mem_append.mp h with h | h
              · exact okr r (List.mem_of_mem_take h)
              · rw [List.mem_singleton.mp h]
                exact ⟨⟨okt.1, okt.2.1, okt.2.2.1, okt.2.2.2.1, okt.2.2.2.2⟩, by show (-1 : Int) ≤ -1; omega, by show (-1 : Int) < m; omega, fun z => absurd z (by show ¬ (0 : Int) ≤ -1; omega)⟩
            · exact okr r (List.mem_of_mem_drop h)
      · rintro σ' H4 ⟨y5, y7, y8, y9, y10, y11, vs, rs, rfl, h1, h2, h3, h4, h5⟩
        exact ⟨_, _, _, _, _, _, vs, rs, rfl, h1, h2, h3, by omega, by omega, h5⟩
    clear hpa2 hR2 hv2 lr2 hord2 okr2 D2 K2
    rintro σ' H3 ⟨y5, y7, y8, y9, y10, y11, vs, rs, rfl, hpa3, hR3, hv3, lr3, mr3, hord3, okr3, D3, K3⟩
    -- ties = [0] * size
    refine ⟨by show 1 ≤ sizeLine; decide, fun q1 n1 => ⟨.int m, rfl, q1, m, _, rfl, rfl, upd_same, by omega, by omega, by show 1 * ((m : Int)).toNat ≤ sizeLine; rw [sizeLine_eq]; omega, fun T nT => ?_⟩⟩
    have hflat : (List.replicate ((m : Int)).toNat [V.int 0]).flatten = (List.replicate m (0 : Int)).map V.int := by
      rw [Int.toNat_natCast]
      induction m with
      | zero => rfl
      | succ k _ => simp
    rw [hflat]
    have s4 : Same H3 _ := (same_new (o := .lst [.int 0]) n1).trans (same_new (o := .lst ((List.replicate m (0 : Int)).map V.int)) nT)
    have hTd := (D3.new (o := .lst [.int 0]) n1).ned nT
    have nT3 : H3 T = none := (same_new (o := .lst [.int 0]) n1).free nT
    have nT0 := K3.free nT3 hTd.1 hTd.2
    have hT4 : (upd (upd H3 q1 (.lst [.int 0])) T (.lst ((List.replicate m (0 : Int)).map V.int))) T = some (.lst ((List.replicate m (0 : Int)).map V.int)) := upd_same
    have hRT : R ≠ T := ne_of_none hR3 nT3
    have D4 := D3.same s4
    have K4 : Kp d c H _ := K3.trans (Same.kp s4)
    have hpa4 := s4 _ _ hpa3
    have hR4 := s4 _ _ hR3
    have hv4 := rows_tk (Same.tk s4) hv3
    generalize upd (upd H3 q1 (.lst [.int 0])) T (.lst ((List.replicate m (0 : Int)).map V.int)) = H4 at s4 hT4 D4 K4 hpa4 hR4 hv4
    clear hpa3 hR3 hv3 D3 K3 nT3 s4
    have lv : vs.length = rs.length := Paired.length hv4
    -- the numbers of the ring's ties
    refine ⟨fun σ' H' => ∃ (y13 : Option V) (en : List Int), σ' = [some (.ref d), some (.int m), some (.int n), some (.ref L), some (.ref pa), y5, some (.ref R), y7, y8, y9, y10, y11, some (.ref T), y13, none] ∧ H' T = some (.lst (en.map V.int)) ∧ en.length = m ∧ (∀ e ∈ en, 0 ≤ e ∧ e < (rs.length : Int)) ∧ Known rs vs.length en ∧ H' pa = some (.tup (ps.map V.int)) ∧ H' R = some (.lst vs) ∧ Paired (RowV H') vs rs ∧ Deck H' d c ∧ Kp d c H H', ?_, ?_⟩
    · refine ⟨.ref R, rfl, R, vs, rfl, .inl (SqL.of hR4), _, rfl, by omega, by omega, ?_⟩
      rw [Int.toNat_natCast]
      refine for_range (lo := 0) (n := vs.length) (fun i σ' H' => ∃ (y13 : Option V) (en : List Int), σ' = [some (.ref d), some (.int m), some (.int n), some (.ref L), some (.ref pa), y5, some (.ref R), y7, y8, y9, y10, y11, some (.ref T), y13, none] ∧ H' T = some (.lst (en.map V.int)) ∧ en.length = m ∧ (∀ e ∈ en, 0 ≤ e ∧ e < (rs.length : Int)) ∧ Known rs i en ∧ H' pa = some (.tup (ps.map V.int)) ∧ H' R = some (.lst vs) ∧ Paired (RowV H') vs rs ∧ Deck H' d c ∧ Kp d c H H') ⟨_, _, rfl, hT4, by rw [List.length_replicate], fun e he => by rw [List.eq_of_mem_replicate he]; omega, fun k hk => by simp [Ords] at hk, hpa4, hR4, hv4, D4, K4⟩ ?_ ?_
      · clear hT4 hpa4 hR4 hv4 D4 K4
        rintro i σ' H5 hi ⟨y13, en, rfl, hT5, le, oe, kno, hpa5, hR5, hv5, D5, K5⟩
        rw [show (0 : Int) + (i : Nat) = i from by omega]
        obtain ⟨r, er, ra, rc, ec, h1, h2⟩ := Paired.at hv5 (List.getElem?_eq_getElem hi)
        have ei : vs[i]? = some (.ref ra) := by rw [List.getElem?_eq_getElem hi, ec]
        have okr := okr3 r (List.mem_of_getElem? er)
        refine ⟨.ref R, rfl, .int i, rfl, R, vs, i, _, rfl, rfl, SqL.of hR5, atI_nat ei, ra, _, 1, .int r.2, rfl, rfl, SqT.of h1, rfl, r.2, 0, rfl, rfl, _, rfl, ite2 (fun e => ?_) (fun e => ?_)⟩
        · have h0 := of_decide_eq_true e
          refine ⟨.int i, rfl, .ref T, rfl, .ref R, rfl, .int i, rfl, R, vs, i, _, rfl, rfl, SqL.of hR5, atI_nat ei, ra, _, 1, .int r.2, rfl, rfl, SqT.of h1, rfl, T, _, r.2, r.2.toNat, rfl, rfl, hT5, ?_, ?_⟩
          · unfold ixN
            rw [if_pos (by omega), if_pos (by rw [List.length_map]; omega)]
          · have kl := tk_lst (ys := (en.map V.int).set r.2.toNat (.int i)) hT5
            refine ⟨_, en.set r.2.toNat i, rfl, by rw [upd_same, List.map_set], by rw [List.length_set]; exact le, fun e he => ?_, kno.step hord3 er h0 okr.2.2.1 le, kl _ _ hpa5, by rw [upd_ne hRT]; exact hR5, rows_tk kl hv5, D5.mut hTd.1 hTd.2, K5.mut nT0⟩
            rcases List.mem_or_eq_of_mem_set he with h | h
            · exact oe e h
            · rw [h]
              omega
        · exact ⟨_, en, rfl, hT5, le, oe, kno.skip er (fun z => e (decide_eq_true z)), hpa5, hR5, hv5, D5, K5⟩
      · rintro σ' H5 ⟨y13, en, rfl, h⟩
        exact ⟨_, en, rfl, h⟩
    clear hT4 hpa4 hR4 hv4 D4 K4
    rintro σ' H5 ⟨y13, en, rfl, hT5, le, oe, kno, hpa5, hR5, hv5, D5, K5⟩
    -- what is told
    refine ⟨.int n, rfl, .ref R, rfl, R, rfl, ⟨_, SqL.of hR5⟩, fun Z nZ => ?_⟩
    have hZd := D5.ned nZ
    have nZ0 := K5.free nZ hZd.1 hZd.2
    refine lc_list (xs := vs) (fun i H' => ∃ us : List V, H' Z = some (.lst us) ∧ Paired (TieV H') us ((rs.take i).map (·.1)) ∧ Same H5 H') ⟨[], upd_same, .nil, same_new nZ⟩ (fun i H' _ h => by
      obtain ⟨us, _, _, s⟩ := h
      exact SqL.of (s _ _ hR5)) ?_ ?_
    · rintro i x H6 ex ⟨us, hZ, hu, s6⟩
      obtain ⟨r, er, ra, rc, rfl, h1, h2⟩ := Paired.at hv5 ex
      have hi : i < vs.length := (List.getElem?_eq_some_iff.mp ex).1
      have lu : us.length = i := by
        rw [Paired.length hu, List.length_map, List.length_take]
        omega
      refine ⟨rfl, .ref ra, rfl, ra, _, 0, .ref rc, rfl, rfl, SqT.of (s6 _ _ h1), rfl, us, hZ, small1000 (by omega), us ++ [.ref rc], upd_same, ?_, fun b o e => by rw [upd_ne (ne_of_none e nZ)]; exact s6 b o e⟩
      rw [List.take_add_one, er, List.map_append]
      exact Paired.snoc (ties_tk (tk_lst hZ) hu) ⟨rc, rfl, tk_lst hZ _ _ (s6 _ _ h2)⟩
    · rintro H6 ⟨us, hZ, hu, s6⟩
      rw [lv, List.take_length] at hu
      refine ⟨Z, us, rfl, .inl ⟨SqL.of hZ, fun q1 n1 => ⟨by show 2 ≤ sizeLine; decide, fun q2 n2 => ?_⟩⟩⟩
      have s8 := (same_new (o := .tup us) n1).trans (same_new (o := .tup [.int n, .ref q1]) n2)
      have s58 := s6.trans s8
      refine ⟨.ref pa, rfl, .ref T, rfl, T, _, rfl, .inl ⟨SqL.of (s58 _ _ hT5), fun q3 n3 => ⟨by show 2 ≤ sizeLine; decide, fun q4 n4 => ⟨by show 2 ≤ sizeLine; decide, fun q5 n5 => ?_⟩⟩⟩⟩
      have s11 := ((same_new (o := .tup (en.map V.int)) n3).trans (same_new (o := .tup [.ref pa, .ref q3]) n4)).trans (same_new (o := .tup [.ref q2, .ref q4]) n5)
      have s511 := s58.trans s11
      refine q _ _ ⟨q5, .ref q2, .ref q4, n, rs.map (·.1), ps, en, rfl, upd_same, ⟨q2, q1, us, rfl, s11 _ _ upd_same, s11 _ _ (same_new n2 _ _ upd_same), ties_tk (Same.tk (s8.trans s11)) hu⟩, ⟨by omega, by omega, by rw [List.length_map]; omega, fun t ht => ?_⟩, ⟨q4, pa, q3, rfl, same_new n5 _ _ upd_same, s511 _ _ hpa5, same_new n5 _ _ (same_new n4 _ _ upd_same)⟩, ⟨by omega, fun x hx => by have := okp x hx; omega⟩, ⟨by omega, fun x hx => by have := oe x hx; omega⟩, by omega, by omega, by omega, fun e he => by rw [List.length_map]; exact oe e he, ring_laid hm1 lp ndp okp le oe okr3 hord3 (by rw [← lv]; exact kno)⟩ (D5.same s511) (K5.trans (Same.kp s511))
      obtain ⟨r, hr, rfl⟩ := List.mem_map.mp ht
      exact (okr3 r hr).1
end
/-! ### k11: rows spoilt -/
def spRowSp (K : PySem.W.Frag) : Sp := fun vs H Q _ => ∃ (d c r : Addr) (ss : List Int) (lim : Int), vs = [.ref d, .ref r, .int lim] ∧ Deck H d c ∧ H r = some (.tup (ss.map V.int)) ∧ 0 < ss.length ∧ Row 40 ss ∧ 1 ≤ lim ∧ lim ≤ 200 ∧ ∀ v H', Deck H' d c → Kp d c H H' → Th K 5 49000 H' v → Q v H'
section
variable {P : Program} {w : World} {K : PySem.W.Frag} {mg : Str → Option Value} {base : Heap}
theorem ok_l_row_spoilt {f : Addr} {fd : FuncData} (F : Fun K "_law_row_spoilt" "_law_row_spoilt" s_l_row_spoilt f fd) (M : Free mg) (D_l_draw : Df P w K mg base 1 "_law_draw" ["_law_deck_here", "_law_most"] spDraw) (D_l_odd : Df P w K mg base 2 "_law_odd" ["_law_deck_here"] (spOddT K)) : FnOk P w K mg base CX0 3 f fd ["_law_deck_here", "_law_row", "_law_many"] (spRowSp K) := by
  obtain ⟨f_l_draw, fd_l_draw, G_l_draw, g_l_draw, k_l_draw, b_l_draw⟩ := D_l_draw
  obtain ⟨f_l_odd, fd_l_odd, G_l_odd, g_l_odd, k_l_odd, b_l_odd⟩ := D_l_odd
  refine F.ok sc_l_row_spoilt (fun vs H Q E h => ?_) (fun cdv A outer s H vs Q E hr h => ?_)
  · obtain ⟨d, c, r, ss, lim, rfl, _⟩ := h
    rfl
  · obtain ⟨d, c, r, ss, lim, rfl, hD, hR, l0, row, hk1, hk2, q⟩ := h
    refine ⟨_, (pss_cons (ps_set (i := 3) sc_l_row_spoilt.nd rfl (.inl rfl) (pe_call G_l_draw (hr.mono (by decide)) (by rfl) g_l_draw k_l_draw b_l_draw .nil pass0 (pa_cons (pv 0) (pa_cons (pe_callB call_len_seq (by rfl) M.len PySem.boot_len (pa_cons (pv 1) pa_nil)) pa_nil))))
      (pss_cons (ps_set (i := 4) sc_l_row_spoilt.nd rfl (.inl rfl) (pe_call G_l_draw (hr.mono (by decide)) (by rfl) g_l_draw k_l_draw b_l_draw .nil pass0 (pa_cons (pv 0) (pa_cons pe_int pa_nil))))
      (pss_cons (ps_if (pt_cmpR op_eq (pv 4) pe_int (nomark _))
        (pss_one (ps_ret (pe_op op_catU (pe_op op_catU (pe_slice sl_tupU (pv 1) po_none (po_some (pv 3))) (pe_tup (pa_cons (pe_call G_l_odd (hr.mono (by decide)) (by rfl) g_l_odd k_l_odd b_l_odd .nil pass0 (pa_cons (pv 0) pa_nil)) pa_nil))) (pe_slice sl_tupU (pv 1) (po_some (pe_op op_add (pv 3) pe_int)) po_none))))
        pss_nil)
      (pss_cons (ps_if (pt_cmpR op_eq (pv 4) pe_int (nomark _))
        (pss_one (ps_ret (pe_op op_catU (pe_op op_catU (pe_slice sl_tupU (pv 1) po_none (po_some (pv 3))) (pe_tup (pa_cons (pe_call G_l_draw (hr.mono (by decide)) (by rfl) g_l_draw k_l_draw b_l_draw .nil pass0 (pa_cons (pv 0) (pa_cons (pe_op op_add (pv 2) pe_int) pa_nil))) pa_nil))) (pe_slice sl_tupU (pv 1) (po_some (pe_op op_add (pv 3) pe_int)) po_none))))
        pss_nil)
      (pss_cons (ps_if (pt_cmpR op_eq (pv 4) pe_int (nomark _))
        (pss_one (ps_ret (pe_op op_catU (pe_slice sl_tupU (pv 1) po_none (po_some (pv 3))) (pe_slice sl_tupU (pv 1) (po_some (pe_op op_add (pv 3) pe_int)) po_none))))
        pss_nil)
      (pss_cons (ps_if (pt_cmpR op_eq (pv 4) pe_int (nomark _))
        (pss_one (ps_ret (pe_op op_catU (pe_slice sl_tupU (pv 1) po_none (po_some (pe_op op_add (pv 3) pe_int))) (pe_slice sl_tupU (pv 1) (po_some (pv 3)) po_none))))
        pss_nil)
      (pss_cons (ps_if (pt_cmpR op_eq (pv 4) pe_int (nomark _))
        (pss_one (ps_ret (pe_op op_catU (pe_op op_catU (pe_slice sl_tupU (pv 1) po_none (po_some (pv 3))) (pe_tup (pa_cons (pe_call G_l_draw (hr.mono (by decide)) (by rfl) g_l_draw k_l_draw b_l_draw .nil pass0 (pa_cons (pv 0) (pa_cons (pv 2) pa_nil))) pa_nil))) (pe_slice sl_tupU (pv 1) (po_some (pv 3)) po_none))))
        pss_nil)
      (pss_cons (ps_if (pt_cmpR op_eq (pv 4) pe_int (nomark _))
        (pss_one (ps_ret (pe_op op_catU (pe_op op_catU (pe_slice sl_tupU (pv 1) po_none (po_some (pv 3))) (pe_revT (pe_slice sl_tupU (pv 1) (po_some (pv 3)) (po_some (pe_op op_add (pv 3) pe_int))))) (pe_slice sl_tupU (pv 1) (po_some (pe_op op_add (pv 3) pe_int)) po_none))))
        pss_nil)
      (pss_one (ps_ret (pe_ix ix_list (pe_lst (pa_cons (pe_callTy call_list_of (by rfl) M.list (by decide +kernel) (pa_cons (pv 1) pa_nil)) (pa_cons (pe_tup (pa_cons (pv 1) pa_nil)) (pa_cons (pe_ix ix_tup (pv 1) (pv 3) (fun _ _ => rfl)) (pa_cons pe_non (pa_cons (pe_disp (pps_cons (pv 3) (pv 1) pps_nil) (by rfl) (by rfl) (fun z => by cases z) (by decide)) (pa_cons (pe_tup pa_nil) pa_nil))))))) (pe_call G_l_draw (hr.mono (by decide)) (by rfl) g_l_draw k_l_draw b_l_draw .nil pass0 (pa_cons (pv 0) (pa_cons pe_int pa_nil))) (fun _ _ => rfl)))))))))))), ?_⟩
    have l1 := row.1
    have lm : (ss.map V.int).length = ss.length := List.length_map _
    refine ⟨.ref d, rfl, .ref r, rfl, r, _, rfl, .inr (SqT.of hR), d, c, _, rfl, hD, by rw [lm]; omega, by rw [lm]; omega, fun at' H1 a1 b1 D1 K1 => ?_⟩
    rw [lm] at b1
    refine ⟨.ref d, rfl, d, c, 7, rfl, D1, by decide, by decide, fun way H2 a2 b2 D2 K2 => ?_⟩
    have hR2 := K2.tk D1 _ _ (K1.tk hD _ _ hR)
    have K12 := K1.trans K2
    have q2 : ∀ v H', Deck H' d c → Kp d c H2 H' → Th K 5 49000 H' v → Q v H' := fun v H' x y z => q v H' x (K12.trans y) z
    have qs : ∀ v H', Same H2 H' → Th K 5 49000 H' v → Q v H' := fun v H' x z => q2 v H' (D2.same x) (Same.kp x) z
    clear q K12 K1 K2 D1 hD hR
    obtain ⟨c1, ec1, rc1⟩ := row_cut row none (some at')
    obtain ⟨c2, ec2, rc2⟩ := row_cut row (some (at' + 1)) none
    obtain ⟨c3, ec3, rc3⟩ := row_cut row (some at') none
    obtain ⟨c4, ec4, rc4⟩ := row_cut row (some at') (some (at' + 2))
    obtain ⟨c5, ec5, rc5⟩ := row_cut row (some (at' + 2)) none
    obtain ⟨c6, ec6, rc6⟩ := row_cut row none (some (at' + 1))
    have m1 := rc1.1
    have m2 := rc2.1
    have m3 := rc3.1
    have m4 := rc4.1
    have m5 := rc5.1
    have m6 := rc6.1
    refine ⟨.int way, rfl, rfl, _, rfl, ite2 (fun _ => ?_) (fun _ => ?_)⟩
    · refine ⟨.ref r, rfl, .int at', rfl, at', rfl, r, _, rfl, hR2, fun r1 H3 s3 h3 => ?_⟩
      rw [ec1] at h3
      refine ⟨.ref d, rfl, d, c, rfl, D2.same s3, fun v H4 D4 K4 ho => ⟨by show 1 ≤ sizeLine; decide, fun p np => ?_⟩⟩
      have hv := (ho H4 Kp.refl).1
      have h4 := K4.tk (D2.same s3) _ _ h3
      have hR4 := K4.tk (D2.same s3) _ _ (s3 _ _ hR2)
      have s5 : Same H4 (upd H4 p (.tup [v])) := same_new np
      refine ⟨r1, p, _, _, rfl, rfl, s5 _ _ h4, upd_same, by rw [List.length_map, List.length_singleton]; omega, fun r2 H6 s6 h6 => ?_⟩
      have s46 := s5.trans s6
      refine ⟨.ref r, rfl, .int at', rfl, at', 1, rfl, rfl, at' + 1, rfl, r, _, rfl, s46 _ _ hR4, fun r3 H7 s7 h7 => ?_⟩
      rw [ec2] at h7
      refine ⟨r2, r3, _, _, rfl, rfl, s7 _ _ h6, h7, by rw [List.length_append, List.length_map, List.length_map, List.length_singleton]; omega, fun r4 H8 s8 h8 => ?_⟩
      have s48 := (s46.trans s7).trans s8
      exact q2 _ _ (D4.same s48) ((Kp.trans (Same.kp s3) K4).trans (Same.kp s48)) (th_mix h8 rc1 rc2 (hv.same s48))
    refine ⟨.int way, rfl, rfl, _, rfl, ite2 (fun _ => ?_) (fun _ => ?_)⟩
    · refine ⟨.ref r, rfl, .int at', rfl, at', rfl, r, _, rfl, hR2, fun r1 H3 s3 h3 => ?_⟩
      rw [ec1] at h3
      refine ⟨.ref d, rfl, .int lim, rfl, lim, 1, rfl, rfl, d, c, lim + 1, rfl, D2.same s3, by omega, by omega, fun v H4 a4 b4 D4 K4 => ⟨by show 1 ≤ sizeLine; decide, fun p np => ?_⟩⟩
      have h4 := K4.tk (D2.same s3) _ _ h3
      have hR4 := K4.tk (D2.same s3) _ _ (s3 _ _ hR2)
      have s5 : Same H4 (upd H4 p (.tup [.int v])) := same_new np
      refine ⟨r1, p, _, _, rfl, rfl, s5 _ _ h4, upd_same, by rw [List.length_map, List.length_singleton]; omega, fun r2 H6 s6 h6 => ?_⟩
      have s46 := s5.trans s6
      refine ⟨.ref r, rfl, .int at', rfl, at', 1, rfl, rfl, at' + 1, rfl, r, _, rfl, s46 _ _ hR4, fun r3 H7 s7 h7 => ?_⟩
      rw [ec2] at h7
      refine ⟨r2, r3, _, _, rfl, rfl, s7 _ _ h6, h7, by rw [List.length_append, List.length_map, List.length_map, List.length_singleton]; omega, fun r4 H8 s8 h8 => ?_⟩
      have s48 := (s46.trans s7).trans s8
      exact q2 _ _ (D4.same s48) ((Kp.trans (Same.kp s3) K4).trans (Same.kp s48)) (th_mix h8 rc1 rc2 (th_int (by omega)))
    refine ⟨.int way, rfl, rfl, _, rfl, ite2 (fun _ => ?_) (fun _ => ?_)⟩
    · refine ⟨.ref r, rfl, .int at', rfl, at', rfl, r, _, rfl, hR2, fun r1 H3 s3 h3 => ?_⟩
      rw [ec1] at h3
      refine ⟨.ref r, rfl, .int at', rfl, at', 1, rfl, rfl, at' + 1, rfl, r, _, rfl, s3 _ _ hR2, fun r3 H7 s7 h7 => ?_⟩
      rw [ec2] at h7
      refine ⟨r1, r3, _, _, rfl, rfl, s7 _ _ h3, h7, by rw [List.length_map, List.length_map]; omega, fun r4 H8 s8 h8 => ?_⟩
      rw [← List.map_append] at h8
      exact qs _ _ ((s3.trans s7).trans s8) (th_row h8 (rc1.app rc2) (by decide))
    refine ⟨.int way, rfl, rfl, _, rfl, ite2 (fun _ => ?_) (fun _ => ?_)⟩
    · refine ⟨.ref r, rfl, .int at', rfl, at', 1, rfl, rfl, at' + 1, rfl, r, _, rfl, hR2, fun r1 H3 s3 h3 => ?_⟩
      rw [ec6] at h3
      refine ⟨.ref r, rfl, .int at', rfl, at', rfl, r, _, rfl, s3 _ _ hR2, fun r3 H7 s7 h7 => ?_⟩
      rw [ec3] at h7
      refine ⟨r1, r3, _, _, rfl, rfl, s7 _ _ h3, h7, by rw [List.length_map, List.length_map]; omega, fun r4 H8 s8 h8 => ?_⟩
      rw [← List.map_append] at h8
      exact qs _ _ ((s3.trans s7).trans s8) (th_row h8 (rc6.app rc3) (by decide))
    refine ⟨.int way, rfl, rfl, _, rfl, ite2 (fun _ => ?_) (fun _ => ?_)⟩
    · refine ⟨.ref r, rfl, .int at', rfl, at', rfl, r, _, rfl, hR2, fun r1 H3 s3 h3 => ?_⟩
      rw [ec1] at h3
      refine ⟨.ref d, rfl, .int lim, rfl, d, c, lim, rfl, D2.same s3, by omega, by omega, fun v H4 a4 b4 D4 K4 => ⟨by show 1 ≤ sizeLine; decide, fun p np => ?_⟩⟩
      have h4 := K4.tk (D2.same s3) _ _ h3
      have hR4 := K4.tk (D2.same s3) _ _ (s3 _ _ hR2)
      have s5 : Same H4 (upd H4 p (.tup [.int v])) := same_new np
      refine ⟨r1, p, _, _, rfl, rfl, s5 _ _ h4, upd_same, by rw [List.length_map, List.length_singleton]; omega, fun r2 H6 s6 h6 => ?_⟩
      have s46 := s5.trans s6
      refine ⟨.ref r, rfl, .int at', rfl, at', rfl, r, _, rfl, s46 _ _ hR4, fun r3 H7 s7 h7 => ?_⟩
      rw [ec3] at h7
      refine ⟨r2, r3, _, _, rfl, rfl, s7 _ _ h6, h7, by rw [List.length_append, List.length_map, List.length_map, List.length_singleton]; omega, fun r4 H8 s8 h8 => ?_⟩
      have s48 := (s46.trans s7).trans s8
      exact q2 _ _ (D4.same s48) ((Kp.trans (Same.kp s3) K4).trans (Same.kp s48)) (th_mix h8 rc1 rc3 (th_int (by omega)))
    refine ⟨.int way, rfl, rfl, _, rfl, ite2 (fun _ => ?_) (fun _ => ?_)⟩
    · refine ⟨.ref r, rfl, .int at', rfl, at', rfl, r, _, rfl, hR2, fun r1 H3 s3 h3 => ?_⟩
      rw [ec1] at h3
      refine ⟨.ref r, rfl, .int at', rfl, at', rfl, .int at', rfl, at', 2, rfl, rfl, at' + 2, rfl, r, _, rfl, s3 _ _ hR2, fun r2 H4 s4 h4 => ?_⟩
      rw [ec4] at h4
      refine ⟨r2, _, rfl, SqT.of h4, fun p np => ?_⟩
      have e5 : (c4.map V.int).reverse = c4.reverse.map V.int := List.map_reverse.symm
      rw [e5]
      have s5 : Same H4 (upd H4 p (.tup (c4.reverse.map V.int))) := same_new np
      refine ⟨r1, p, _, _, rfl, rfl, s5 _ _ (s4 _ _ h3), upd_same, by rw [List.length_map, List.length_map, List.length_reverse]; omega, fun r5 H6 s6 h6 => ?_⟩
      rw [← List.map_append] at h6
      have s36 := (s4.trans s5).trans s6
      refine ⟨.ref r, rfl, .int at', rfl, at', 2, rfl, rfl, at' + 2, rfl, r, _, rfl, s36 _ _ (s3 _ _ hR2), fun r3 H7 s7 h7 => ?_⟩
      rw [ec5] at h7
      refine ⟨r5, r3, _, _, rfl, rfl, s7 _ _ h6, h7, by rw [List.length_map, List.length_map, List.length_append, List.length_reverse]; omega, fun r4 H8 s8 h8 => ?_⟩
      rw [← List.map_append] at h8
      exact qs _ _ (((s3.trans s36).trans s7).trans s8) (th_row (k := 120) h8 (((rc1.app rc4.rev).app rc5).mono (by decide)) (by decide))
    · refine ⟨.ref r, rfl, r, _, rfl, .inr (SqT.of hR2), fun p1 n1 => ?_⟩
      have e1 := D2.ned n1
      have s1 : Same H2 (upd H2 p1 (.lst (ss.map V.int))) := same_new n1
      have h1 : (upd H2 p1 (.lst (ss.map V.int))) p1 = some (.lst (ss.map V.int)) := upd_same
      generalize upd H2 p1 (.lst (ss.map V.int)) = H3 at s1 h1
      refine ⟨.ref r, rfl, by show 1 ≤ sizeLine; decide, fun p2 n2 => ?_⟩
      have s2 : Same H3 (upd H3 p2 (.tup [.ref r])) := same_new n2
      have h2 : (upd H3 p2 (.tup [.ref r])) p2 = some (.tup [.ref r]) := upd_same
      generalize upd H3 p2 (.tup [.ref r]) = H4 at s2 h2
      have t2 := s1.trans s2
      obtain ⟨x, mx, _, ax⟩ := atI_ints a1 b1
      have bx := row.2 x mx
      refine ⟨.ref r, rfl, .int at', rfl, r, _, at', _, rfl, rfl, SqT.of (t2 _ _ hR2), ax, ?_⟩
      refine fun p4 n4 => ⟨.int at', rfl, .ref r, rfl, upd_same, [(Sum.inl at', .ref r)], rfl, by show 1 ≤ 15; decide, ?_⟩
      have e4 := (D2.same t2).ned n4
      have s4 : Same H4 _ := same_new2 (o := .dK []) (o' := .dK (mergeK [] [((Sum.inl at' : Key), V.ref r)])) n4
      have h4 : (upd (upd H4 p4 (.dK [])) p4 (.dK (mergeK [] [((Sum.inl at' : Key), V.ref r)]))) p4 = some (.dK [(Sum.inl at', .ref r)]) := upd_same
      generalize upd (upd H4 p4 (.dK [])) p4 (.dK (mergeK [] [((Sum.inl at' : Key), V.ref r)])) = H6 at s4 h4
      have t4 := t2.trans s4
      refine ⟨Nat.zero_le _, fun p6 n6 => ?_⟩
      have s6 : Same H6 (upd H6 p6 (.tup [])) := same_new n6
      have h6 : (upd H6 p6 (.tup [])) p6 = some (.tup []) := upd_same
      generalize upd H6 p6 (.tup []) = H7 at s6 h6
      have t6 := t4.trans s6
      refine ⟨by show 6 ≤ sizeLine; decide, fun S nS => ?_⟩
      have eS := (D2.same t6).ned nS
      refine ⟨.ref d, rfl, d, c, 6, rfl, (D2.same t6).new nS, by decide, by decide, fun v H9 a9 b9 D9 K9 => ?_⟩
      have Kk : Kp d c H2 H9 := (Kp.trans (Same.kp t6) (Kp.new nS)).trans K9
      have hS := K9 _ _ eS.1 eS.2 upd_same
      have kp : ∀ b o, b ≠ d → b ≠ c → H7 b = some o → H9 b = some o := fun b o x y z => K9 b o x y (same_new nS _ _ z)
      have kt : ∀ b xs, H7 b = some (.tup xs) → H9 b = some (.tup xs) := fun b xs e => K9.tk ((D2.same t6).new nS) _ _ (same_new nS _ _ e)
      have u4 := s4.trans s6
      have g0 := kt _ _ (t6 _ _ hR2)
      have g1 := kp _ _ e1.1 e1.2 ((s2.trans u4) _ _ h1)
      have g2 := kt _ _ (u4 _ _ h2)
      have g4 := kp _ _ e4.1 e4.2 (s6 _ _ h4)
      have g6 := kt _ _ h6
      have go : ∀ z : V, Th _ 5 49000 H9 z → Q z H9 := fun z hz => q2 z H9 D9 Kk hz
      have fr := fine_rowT (row.mono (by decide))
      have t5 : FineX 1 0 (.tuple []) := (FineX.tup (k := 0) (w := 0) (n := 0) (fun x hx => by simp at hx) (Nat.le_refl _)).mono (Nat.le_refl _) (by decide)
      obtain ⟨k, rfl⟩ : ∃ k : Nat, v = k := ⟨v.toNat, by omega⟩
      have hk : k < 6 := by omega
      refine ⟨S, _, k, _, rfl, rfl, SqL.of hS, atI_nat (List.getElem?_eq_getElem (by exact hk)), ?_⟩
      match k, hk with
      | 0, _ => exact go _ ⟨knw_lst g1, _, .inl ⟨.lst (SqL.of g1) (dpa_ints ss), by rw [PyData.hasDict]; exact nod_ints ss⟩, (FineX.lst (k := 0) (w := 10) (n := 200) (fine_row (row.mono (by decide))) (by rw [List.length_map]; omega)).mono (by decide) (by decide)⟩
      | 1, _ => exact go _ ⟨knw_tup g2 (by show 1 ≤ 1000; decide) (fun x hx => by rw [List.mem_singleton.mp hx]; exact .inr (.inl ⟨_, g0⟩)), _, .inr (.tup (SqT.of g2) (.cons (.tup (SqT.of g0) (dpl_ints ss)) .nil)), (FineX.tup (k := 1) (w := 2200) (n := 1) (fun x hx => by rw [List.mem_singleton.mp hx]; exact fr) (Nat.le_refl _)).mono (by decide) (by decide)⟩
      | 2, _ => exact go _ ((th_int (by omega)).mono (by decide) (by decide))
      | 3, _ => exact go _ ⟨knw_of trivial rfl, _, .inr .non, FineX.non.mono (by decide) (by decide)⟩
      | 4, _ => exact go _ ⟨knw_dct g4, _, .inr (.d1 g4 (.tup (SqT.of g0) (dpl_ints ss))), (FineX.d1 (by omega) fr).mono (by decide) (by decide)⟩
      | 5, _ => exact go _ ⟨knw_tup g6 (by decide) (fun x hx => by simp at hx), _, .inr (.tup (SqT.of g6) .nil), t5.mono (by decide) (by decide)⟩
end
/-! ### k11: rings spoilt -/
def Tg (K : PySem.W.Frag) (H : Hp) (v : V) : Prop := Thing2 H v ∧ ∃ d, RdX K H v d ∧ FineX 6 99000 d
theorem fine_pair {x y : PyData} (h1 : FineX 5 49000 x) (h2 : FineX 5 49000 y) : FineX 6 99000 (.tuple [x, y]) := (FineX.tup (k := 5) (w := 49000) (n := 2) (fun z hz => by
  simp only [List.mem_cons, List.not_mem_nil, or_false] at hz
  rcases hz with rfl | rfl
  · exact h1
  · exact h2) (Nat.le_refl _)).mono (by decide) (by decide)
theorem tg_pair {H : Hp} {p : Addr} {x y : V} (h : H p = some (.tup [x, y])) (h1 : Part2 H x) (h2 : Part2 H y) : Thing2 H (.ref p) := tg_tup h (fun z hz => by
  simp only [List.mem_cons, List.not_mem_nil, or_false] at hz
  rcases hz with rfl | rfl
  · exact h1
  · exact h2)
theorem row_part {H : Hp} {r : Addr} {ns : List Int} {k : Nat} (h : H r = some (.tup (ns.map V.int))) (o : Row k ns) (hk : k ≤ 200) : Part2 H (.ref r) := part_row h (kn_ints ns) (by rw [List.length_map]; exact Nat.le_trans o.1 (by omega))
theorem row_fine {ns : List Int} {k : Nat} (o : Row k ns) (hk : k ≤ 200) : FineX 5 49000 (.tuple (ns.map .int)) := (fine_rowT (o.mono hk)).mono (by decide) (by decide)
theorem tg_left {K : PySem.W.Frag} {H : Hp} {p r : Addr} {x : V} {ns : List Int} {k : Nat} (h : H p = some (.tup [x, .ref r])) (hx : Th K 5 49000 H x) (hr : H r = some (.tup (ns.map V.int))) (o : Row k ns) (hk : k ≤ 200) : Tg K H (.ref p) := by
  obtain ⟨h1, d, h2, h3⟩ := hx
  refine ⟨tg_pair h h1.part (row_part hr o hk), .tuple [d, .tuple (ns.map .int)], ?_, fine_pair h3 (row_fine o hk)⟩
  rcases h2 with ⟨h2, n2⟩ | h2
  · refine .inl ⟨.tup (SqT.of h) (.cons h2 (.cons (.tup (SqT.of hr) (dpa_ints ns)) .nil)), ?_⟩
    simp only [PyData.hasDict, PyData.hasDictAll, n2, nod_ints, Bool.or_false]
  · exact .inr (.tup (SqT.of h) (.cons h2 (.cons (.tup (SqT.of hr) (dpl_ints ns)) .nil)))
theorem tg_right {K : PySem.W.Frag} {H : Hp} {p r : Addr} {x : V} {ns : List Int} {k : Nat} (h : H p = some (.tup [.ref r, x])) (hx : Th K 5 49000 H x) (hr : H r = some (.tup (ns.map V.int))) (o : Row k ns) (hk : k ≤ 200) : Tg K H (.ref p) := by
  obtain ⟨h1, d, h2, h3⟩ := hx
  refine ⟨tg_pair h (row_part hr o hk) h1.part, .tuple [.tuple (ns.map .int), d], ?_, fine_pair (row_fine o hk) h3⟩
  rcases h2 with ⟨h2, n2⟩ | h2
  · refine .inl ⟨.tup (SqT.of h) (.cons (.tup (SqT.of hr) (dpa_ints ns)) (.cons h2 .nil)), ?_⟩
    simp only [PyData.hasDict, PyData.hasDictAll, n2, nod_ints, Bool.or_false]
  · exact .inr (.tup (SqT.of h) (.cons (.tup (SqT.of hr) (dpl_ints ns)) (.cons h2 .nil)))
theorem tg_rows {K : PySem.W.Frag} {H : Hp} {p r t : Addr} {a b : List Int} {k l : Nat} (h : H p = some (.tup [.ref r, .ref t])) (h1 : H r = some (.tup (a.map V.int))) (h2 : H t = some (.tup (b.map V.int))) (o1 : Row k a) (o2 : Row l b) (hk : k ≤ 200) (hl : l ≤ 200) : Tg K H (.ref p) :=
  tg_left h (th_row h1 o1 hk) h2 o2 hl
theorem Rows.row1 {k : Nat} {n m : Int} {pn en : List Int} (h : Rows k n m pn en) (hk : k ≤ 40) (hn : n ≤ 1000) : Row 40 pn := ⟨by rw [h.lp]; exact hk, fun x hx => by have := h.op x hx; omega⟩
theorem Rows.row2 {k : Nat} {n m : Int} {pn en : List Int} (h : Rows k n m pn en) (hk : k ≤ 40) (hm : m ≤ 1000) : Row 40 en := ⟨by rw [h.le]; exact hk, fun x hx => by have := h.oe x hx; omega⟩
def spSpoilt (K : PySem.W.Frag) : Sp := fun vs H Q _ => ∃ (d c : Addr) (wv rv : V) (k : Nat) (n : Int) (ts : List Tie) (pn en : List Int), vs = [.ref d, wv, rv] ∧ Deck H d c ∧ WebAt H wv n ts ∧ WebOk n ts ∧ PairAt H rv pn en ∧ Rows k n ts.length pn en ∧ 2 ≤ k ∧ k ≤ 40 ∧ ∀ v H', Deck H' d c → Kp d c H H' → Tg K H' v → Q v H'
section
variable {P : Program} {w : World} {K : PySem.W.Frag} {mg : Str → Option Value} {base : Heap}
theorem ok_l_spoilt {f : Addr} {fd : FuncData} (F : Fun K "_law_spoilt" "_law_spoilt" s_l_spoilt f fd) (M : Free mg) (ms : mg "sorted" = none) (D_l_draw : Df P w K mg base 1 "_law_draw" ["_law_deck_here", "_law_most"] spDraw) (D_l_row_spoilt : Df P w K mg base 3 "_law_row_spoilt" ["_law_deck_here", "_law_row", "_law_many"] (spRowSp K)) (D_l_odd : Df P w K mg base 2 "_law_odd" ["_law_deck_here"] (spOddT K)) : FnOk P w K mg base CX0 4 f fd ["_law_deck_here", "_law_web", "_law_ring"] (spSpoilt K) := by
  obtain ⟨f_l_draw, fd_l_draw, G_l_draw, g_l_draw, k_l_draw, b_l_draw⟩ := D_l_draw
  obtain ⟨f_l_row_spoilt, fd_l_row_spoilt, G_l_row_spoilt, g_l_row_spoilt, k_l_row_spoilt, b_l_row_spoilt⟩ := D_l_row_spoilt
  obtain ⟨f_l_odd, fd_l_odd, G_l_odd, g_l_odd, k_l_odd, b_l_odd⟩ := D_l_odd
  refine F.ok sc_l_spoilt (fun vs H Q E h => ?_) (fun cdv A outer s H vs Q E hr h => ?_)
  · obtain ⟨d, c, wv, rv, k, n, ts, pn, en, rfl, _⟩ := h
    rfl
  · obtain ⟨d, c, wv, rv, k, n, ts, pn, en, rfl, hD, hW, ok, hP, ro, k2, k40, q⟩ := h
    refine ⟨_, (pss_cons (ps_asg (pv 2) (pg_tup rfl (pgs_cons (pg_name (i := 3) sc_l_spoilt.nd rfl (.inl rfl)) (pgs_cons (pg_name (i := 4) sc_l_spoilt.nd rfl (.inl rfl)) pgs_nil))))
      (pss_cons (ps_set (i := 5) sc_l_spoilt.nd rfl (.inl rfl) (pe_call G_l_draw (hr.mono (by decide)) (by rfl) g_l_draw k_l_draw b_l_draw .nil pass0 (pa_cons (pv 0) (pa_cons pe_int pa_nil))))
      (pss_cons (ps_if (pt_cmpR op_lt (pv 5) pe_int (nomark _))
        (pss_one (ps_ret (pe_tup (pa_cons (pe_call G_l_row_spoilt (hr.mono (by decide)) (by rfl) g_l_row_spoilt k_l_row_spoilt b_l_row_spoilt .nil pass0 (pa_cons (pv 0) (pa_cons (pv 3) (pa_cons (pe_ix ix_tup (pv 1) pe_int (fun _ _ => rfl)) pa_nil)))) (pa_cons (pv 4) pa_nil)))))
        pss_nil)
      (pss_cons (ps_if (pt_cmpR op_lt (pv 5) pe_int (nomark _))
        (pss_one (ps_ret (pe_tup (pa_cons (pv 3) (pa_cons (pe_call G_l_row_spoilt (hr.mono (by decide)) (by rfl) g_l_row_spoilt k_l_row_spoilt b_l_row_spoilt .nil pass0 (pa_cons (pv 0) (pa_cons (pv 4) (pa_cons (pe_callB call_len_seq (by rfl) M.len PySem.boot_len (pa_cons (pe_ix ix_tup (pv 1) pe_int (fun _ _ => rfl)) pa_nil)) pa_nil)))) pa_nil)))))
        pss_nil)
      (pss_cons (ps_set (i := 6) sc_l_spoilt.nd rfl (.inl rfl) (pe_call G_l_draw (hr.mono (by decide)) (by rfl) g_l_draw k_l_draw b_l_draw .nil pass0 (pa_cons (pv 0) (pa_cons (pe_callB call_len_seq (by rfl) M.len PySem.boot_len (pa_cons (pv 4) pa_nil)) pa_nil))))
      (pss_cons (ps_if (pt_cmpR op_eq (pv 5) pe_int (nomark _))
        (pss_cons (ps_set (i := 7) sc_l_spoilt.nd rfl (.inr rfl) (pe_callB (cr_sortT rfl) (by rfl) ms (by decide +kernel) (pa_cons (pe_slice sl_tupU (pe_ix ix_tup (pe_ix ix_tup (pv 1) pe_int (fun _ _ => rfl)) (pe_ix ix_tup (pv 4) (pv 6) (fun _ _ => rfl)) (fun _ _ => rfl)) po_none (po_some pe_int)) pa_nil)))
        (Evl.pss_cut (ps_setLc (i := 8) (own := [("_law_k", 9)]) (g := gName 9) (te := tVar 9) rfl sc_l_spoilt.nd rfl rfl (sw_true rfl rfl rfl (by decide +kernel)) (pi_range1 (by rfl) M.range (pa_cons (pe_callB call_len_seq (by rfl) M.len PySem.boot_len (pa_cons (pe_ix ix_tup (pv 1) pe_int (fun _ _ => rfl)) pa_nil)) pa_nil)) (blkOk_by (N := N_l_spoilt) (sc := defScope s_l_spoilt) (own := [("_law_k", 9)]) (by decide +kernel)) (fun _ _ _ _ _ => (pg_name (i := 9) sc_l_spoilt.nd rfl (.inl rfl))) (fun _ _ _ _ _ => (pts_one (pt_cmpR (r := rEqD K) (op_eqD hr.units) (pe_callB (r := rSortT K) (cr_sortT rfl) (by rfl) ms (by decide +kernel) (pa_cons (pe_slice sl_tupU (pe_ix (r := rIxT K) ix_tup (pe_ix (r := rIxT K) ix_tup (pv 1) pe_int (fun _ _ => rfl)) (pv 9) (fun _ _ => rfl)) po_none (po_some pe_int)) pa_nil)) (pv 7) (nomark _)))) (fun _ _ _ _ _ => (pv 9)))
        (pss_one (ps_ret (pe_tup (pa_cons (pv 3) (pa_cons (pe_op op_catU (pe_op op_catU (pe_slice sl_tupU (pv 4) po_none (po_some (pv 6))) (pe_tup (pa_cons (pe_ix ix_list (pv 8) (pe_call G_l_draw (hr.mono (by decide)) (by rfl) g_l_draw k_l_draw b_l_draw .nil pass0 (pa_cons (pv 0) (pa_cons (pe_callB call_len_seq (by rfl) M.len PySem.boot_len (pa_cons (pv 8) pa_nil)) pa_nil))) (fun _ _ => rfl)) pa_nil))) (pe_slice sl_tupU (pv 4) (po_some (pe_op op_add (pv 6) pe_int)) po_none)) pa_nil)))))))
        pss_nil)
      (pss_cons (ps_if (pt_cmpR op_eq (pv 5) pe_int (nomark _))
        (pss_one (ps_ret (pe_tup (pa_cons (pe_op op_catU (pe_slice sl_tupU (pv 3) po_none (po_some (pv 6))) (pe_slice sl_tupU (pv 3) (po_some (pe_op op_add (pv 6) pe_int)) po_none)) (pa_cons (pe_op op_catU (pe_slice sl_tupU (pv 4) po_none (po_some (pv 6))) (pe_slice sl_tupU (pv 4) (po_some (pe_op op_add (pv 6) pe_int)) po_none)) pa_nil)))))
        pss_nil)
      (pss_cons (ps_if (pt_cmpR op_eq (pv 5) pe_int (nomark _))
        (pss_one (ps_ret (pe_ix ix_list (pe_lst (pa_cons (pe_tup (pa_cons (pv 4) (pa_cons (pv 3) pa_nil))) (pa_cons (pe_callTy call_list_of (by rfl) M.list (by decide +kernel) (pa_cons (pv 2) pa_nil)) (pa_cons (pe_op op_catU (pv 2) (pe_tup (pa_cons (pe_tup pa_nil) pa_nil))) (pa_cons (pe_slice sl_tupU (pv 2) po_none (po_some pe_int)) (pa_cons (pe_tup (pa_cons (pv 2) pa_nil)) (pa_cons (pe_tup (pa_cons (pe_callTy call_list_of (by rfl) M.list (by decide +kernel) (pa_cons (pv 3) pa_nil)) (pa_cons (pv 4) pa_nil))) pa_nil))))))) (pe_call G_l_draw (hr.mono (by decide)) (by rfl) g_l_draw k_l_draw b_l_draw .nil pass0 (pa_cons (pv 0) (pa_cons pe_int pa_nil))) (fun _ _ => rfl))))
        pss_nil)
      (pss_one (ps_ret (pe_ix ix_list (pe_lst (pa_cons (pe_call G_l_odd (hr.mono (by decide)) (by rfl) g_l_odd k_l_odd b_l_odd .nil pass0 (pa_cons (pv 0) pa_nil)) (pa_cons (pe_tup (pa_cons (pe_tup pa_nil) (pa_cons (pe_tup pa_nil) pa_nil))) (pa_cons (pe_tup (pa_cons (pe_slice sl_tupU (pv 3) po_none (po_some pe_int)) (pa_cons (pe_slice sl_tupU (pv 4) po_none (po_some pe_int)) pa_nil))) (pa_cons (pe_tup (pa_cons (pe_op op_catU (pv 3) (pv 3)) (pa_cons (pe_op op_catU (pv 4) (pv 4)) pa_nil))) pa_nil))))) (pe_call G_l_draw (hr.mono (by decide)) (by rfl) g_l_draw k_l_draw b_l_draw .nil pass0 (pa_cons (pv 0) (pa_cons pe_int pa_nil))) (fun _ _ => rfl)))))))))))), ?_⟩
    obtain ⟨a, pa, ta, rfl, ha, hpa, hta⟩ := hP
    obtain ⟨wa, wb, us, rfl, hwa, hwb, hp⟩ := id hW
    have lp := ro.lp
    have le := ro.le
    have nhi := ok.hi
    have nlo := ok.lo
    have few := ok.few
    have lus : us.length = ts.length := Paired.length hp
    have r1 := ro.row1 k40 (by omega)
    have r2 := ro.row2 k40 (by omega)
    have hts : 1 ≤ ts.length := by
      cases hen : en with
      | nil => rw [hen] at le; simp at le; omega
      | cons x xs =>
        have := ro.oe x (by rw [hen]; exact List.mem_cons_self)
        omega
    refine ⟨.ref a, rfl, a, _, rfl, SqT.of ha, rfl, _, _, rfl, _, _, rfl, rfl, ?_⟩
    refine ⟨.ref d, rfl, d, c, 8, rfl, hD, by decide, by decide, fun way H1 a1 b1 D1 K1 => ?_⟩
    have tk1 := K1.tk hD
    refine ⟨.int way, rfl, way, 2, rfl, rfl, _, rfl, ite2 (fun _ => ?_) (fun _ => ?_)⟩
    · refine ⟨.ref d, rfl, .ref pa, rfl, .ref wa, rfl, wa, _, 0, .int n, rfl, rfl, SqT.of (tk1 _ _ hwa), rfl, d, c, pa, pn, n, rfl, D1, tk1 _ _ hpa, by omega, r1, by omega, by omega, fun v H3 D3 K3 hv => ?_⟩
      refine ⟨.ref ta, rfl, by show 2 ≤ sizeLine; decide, fun p np => ?_⟩
      have s4 : Same H3 (upd H3 p (.tup [v, .ref ta])) := same_new np
      exact q _ _ (D3.new np) ((K1.trans K3).trans (Kp.new np)) (tg_left upd_same (hv.same s4) (s4 _ _ (K3.tk D1 _ _ (tk1 _ _ hta))) r2 (by decide))
    refine ⟨.int way, rfl, way, 4, rfl, rfl, _, rfl, ite2 (fun _ => ?_) (fun _ => ?_)⟩
    · refine ⟨.ref pa, rfl, .ref d, rfl, .ref ta, rfl, .ref wa, rfl, wa, _, 1, .ref wb, rfl, rfl, SqT.of (tk1 _ _ hwa), rfl, wb, us, rfl, .inr (SqT.of (tk1 _ _ hwb)), d, c, ta, en, us.length, rfl, D1, tk1 _ _ hta, by omega, r2, by omega, by omega, fun v H3 D3 K3 hv => ?_⟩
      refine ⟨by show 2 ≤ sizeLine; decide, fun p np => ?_⟩
      have s4 : Same H3 (upd H3 p (.tup [.ref pa, v])) := same_new np
      exact q _ _ (D3.new np) ((K1.trans K3).trans (Kp.new np)) (tg_right upd_same (hv.same s4) (s4 _ _ (K3.tk D1 _ _ (tk1 _ _ hpa))) r1 (by decide))
    refine ⟨.ref d, rfl, .ref ta, rfl, ta, _, rfl, .inr (SqT.of (tk1 _ _ hta)), d, c, _, rfl, D1, by rw [List.length_map]; omega, by rw [List.length_map]; omega, fun at' H2 a2 b2 D2 K2 => ?_⟩
    rw [List.length_map] at b2
    have tk2 := tk1.trans (K2.tk D1)
    have q2 : ∀ v H', Deck H' d c → Kp d c H2 H' → Tg K H' v → Q v H' := fun v H' x y z => q v H' x ((K1.trans K2).trans y) z
    have qs : ∀ v H', Same H2 H' → Tg K H' v → Q v H' := fun v H' x z => q2 v H' (D2.same x) (Same.kp x) z
    have hp2 := ties_tk tk2 hp
    have ha := tk2 _ _ ha
    have hpa := tk2 _ _ hpa
    have hta := tk2 _ _ hta
    have hwa := tk2 _ _ hwa
    have hwb := tk2 _ _ hwb
    clear q K1 K2 D1 hD tk1 tk2 hp
    obtain ⟨c1, ec1, rc1⟩ := row_cut r1 none (some at')
    obtain ⟨c2, ec2, rc2⟩ := row_cut r1 (some (at' + 1)) none
    obtain ⟨c3, ec3, rc3⟩ := row_cut r2 none (some at')
    obtain ⟨c4, ec4, rc4⟩ := row_cut r2 (some (at' + 1)) none
    obtain ⟨c5, ec5, rc5⟩ := row_cut r1 none (some 1)
    obtain ⟨c6, ec6, rc6⟩ := row_cut r2 none (some 1)
    have m1 := rc1.1
    have m2 := rc2.1
    have m3 := rc3.1
    have m4 := rc4.1
    refine ⟨.int way, rfl, rfl, _, rfl, ite2 (fun _ => ?_) (fun _ => ?_)⟩
    · obtain ⟨e, me, _, ae⟩ := atI_ints a2 b2
      have oe := ro.oe e me
      obtain ⟨u, eu, cc, rfl, hcc⟩ := Paired.at' hp2 (tieAt_get oe.1 oe.2)
      refine ⟨.ref wa, rfl, wa, _, 1, .ref wb, rfl, rfl, SqT.of hwa, rfl, .ref ta, rfl, .int at', rfl, ta, _, at', _, rfl, rfl, SqT.of hta, ae, wb, us, _, .ref cc, rfl, rfl, SqT.of hwb, atI_of oe.1 eu, 2, rfl, cc, _, rfl, hcc, fun q1 H4 s4 h4 => ?_⟩
      have e2 : ∀ t : Tie, cutV [V.int t.one, V.int t.other, V.str (kindS t.foe)] none (some 2) = [t.one, t.other].map V.int := fun _ => rfl
      rw [e2] at h4
      refine ⟨q1, _, rfl, SqT.of h4, by show 2 < 64; decide, fun ys1 L hp1 hs1 nL => ?_⟩
      obtain rfl := pair_sort hp1 hs1
      have eL := (D2.same s4).ned nL
      have sL := s4.trans (same_new (o := .lst ([min (tieAt ts e).one (tieAt ts e).other, max (tieAt ts e).one (tieAt ts e).other].map V.int)) nL)
      have hL : (upd H4 L (.lst ([min (tieAt ts e).one (tieAt ts e).other, max (tieAt ts e).one (tieAt ts e).other].map V.int))) L = some (.lst ([min (tieAt ts e).one (tieAt ts e).other, max (tieAt ts e).one (tieAt ts e).other].map V.int)) := upd_same
      generalize upd H4 L (.lst ([min (tieAt ts e).one (tieAt ts e).other, max (tieAt ts e).one (tieAt ts e).other].map V.int)) = H5 at sL hL
      refine ⟨fun σ' H' => ∃ (S : Addr) (ks : List Int), σ' = [some (.ref d), some (.ref wa), some (.ref a), some (.ref pa), some (.ref ta), some (.int way), some (.int at'), some (.ref L), some (.ref S), none] ∧ H' S = some (.lst (ks.map V.int)) ∧ ks ≠ [] ∧ ks.length ≤ 120 ∧ (∀ x ∈ ks, 0 ≤ x ∧ x < (ts.length : Int)) ∧ S ≠ d ∧ S ≠ c ∧ Same H2 H', ?_, ?_⟩
      · refine ⟨.ref wa, rfl, wa, _, 1, .ref wb, rfl, rfl, SqT.of (sL _ _ hwa), rfl, wb, us, rfl, .inr (SqT.of (sL _ _ hwb)), us.length, rfl, by omega, by omega, fun S nS => ?_⟩
        rw [Int.toNat_natCast]
        have eS := (D2.same sL).ned nS
        refine lc_range (lo := 0) (n := us.length) (fun i H' => ∃ ks : List Int, H' S = some (.lst (ks.map V.int)) ∧ (e < (i : Int) → ks ≠ []) ∧ ks.length ≤ i ∧ (∀ x ∈ ks, 0 ≤ x ∧ x < (ts.length : Int)) ∧ H' L = some (.lst ([min (tieAt ts e).one (tieAt ts e).other, max (tieAt ts e).one (tieAt ts e).other].map V.int)) ∧ Same H5 H') ⟨[], upd_same, fun z => absurd z (by omega), Nat.le_refl _, fun x hx => by simp at hx, same_new nS _ _ hL, same_new nS⟩ ?_ ?_
        · rintro i H6 hi ⟨ks, hS6, ne6, l6, o6, hL6, s6⟩
          rw [show (0 : Int) + (i : Nat) = i from by omega]
          have t26 := sL.trans s6
          have i0 : (0 : Int) ≤ (i : Int) := by omega
          have i1 : (i : Int) < ts.length := by omega
          obtain ⟨u', eu', dd, rfl, hdd⟩ := Paired.at' hp2 (tieAt_get i0 i1)
          refine ⟨rfl, .ref wa, rfl, wa, _, 1, .ref wb, rfl, rfl, SqT.of (t26 _ _ hwa), rfl, .int i, rfl, wb, us, _, .ref dd, rfl, rfl, SqT.of (t26 _ _ hwb), atI_of i0 eu', 2, rfl, dd, _, rfl, t26 _ _ hdd, fun q2' H7 s7 h7 => ?_⟩
          rw [e2] at h7
          refine ⟨q2', _, rfl, SqT.of h7, by show 2 < 64; decide, fun ys2 L2 hp2' hs2 nL2 => ?_⟩
          obtain rfl := pair_sort hp2' hs2
          have s8 : Same H7 (upd H7 L2 (.lst ([min (tieAt ts i).one (tieAt ts i).other, max (tieAt ts i).one (tieAt ts i).other].map V.int))) := same_new nL2
          have s68 := s7.trans s8
          refine ⟨.ref L, rfl, listD _, listD _, .lst (SqL.of upd_same) (dp_ints _), .lst (SqL.of (s68 _ _ hL6)) (dp_ints _), shaped_listD _, shaped_listD _, _, rfl, ?_⟩
          rw [eqv_pairs]
          refine ite2 (fun hy => ?_) (fun hy => ?_)
          · refine ⟨.int i, rfl, ks.map V.int, s68 _ _ hS6, by rw [List.length_map]; exact small1000 (by omega), ks ++ [(i : Int)], by rw [upd_same, List.map_append]; rfl, fun _ => by simp, by rw [List.length_append]; show ks.length + 1 ≤ i + 1; omega, fun x hx => ?_, ?_, fun b o eb => by rw [upd_ne (ne_of_none eb nS)]; exact (s6.trans s68) b o eb⟩
            · rcases List.mem_append.mp hx with z | z
              · exact o6 x z
              · rw [List.mem_singleton.mp z]
                exact ⟨i0, i1⟩
            · rw [upd_ne (ne_of_none hL nS)]
              exact s68 _ _ hL6
          · refine ⟨ks, s68 _ _ hS6, fun z => ?_, by omega, o6, s68 _ _ hL6, s6.trans s68⟩
            by_cases ez : e = (i : Int)
            · exfalso
              refine hy ?_
              rw [ez]
              simp
            · exact ne6 (by omega)
        · rintro H6 ⟨ks, hS6, ne6, l6, o6, hL6, s6⟩
          exact ⟨S, ks, rfl, hS6, ne6 (by omega), by omega, o6, eS.1, eS.2, sL.trans s6⟩
      rintro σ' H6 ⟨S, ks, rfl, hS6, ne6, l6, o6, eS1, eS2, s6⟩
      have lk : 0 < ks.length := List.length_pos_iff.mpr ne6
      refine ⟨.ref pa, rfl, .ref ta, rfl, .int at', rfl, at', rfl, ta, _, rfl, s6 _ _ hta, fun r3 H7 s7 h7 => ?_⟩
      rw [ec3] at h7
      have D7 := D2.same (s6.trans s7)
      refine ⟨.ref S, rfl, .ref d, rfl, .ref S, rfl, S, _, rfl, .inl (SqL.of (s7 _ _ hS6)), d, c, _, rfl, D7, by rw [List.length_map]; omega, by rw [List.length_map]; omega, fun v H8 a8 b8 D8 K8 => ?_⟩
      rw [List.length_map] at b8
      obtain ⟨y, my, _, ay⟩ := atI_ints a8 b8
      have oy := o6 y my
      have tk8 := K8.tk D7
      refine ⟨S, _, v, _, rfl, rfl, SqL.of (K8 _ _ eS1 eS2 (s7 _ _ hS6)), ay, by show 1 ≤ sizeLine; decide, fun p np => ?_⟩
      have s9 : Same H8 (upd H8 p (.tup [.int y])) := same_new np
      refine ⟨r3, p, _, _, rfl, rfl, s9 _ _ (tk8 _ _ h7), upd_same, by rw [List.length_map, List.length_singleton]; omega, fun r4 H10 s10 h10 => ?_⟩
      have s810 := s9.trans s10
      refine ⟨.ref ta, rfl, .int at', rfl, at', 1, rfl, rfl, at' + 1, rfl, ta, _, rfl, s810 _ _ (tk8 _ _ ((s6.trans s7) _ _ hta)), fun r5 H11 s11 h11 => ?_⟩
      rw [ec4] at h11
      refine ⟨r4, r5, _, _, rfl, rfl, s11 _ _ h10, h11, by rw [List.length_append, List.length_map, List.length_map, List.length_singleton]; omega, fun r6 H12 s12 h12 => ⟨by show 2 ≤ sizeLine; decide, fun p2 np2 => ?_⟩⟩
      have e12 : c3.map V.int ++ [.int y] ++ c4.map V.int = (c3 ++ [y] ++ c4).map V.int := by rw [List.map_append, List.map_append]; rfl
      rw [e12] at h12
      have s13 : Same H12 (upd H12 p2 (.tup [.ref pa, .ref r6])) := same_new np2
      have s813 := ((s810.trans s11).trans s12).trans s13
      exact q2 _ _ (D8.same s813) (((Same.kp (s6.trans s7)).trans K8).trans (Same.kp s813)) (tg_rows upd_same (s813 _ _ (tk8 _ _ ((s6.trans s7) _ _ hpa))) (s13 _ _ h12) r1 ((rc3.app (Row.one (by omega) (by omega))).app rc4) (by decide) (by decide))
    refine ⟨.int way, rfl, rfl, _, rfl, ite2 (fun _ => ?_) (fun _ => ?_)⟩
    · refine ⟨.ref pa, rfl, .int at', rfl, at', rfl, pa, _, rfl, hpa, fun q1 H3 s3 h3 => ?_⟩
      rw [ec1] at h3
      refine ⟨.ref pa, rfl, .int at', rfl, at', 1, rfl, rfl, at' + 1, rfl, pa, _, rfl, s3 _ _ hpa, fun q2' H4 s4 h4 => ?_⟩
      rw [ec2] at h4
      refine ⟨q1, q2', _, _, rfl, rfl, s4 _ _ h3, h4, by rw [List.length_map, List.length_map]; omega, fun q3 H5 s5 h5 => ?_⟩
      rw [← List.map_append] at h5
      have s25 := (s3.trans s4).trans s5
      refine ⟨.ref ta, rfl, .int at', rfl, at', rfl, ta, _, rfl, s25 _ _ hta, fun q4 H6 s6 h6 => ?_⟩
      rw [ec3] at h6
      refine ⟨.ref ta, rfl, .int at', rfl, at', 1, rfl, rfl, at' + 1, rfl, ta, _, rfl, (s25.trans s6) _ _ hta, fun q5 H7 s7 h7 => ?_⟩
      rw [ec4] at h7
      refine ⟨q4, q5, _, _, rfl, rfl, s7 _ _ h6, h7, by rw [List.length_map, List.length_map]; omega, fun q6 H8 s8 h8 => ⟨by show 2 ≤ sizeLine; decide, fun p np => ?_⟩⟩
      rw [← List.map_append] at h8
      have s9 : Same H8 (upd H8 p (.tup [.ref q3, .ref q6])) := same_new np
      have s59 := ((s6.trans s7).trans s8).trans s9
      exact qs _ _ (s25.trans s59) (tg_rows upd_same (s59 _ _ h5) (s9 _ _ h8) (rc1.app rc2) (rc3.app rc4) (by decide) (by decide))
    have fr1 := row_fine r1 (by decide)
    have fr2 := row_fine r2 (by decide)
    refine ⟨.int way, rfl, rfl, _, rfl, ite2 (fun _ => ?_) (fun _ => ?_)⟩
    · refine ⟨.ref ta, rfl, .ref pa, rfl, by show 2 ≤ sizeLine; decide, fun p1 n1 => ?_⟩
      have s1 : Same H2 (upd H2 p1 (.tup [.ref ta, .ref pa])) := same_new n1
      have h1 : (upd H2 p1 (.tup [.ref ta, .ref pa])) p1 = some (.tup [.ref ta, .ref pa]) := upd_same
      generalize upd H2 p1 (.tup [.ref ta, .ref pa]) = H3 at s1 h1
      refine ⟨.ref a, rfl, a, _, rfl, .inr (SqT.of (s1 _ _ ha)), fun p2 n2 => ?_⟩
      have e2 := (D2.same s1).ned n2
      have s2 : Same H3 (upd H3 p2 (.lst [.ref pa, .ref ta])) := same_new n2
      have h2 : (upd H3 p2 (.lst [.ref pa, .ref ta])) p2 = some (.lst [.ref pa, .ref ta]) := upd_same
      generalize upd H3 p2 (.lst [.ref pa, .ref ta]) = H4 at s2 h2
      have t2 := s1.trans s2
      refine ⟨.ref a, rfl, Nat.zero_le _, fun p3 n3 => ?_⟩
      have s3 : Same H4 (upd H4 p3 (.tup [])) := same_new n3
      have h3 : (upd H4 p3 (.tup [])) p3 = some (.tup []) := upd_same
      generalize upd H4 p3 (.tup []) = H5 at s3 h3
      refine ⟨by show 1 ≤ sizeLine; decide, fun p4 n4 => ?_⟩
      have s4 : Same H5 (upd H5 p4 (.tup [.ref p3])) := same_new n4
      have h4 : (upd H5 p4 (.tup [.ref p3])) p4 = some (.tup [.ref p3]) := upd_same
      generalize upd H5 p4 (.tup [.ref p3]) = H6 at s4 h4
      have t4 := (t2.trans s3).trans s4
      refine ⟨a, p4, _, _, rfl, rfl, t4 _ _ ha, h4, by show 3 ≤ 100000; decide, fun p5 H7 s5 h5 => ?_⟩
      have h5 : H7 p5 = some (.tup [.ref pa, .ref ta, .ref p3]) := h5
      have t5 := t4.trans s5
      refine ⟨.ref a, rfl, 1, rfl, a, _, rfl, t5 _ _ ha, fun p6 H8 s6 h6 => ?_⟩
      have h6 : H8 p6 = some (.tup [.ref pa]) := h6
      have t6 := t5.trans s6
      refine ⟨.ref a, rfl, by show 1 ≤ sizeLine; decide, fun p7 n7 => ?_⟩
      have s7 : Same H8 (upd H8 p7 (.tup [.ref a])) := same_new n7
      have h7 : (upd H8 p7 (.tup [.ref a])) p7 = some (.tup [.ref a]) := upd_same
      generalize upd H8 p7 (.tup [.ref a]) = H9 at s7 h7
      have t7 := t6.trans s7
      refine ⟨.ref pa, rfl, pa, _, rfl, .inr (SqT.of (t7 _ _ hpa)), fun p8 n8 => ?_⟩
      have e8 := (D2.same t7).ned n8
      have s8 : Same H9 (upd H9 p8 (.lst (pn.map V.int))) := same_new n8
      have h8 : (upd H9 p8 (.lst (pn.map V.int))) p8 = some (.lst (pn.map V.int)) := upd_same
      generalize upd H9 p8 (.lst (pn.map V.int)) = H10 at s8 h8
      have t8 := t7.trans s8
      refine ⟨.ref ta, rfl, by show 2 ≤ sizeLine; decide, fun p9 n9 => ?_⟩
      have s9 : Same H10 (upd H10 p9 (.tup [.ref p8, .ref ta])) := same_new n9
      have h9 : (upd H10 p9 (.tup [.ref p8, .ref ta])) p9 = some (.tup [.ref p8, .ref ta]) := upd_same
      generalize upd H10 p9 (.tup [.ref p8, .ref ta]) = H11 at s9 h9
      have t9 := t8.trans s9
      refine ⟨by show 6 ≤ sizeLine; decide, fun S nS => ?_⟩
      have eS := (D2.same t9).ned nS
      refine ⟨.ref d, rfl, d, c, 6, rfl, (D2.same t9).new nS, by decide, by decide, fun v H12 a12 b12 D12 K12 => ?_⟩
      have Kk : Kp d c H2 H12 := (Kp.trans (Same.kp t9) (Kp.new nS)).trans K12
      have hS := K12 _ _ eS.1 eS.2 upd_same
      have kp : ∀ b o, b ≠ d → b ≠ c → H11 b = some o → H12 b = some o := fun b o x y z => K12 b o x y (same_new nS _ _ z)
      have kt : ∀ b xs, H11 b = some (.tup xs) → H12 b = some (.tup xs) := fun b xs e => K12.tk ((D2.same t9).new nS) _ _ (same_new nS _ _ e)
      have u8 := s8.trans s9
      have u7 := s7.trans u8
      have u6 := s6.trans u7
      have u5 := s5.trans u6
      have u4 := s4.trans u5
      have u3 := s3.trans u4
      have u2 := s2.trans u3
      have ga := kt _ _ (t9 _ _ ha)
      have gp := kt _ _ (t9 _ _ hpa)
      have gt := kt _ _ (t9 _ _ hta)
      have g1 := kt _ _ (u2 _ _ h1)
      have g2 := kp _ _ e2.1 e2.2 (u3 _ _ h2)
      have g3 := kt _ _ (u4 _ _ h3)
      have g5 := kt _ _ (u6 _ _ h5)
      have g6 := kt _ _ (u7 _ _ h6)
      have g7 := kt _ _ (u8 _ _ h7)
      have g8 := kp _ _ e8.1 e8.2 (s9 _ _ h8)
      have g9 := kt _ _ h9
      have go : ∀ z : V, Tg _ H12 z → Q z H12 := fun z hz => q2 z H12 D12 Kk hz
      have pp := row_part gp r1 (by decide)
      have pt := row_part gt r2 (by decide)
      have t5' : FineX 5 49000 (.tuple []) := (FineX.tup (k := 0) (w := 0) (n := 0) (fun x hx => by simp at hx) (Nat.le_refl _)).mono (by decide) (by decide)
      obtain ⟨j, rfl⟩ : ∃ j : Nat, v = j := ⟨v.toNat, by omega⟩
      have hj : j < 6 := by omega
      refine ⟨S, _, j, _, rfl, rfl, SqL.of hS, atI_nat (List.getElem?_eq_getElem (by exact hj)), ?_⟩
      match j, hj with
      | 0, _ => exact go _ (tg_rows g1 gt gp r2 r1 (by decide) (by decide))
      | 1, _ => exact go _ ⟨tg_lst g2, _, .inl ⟨.lst (SqL.of g2) (.cons (.tup (SqT.of gp) (dpa_ints pn)) (.cons (.tup (SqT.of gt) (dpa_ints en)) .nil)), by simp only [PyData.hasDict, PyData.hasDictAll, nod_ints, Bool.or_false]⟩, (FineX.lst (k := 5) (w := 49000) (n := 2) (fun z hz => by
          simp only [List.mem_cons, List.not_mem_nil, or_false] at hz
          rcases hz with rfl | rfl
          · exact fr1
          · exact fr2) (Nat.le_refl _)).mono (by decide) (by decide)⟩
      | 2, _ => exact go _ ⟨tg_tup g5 (fun z hz => by
          simp only [List.mem_cons, List.not_mem_nil, or_false] at hz
          rcases hz with rfl | rfl | rfl
          · exact pp
          · exact pt
          · exact part_row g3 (fun y hy => by simp at hy) (Nat.zero_le _)), _, .inr (.tup (SqT.of g5) (.cons (.tup (SqT.of gp) (dpl_ints pn)) (.cons (.tup (SqT.of gt) (dpl_ints en)) (.cons (.tup (SqT.of g3) .nil) .nil)))), (FineX.tup (k := 1) (w := 2200) (n := 3) (fun z hz => by
          simp only [List.mem_cons, List.not_mem_nil, or_false] at hz
          rcases hz with rfl | rfl | rfl
          · exact fine_rowT (r1.mono (by decide))
          · exact fine_rowT (r2.mono (by decide))
          · exact (FineX.tup (k := 0) (w := 0) (n := 0) (fun x hx => by simp at hx) (Nat.le_refl _)).mono (by decide) (by decide)) (Nat.le_refl _)).mono (by decide) (by decide)⟩
      | 3, _ => exact go _ ⟨tg_tup g6 (fun z hz => by rw [List.mem_singleton.mp hz]; exact pp), _, .inr (.tup (SqT.of g6) (.cons (.tup (SqT.of gp) (dpl_ints pn)) .nil)), (FineX.tup (k := 5) (w := 49000) (n := 1) (fun z hz => by rw [List.mem_singleton.mp hz]; exact fr1) (Nat.le_refl _)).mono (by decide) (by decide)⟩
      | 4, _ => exact go _ ⟨tg_tup g7 (fun z hz => by
          rw [List.mem_singleton.mp hz]
          exact part_row ga (fun y hy => by
            simp only [List.mem_cons, List.not_mem_nil, or_false] at hy
            rcases hy with rfl | rfl
            · exact pp.1
            · exact pt.1) (by show 2 ≤ 1000; decide)), _, .inr (.tup (SqT.of g7) (.cons (.tup (SqT.of ga) (.cons (.tup (SqT.of gp) (dpl_ints pn)) (.cons (.tup (SqT.of gt) (dpl_ints en)) .nil))) .nil)), (FineX.tup (k := 2) (w := 4402) (n := 1) (fun z hz => by
          rw [List.mem_singleton.mp hz]
          exact (FineX.tup (k := 1) (w := 2200) (n := 2) (fun z hz => by
            simp only [List.mem_cons, List.not_mem_nil, or_false] at hz
            rcases hz with rfl | rfl
            · exact fine_rowT (r1.mono (by decide))
            · exact fine_rowT (r2.mono (by decide))) (Nat.le_refl _)).mono (by decide) (by decide)) (Nat.le_refl _)).mono (by decide) (by decide)⟩
      | 5, _ => exact go _ (tg_left g9 ⟨knw_lst g8, _, .inl ⟨.lst (SqL.of g8) (dpa_ints pn), by rw [PyData.hasDict]; exact nod_ints pn⟩, (FineX.lst (k := 0) (w := 10) (n := 200) (fine_row (r1.mono (by decide))) (by rw [List.length_map]; omega)).mono (by decide) (by decide)⟩ gt r2 (by decide))
    · refine ⟨.ref d, rfl, d, c, rfl, D2, fun o H3 D3 K3 ho => ?_⟩
      have ok3 := K3.tk D2
      refine ⟨Nat.zero_le _, fun p1 n1 => ⟨Nat.zero_le _, fun p2 n2 => ⟨by show 2 ≤ sizeLine; decide, fun p3 n3 => ?_⟩⟩⟩
      have s1 : Same H3 (upd H3 p1 (.tup [])) := same_new n1
      have s2 : Same (upd H3 p1 (.tup [])) (upd (upd H3 p1 (.tup [])) p2 (.tup [])) := same_new n2
      have s3 : Same (upd (upd H3 p1 (.tup [])) p2 (.tup [])) (upd (upd (upd H3 p1 (.tup [])) p2 (.tup [])) p3 (.tup [.ref p1, .ref p2])) := same_new n3
      have h1 := (s2.trans s3) _ _ (upd_same (H := H3) (a := p1) (o := .tup []))
      have h2 := s3 _ _ (upd_same (H := upd H3 p1 (.tup [])) (a := p2) (o := .tup []))
      have h3 := upd_same (H := upd (upd H3 p1 (.tup [])) p2 (.tup [])) (a := p3) (o := .tup [.ref p1, .ref p2])
      have t3 := (s1.trans s2).trans s3
      generalize upd (upd (upd H3 p1 (.tup [])) p2 (.tup [])) p3 (.tup [.ref p1, .ref p2]) = H4 at h1 h2 h3 t3
      clear s1 s2 s3
      refine ⟨.ref pa, rfl, 1, rfl, pa, _, rfl, t3 _ _ (ok3 _ _ hpa), fun q1 H5 s5 h5 => ?_⟩
      rw [ec5] at h5
      have t5 := t3.trans s5
      refine ⟨.ref ta, rfl, 1, rfl, ta, _, rfl, t5 _ _ (ok3 _ _ hta), fun q2' H6 s6 h6 => ?_⟩
      rw [ec6] at h6
      have t6 := t5.trans s6
      refine ⟨by show 2 ≤ sizeLine; decide, fun p4 n4 => ?_⟩
      have s7 : Same H6 (upd H6 p4 (.tup [.ref q1, .ref q2'])) := same_new n4
      have h7 : (upd H6 p4 (.tup [.ref q1, .ref q2'])) p4 = some (.tup [.ref q1, .ref q2']) := upd_same
      generalize upd H6 p4 (.tup [.ref q1, .ref q2']) = H7 at s7 h7
      have t7 := t6.trans s7
      refine ⟨.ref pa, rfl, .ref pa, rfl, pa, pa, _, _, rfl, rfl, t7 _ _ (ok3 _ _ hpa), t7 _ _ (ok3 _ _ hpa), by rw [List.length_map]; omega, fun q3 H8 s8 h8 => ?_⟩
      rw [← List.map_append] at h8
      have t8 := t7.trans s8
      refine ⟨.ref ta, rfl, .ref ta, rfl, ta, ta, _, _, rfl, rfl, t8 _ _ (ok3 _ _ hta), t8 _ _ (ok3 _ _ hta), by rw [List.length_map]; omega, fun q4 H9 s9 h9 => ?_⟩
      rw [← List.map_append] at h9
      have t9 := t8.trans s9
      refine ⟨by show 2 ≤ sizeLine; decide, fun p5 n5 => ?_⟩
      have s10 : Same H9 (upd H9 p5 (.tup [.ref q3, .ref q4])) := same_new n5
      have h10 : (upd H9 p5 (.tup [.ref q3, .ref q4])) p5 = some (.tup [.ref q3, .ref q4]) := upd_same
      generalize upd H9 p5 (.tup [.ref q3, .ref q4]) = H10 at s10 h10
      have t10 := t9.trans s10
      refine ⟨by show 4 ≤ sizeLine; decide, fun S nS => ?_⟩
      have D10 := D3.same t10
      have eS := D10.ned nS
      refine ⟨.ref d, rfl, d, c, 4, rfl, D10.new nS, by decide, by decide, fun v H12 a12 b12 D12 K12 => ?_⟩
      have Kk : Kp d c H2 H12 := ((K3.trans (Same.kp t10)).trans (Kp.new nS)).trans K12
      have hS := K12 _ _ eS.1 eS.2 upd_same
      have kt : ∀ b xs, H10 b = some (.tup xs) → H12 b = some (.tup xs) := fun b xs e => K12.tk (D10.new nS) _ _ (same_new nS _ _ e)
      have go : ∀ z : V, Tg _ H12 z → Q z H12 := fun z hz => q2 z H12 D12 Kk hz
      have u9 := s9.trans s10
      have u8 := s8.trans u9
      have u7 := s7.trans u8
      have u6 := s6.trans u7
      have u5 := s5.trans u6
      have g1 := kt _ _ (u5 _ _ h1)
      have g2 := kt _ _ (u5 _ _ h2)
      have g3 := kt _ _ (u5 _ _ h3)
      have g5 := kt _ _ (u6 _ _ h5)
      have g6 := kt _ _ (u7 _ _ h6)
      have g7 := kt _ _ (u8 _ _ h7)
      have g8 := kt _ _ (u9 _ _ h8)
      have g9 := kt _ _ (s10 _ _ h9)
      have g10 := kt _ _ h10
      obtain ⟨j, rfl⟩ : ∃ j : Nat, v = j := ⟨v.toNat, by omega⟩
      have hj : j < 4 := by omega
      refine ⟨S, _, j, _, rfl, rfl, SqL.of hS, atI_nat (List.getElem?_eq_getElem (by exact hj)), ?_⟩
      match j, hj with
      | 0, _ => exact go _ (by obtain ⟨⟨_, dd, z1, z2⟩, z3⟩ := ho H12 (((Same.kp t10).trans (Kp.new nS)).trans K12); exact ⟨z3, dd, z1, z2.mono (by decide) (by decide)⟩)
      | 1, _ => exact go _ (tg_rows (a := []) (b := []) (k := 0) (l := 0) g3 g1 g2 ⟨Nat.le_refl _, fun x hx => by simp at hx⟩ ⟨Nat.le_refl _, fun x hx => by simp at hx⟩ (by decide) (by decide))
      | 2, _ => exact go _ (tg_rows g7 g5 g6 rc5 rc6 (by decide) (by decide))
      | 3, _ => exact go _ (tg_rows g10 g8 g9 (r1.app r1) (r2.app r2) (by decide) (by decide))
end
theorem Part2.kx {H H' : Hp} {v : V} (h : Part2 H v) (k : Kx H H') : Part2 H' v := ⟨h.1.kx k, fun xs e => by
  rw [h.1.parts_kx k] at e
  exact ⟨fun x hx => ((h.2 xs e).1 x hx).kx k, (h.2 xs e).2⟩⟩
theorem Thing2.kx {H H' : Hp} {v : V} (h : Thing2 H v) (k : Kx H H') : Thing2 H' v := ⟨h.1.kx k, fun xs e x hx => by
  rw [h.1.parts_kx k] at e
  exact (h.2 xs e x hx).kx k⟩
theorem ring_kx {H H' : Hp} {v : V} (h : Thing2 H v) (k : Kx H H') (n : Int) (ts : List Tie) : ringB H' n ts v = ringB H n ts v := by
  unfold ringB
  rw [h.1.parts_kx k]
  cases e : parts H v with
  | none => rfl
  | some xs =>
    match xs, e with
    | [], _ => rfl
    | [_], _ => rfl
    | [p, t], e =>
      show ringP n ts (parts H' p) (parts H' t) = ringP n ts (parts H p) (parts H t)
      rw [(h.2 _ e p (by simp)).1.parts_kx k, (h.2 _ e t (by simp)).1.parts_kx k]
    | _ :: _ :: _ :: _, _ => rfl
theorem Tabs.kp {Ps : List Addr} {d c : Addr} {H H' : Hp} (t : Tabs Ps H) (k : Kp d c H H') (D : Deck H d c) : Tabs Ps H' := fun P hP => by
  obtain ⟨ps, e, x⟩ := t P hP
  obtain ⟨cells, st, n, e1, e2, _⟩ := D
  exact ⟨ps, k _ _ (ne_of e e1 (by intro z; cases z)) (ne_of e e2 (by intro z; cases z)) e, x⟩
theorem Tabs.same {Ps : List Addr} {H H' : Hp} (t : Tabs Ps H) (s : Same H H') : Tabs Ps H' := (Kt.same t s).tab
def spRight (K : PySem.W.Frag) (Ps : List Addr) : Sp := fun vs H Q _ => ∃ (wv v : V) (n : Int) (ts : List Tie), vs = [wv, v] ∧ WebAt H wv n ts ∧ WebOk n ts ∧ Tg K H v ∧ Tabs Ps H ∧ ∀ H', Kt Ps H H' → Q (.bl true) H'
def spLaw (K : PySem.W.Frag) (Ps : List Addr) : Sp := fun vs H Q _ => ∃ (a : Addr) (ns : List Int), vs = [.ref a] ∧ SqL K H a (ns.map V.int) ∧ ns.length ≤ 63 ∧ Tabs Ps H ∧ ∀ H', Q (.bl true) H'
section
variable {P : Program} {w : World} {K : PySem.W.Frag} {mg : Str → Option Value} {base : Heap}
theorem ok_l_right {f : Addr} {fd : FuncData} {Ps : List Addr} (F : Fun K "_law_right" "_law_right" s_l_right f fd) (mr : mg "repr" = none) (D_l_is_ring : Df P w K mg base 2 "_law_is_ring" ["_law_web", "_law_thing"] spIsRing) (D_l_same : Df P w K mg base 1 "_law_same" ["_law_found", "_law_due"] spSame) (D_ring_holds : Df P w K mg base 5 "ring_holds" ["web", "thing"] (spRing Ps)) : FnG P w K mg base 6 f fd ["_law_web", "_law_thing"] (spRight K Ps) := by
  obtain ⟨f_l_is_ring, fd_l_is_ring, G_l_is_ring, g_l_is_ring, k_l_is_ring, b_l_is_ring⟩ := D_l_is_ring
  obtain ⟨f_l_same, fd_l_same, G_l_same, g_l_same, k_l_same, b_l_same⟩ := D_l_same
  obtain ⟨f_ring_holds, fd_ring_holds, G_ring_holds, g_ring_holds, k_ring_holds, b_ring_holds⟩ := D_ring_holds
  refine okG F sc_l_right (fun vs H Q E h => ?_) (fun cdv A outer s H vs Q E hG hr h => ?_)
  · obtain ⟨wv, v, n, ts, rfl, _⟩ := h
    rfl
  · obtain ⟨wv, v, n, ts, rfl, hW, ok, ⟨hv, dd, rd, fd'⟩, hT, q⟩ := h
    refine ⟨_, (pss_cons (ps_set (i := 2) sc_l_right.nd rfl (.inl rfl) (pe_callB (call_reprX hG hr.units) (by rfl) mr (by decide +kernel) (pa_cons (pe_tup (pa_cons (pv 0) (pa_cons (pv 1) pa_nil))) pa_nil)))
      (pss_cons (ps_set (i := 3) sc_l_right.nd rfl (.inl rfl) (pe_call G_l_is_ring (hr.mono (by decide)) (by rfl) g_l_is_ring k_l_is_ring b_l_is_ring .nil pass0 (pa_cons (pv 0) (pa_cons (pv 1) pa_nil))))
      (pss_cons (ps_if (PW.pt (pw_or (pt_not (pt_val (pe_call G_l_same (hr.mono (by decide)) (by rfl) g_l_same k_l_same b_l_same .nil pass0 (pa_cons (pe_call G_ring_holds (hr.mono (by decide)) (by rfl) g_ring_holds k_ring_holds b_ring_holds .nil pass0 (pa_cons (pv 0) (pa_cons (pv 1) pa_nil))) (pa_cons (pv 3) pa_nil))))) (pw_or1 (pt_not (pt_val (pe_call G_l_same (hr.mono (by decide)) (by rfl) g_l_same k_l_same b_l_same .nil pass0 (pa_cons (pe_call G_ring_holds (hr.mono (by decide)) (by rfl) g_ring_holds k_ring_holds b_ring_holds .nil pass0 (pa_cons (pv 0) (pa_cons (pv 1) pa_nil))) (pa_cons (pv 3) pa_nil))))))))
        (pss_one (ps_ret pe_bl))
        pss_nil)
      (pss_one (ps_ret (pe_cmpR op_eq (pe_callB (call_reprX hG hr.units) (by rfl) mr (by decide +kernel) (pa_cons (pe_tup (pa_cons (pv 0) (pa_cons (pv 1) pa_nil))) pa_nil)) (pv 2) (nomark _))))))), ?_⟩
    have fine : FineX 7 198002 (.tuple [webD n ts, dd]) := (FineX.tup (k := 6) (w := 99000) (n := 2) (fun x hx => by
      simp only [List.mem_cons, List.not_mem_nil, or_false] at hx
      rcases hx with rfl | rfl
      · exact (FineX.web ok).mono (by decide) (by decide)
      · exact fd') (Nat.le_refl _)).mono (by decide) (by decide)
    refine ⟨wv, rfl, v, rfl, by show 2 ≤ sizeLine; decide, fun p np => ?_⟩
    have s1 : Same H (upd H p (.tup [wv, v])) := same_new np
    refine ⟨p, _, rfl, RdX.pair upd_same (hW.tk (Same.tk s1)) (rd.kp (KpD.same s1)), fine.shw, Nat.le_trans fine.dep (by decide), fine.len (by decide), ?_⟩
    have hv1 := hv.kx (Kx.same s1)
    refine ⟨wv, rfl, v, rfl, wv, n, ts, v, rfl, hW.tk (Same.tk s1), ok, hv1, fun H2 s2 => ?_⟩
    have s12 := s1.trans s2
    have k2 : Kt Ps H H2 := Kt.same hT s12
    rw [ring_kx hv (Kx.same s1)]
    have T2 : Tabs Ps H2 := k2.tab
    refine ⟨wv, rfl, v, rfl, wv, n, ts, v, rfl, hW.tk (k2.tk hT), ok, hv.kx (Kx.kt hT k2), T2, fun H3 k3 => ?_⟩
    rw [ring_kx hv (Kx.kt hT k2)]
    have k23 := k2.trans k3
    have T3 : Tabs Ps H3 := k23.tab
    refine ⟨_, rfl, _, rfl, _, rfl, ?_⟩
    refine ⟨wv, rfl, v, rfl, wv, n, ts, v, rfl, hW.tk (k23.tk hT), ok, hv.kx (Kx.kt hT k23), T3, fun H4 k4 => ?_⟩
    rw [ring_kx hv (Kx.kt hT k23)]
    have k24 := k23.trans k4
    refine ⟨_, rfl, _, rfl, _, rfl, ?_⟩
    refine ⟨wv, rfl, v, rfl, by show 2 ≤ sizeLine; decide, fun p2 np2 => ?_⟩
    have s5 : Same H4 (upd H4 p2 (.tup [wv, v])) := same_new np2
    have k5 := k24.trans (Kt.same k24.tab s5)
    refine ⟨p2, _, rfl, RdX.pair upd_same (hW.tk (k5.tk hT)) (rd.kp (KpD.kt hT k5)), fine.shw, Nat.le_trans fine.dep (by decide), fine.len (by decide), ?_⟩
    refine ⟨_, rfl, rfl, ?_⟩
    rw [decide_eq_true rfl]
    exact q _ k5
theorem ok_law {f : Addr} {fd : FuncData} {Ps : List Addr} (F : Fun K "law" "law" s_law f fd) (M : Free mg) (D_l_deck : Df P w K mg base 1 "_law_deck" ["_law_script"] (spDeck K)) (D_l_ringed : Df P w K mg base 2 "_law_ringed" ["_law_deck_here"] spRingedS) (D_l_begun : Df P w K mg base 2 "_law_begun" ["_law_deck_here", "_law_ring"] spBegun) (D_ring_holds : Df P w K mg base 5 "ring_holds" ["web", "thing"] (spRing Ps))
    (D_l_right : DfG P w K mg base 6 "_law_right" ["_law_web", "_law_thing"] (spRight K Ps)) (D_l_spoilt : Df P w K mg base 4 "_law_spoilt" ["_law_deck_here", "_law_web", "_law_ring"] (spSpoilt K)) : FnG P w K mg base 7 f fd ["_law_script"] (spLaw K Ps) := by
  obtain ⟨f_l_deck, fd_l_deck, G_l_deck, g_l_deck, k_l_deck, b_l_deck⟩ := D_l_deck
  obtain ⟨f_l_ringed, fd_l_ringed, G_l_ringed, g_l_ringed, k_l_ringed, b_l_ringed⟩ := D_l_ringed
  obtain ⟨f_l_begun, fd_l_begun, G_l_begun, g_l_begun, k_l_begun, b_l_begun⟩ := D_l_begun
  obtain ⟨f_ring_holds, fd_ring_holds, G_ring_holds, g_ring_holds, k_ring_holds, b_ring_holds⟩ := D_ring_holds
  obtain ⟨f_l_right, fd_l_right, G_l_right, g_l_right, k_l_right, b_l_right⟩ := D_l_right
  obtain ⟨f_l_spoilt, fd_l_spoilt, G_l_spoilt, g_l_spoilt, k_l_spoilt, b_l_spoilt⟩ := D_l_spoilt
  refine okG F sc_law (fun vs H Q E h => ?_) (fun cdv A outer s H vs Q E hG hr h => ?_)
  · obtain ⟨a, ns, rfl, _⟩ := h
    rfl
  · obtain ⟨sc, ns, rfl, hS, hlen, hT, q⟩ := h
    refine ⟨_, (pss_cons (ps_set (i := 1) sc_law.nd rfl (.inl rfl) (pe_call G_l_deck (hr.mono (by decide)) (by rfl) g_l_deck k_l_deck b_l_deck .nil pass0 (pa_cons (pv 0) pa_nil)))
      (pss_cons (ps_for PassesOwn.never rfl (pi_range1 (by rfl) M.range (pa_cons pe_int pa_nil)) (pg_name (i := 2) sc_law.nd rfl (.inl rfl))
        (pss_cons (ps_asg (pe_call G_l_ringed (hr.mono (by decide)) (by rfl) g_l_ringed k_l_ringed b_l_ringed .nil pass0 (pa_cons (pv 1) pa_nil)) (pg_tup rfl (pgs_cons (pg_name (i := 3) sc_law.nd rfl (.inl rfl)) (pgs_cons (pg_name (i := 4) sc_law.nd rfl (.inl rfl)) pgs_nil))))
        (pss_cons (ps_set (i := 5) sc_law.nd rfl (.inl rfl) (pe_call G_l_begun (hr.mono (by decide)) (by rfl) g_l_begun k_l_begun b_l_begun .nil pass0 (pa_cons (pv 1) (pa_cons (pv 4) pa_nil))))
        (pss_cons (ps_if (PW.pt (pw_or (pt_cmpR op_notBl (pe_call G_ring_holds (hr.mono (by decide)) (by rfl) g_ring_holds k_ring_holds b_ring_holds .nil pass0 (pa_cons (pv 3) (pa_cons (pv 4) pa_nil))) pe_bl (nomark _)) (pw_or1 (pt_not (pt_val (pe_callG G_l_right hG hr (by rfl) g_l_right k_l_right b_l_right (pa_cons (pv 3) (pa_cons (pv 5) pa_nil))))))))
          (pss_one (ps_ret pe_bl))
          pss_nil)
        (pss_one (ps_for PassesOwn.never rfl (pi_range1 (by rfl) M.range (pa_cons pe_int pa_nil)) (pg_name (i := 6) sc_law.nd rfl (.inl rfl))
          (pss_one (ps_if (pt_not (pt_val (pe_callG G_l_right hG hr (by rfl) g_l_right k_l_right b_l_right (pa_cons (pv 3) (pa_cons (pe_call G_l_spoilt (hr.mono (by decide)) (by rfl) g_l_spoilt k_l_spoilt b_l_spoilt .nil pass0 (pa_cons (pv 1) (pa_cons (pv 3) (pa_cons (pv 5) pa_nil)))) pa_nil)))))
            (pss_one (ps_ret pe_bl))
            pss_nil))))))))
      (pss_one (ps_ret pe_bl)))), ?_⟩
    refine ⟨.ref sc, rfl, sc, ns, rfl, hS, hlen, fun d c H1 s1 nd nc D1 => ?_⟩
    have hT1 := hT.same s1
    clear hS hT s1 nd nc
    refine ⟨6, rfl, by decide, by decide, ?_⟩
    refine for_range (lo := 0) (n := 6) (fun i σ' H' => ∃ y2 y3 y4 y5 y6 : Option V, σ' = [some (.ref sc), some (.ref d), y2, y3, y4, y5, y6] ∧ Deck H' d c ∧ Tabs Ps H') ⟨none, none, none, none, none, rfl, D1, hT1⟩ ?_ ?_
    · clear D1 hT1
      rintro i σ' H1 hi ⟨y2, y3, y4, y5, y6, rfl, D1, hT1⟩
      refine ⟨.ref d, rfl, d, c, rfl, D1, fun v H2 hv D2 K2 => ?_⟩
      have hT2 := hT1.kp K2 D1
      obtain ⟨a, wv, rv, n, ts, pn, en, rfl, ha, hW, okw, hP, o1, o2, l2, l40, le, oe, hring⟩ := hv
      have few := okw.few
      have nhi := okw.hi
      have nlo := okw.lo
      have opn : ∀ x ∈ pn, 0 ≤ x ∧ x < n := by
        unfold ringN at hring
        have hr' : (unl n (some (pn.map V.int)) && _) = true := hring
        rw [Bool.and_eq_true] at hr'
        have v2 : (pn.map V.int).all (wbelow n) = true ∧ _ := Bool.and_eq_true_iff.mp hr'.1
        obtain ⟨zs, e, hz⟩ := ints_of v2.1
        have e' : pn = zs := by
          have := congrArg (List.map toI) e
          rw [toI_map, toI_map] at this
          exact this
        rw [e']
        exact hz
      have ro : Rows pn.length n ts.length pn en := ⟨rfl, le, opn, oe⟩
      refine ⟨a, _, rfl, SqT.of ha, rfl, _, _, rfl, _, _, rfl, rfl, ?_⟩
      refine ⟨.ref d, rfl, rv, rfl, d, c, rv, pn.length, n, ts.length, pn, en, rfl, D2, hP, ro, l2, l40, fun bv pm em H3 hB rm D3 K3 => ?_⟩
      have hT3 := hT2.kp K3 D2
      have hW3 := hW.tk (K3.tk D2)
      have hP3 := hP.tk (K3.tk D2)
      refine ⟨wv, rfl, rv, rfl, wv, n, ts, rv, rfl, hW3, okw, hP3.thing o1 o2, hT3, fun H4 k4 => ?_⟩
      rw [hP3.ring, hring]
      refine ⟨true, true, rfl, rfl, _, rfl, ?_⟩
      rw [decide_eq_true rfl]
      have hT4 : Tabs Ps H4 := k4.tab
      have hW4 := hW3.tk (k4.tk hT3)
      have hB4 := hB.tk (k4.tk hT3)
      have D4 := k4.deck hT3 D3
      have r1 := rm.row1 l40 (by omega)
      have r2 := rm.row2 l40 (by omega)
      have tgB : ∀ H', PairAt H' bv pm em → Tg K H' bv := fun H' hb => by
        obtain ⟨ba, pb, tb, rfl, x1, x2, x3⟩ := hb
        exact tg_rows x1 x2 x3 r1 r2 (by decide) (by decide)
      refine ⟨wv, rfl, bv, rfl, wv, bv, n, ts, rfl, hW4, okw, tgB _ hB4, hT4, fun H5 k5 => ⟨_, rfl, ?_⟩⟩
      refine ⟨8, rfl, by decide, by decide, ?_⟩
      refine for_range (lo := 0) (n := 8) (fun j σ' H' => ∃ y6 : Option V, σ' = [some (.ref sc), some (.ref d), some (.int (0 + (i : Nat))), some wv, some rv, some bv, y6] ∧ Deck H' d c ∧ Tabs Ps H' ∧ WebAt H' wv n ts ∧ PairAt H' bv pm em) ⟨y6, rfl, k5.deck hT4 D4, k5.tab, hW4.tk (k5.tk hT4), hB4.tk (k5.tk hT4)⟩ ?_ ?_
      · rintro j σ' H6 hj ⟨y6, rfl, D6, hT6, hW6, hB6⟩
        refine ⟨wv, rfl, .ref d, rfl, wv, rfl, bv, rfl, d, c, wv, bv, pn.length, n, ts, pm, em, rfl, D6, hW6, okw, hB6, rm, l2, l40, fun v H7 D7 K7 hv => ?_⟩
        have hT7 := hT6.kp K7 D6
        have hW7 := hW6.tk (K7.tk D6)
        have hB7 := hB6.tk (K7.tk D6)
        refine ⟨wv, v, n, ts, rfl, hW7, okw, hv, hT7, fun H8 k8 => ⟨_, rfl, ?_⟩⟩
        exact ⟨_, rfl, k8.deck hT7 D7, k8.tab, hW7.tk (k8.tk hT7), hB7.tk (k8.tk hT7)⟩
      · rintro σ' H6 ⟨y6, rfl, D6, hT6, hW6, hB6⟩
        exact ⟨_, _, _, _, _, rfl, D6, hT6⟩
    · rintro σ' H5 ⟨y2, y3, y4, y5, y6, rfl, D5, hT5⟩
      exact q _
end
/-- where a def stands, and where its code object does -/
structure At (K : PySem.W.Frag) (x : Str) (st : Stmt) (f : Addr) : Prop where
  ns : PySem.W.nsIn K mainGlobals x = some (some (.ref f))
  ex : ∃ (oc : Value) (od : Option Addr) (kV doc pm : Value) (an : Option Addr) (cdv ct : Value) (osl : Array (Option Value)),
    K.lookup f = some ⟨oc, od, .func (PySem.W.fnOf x x (defArgs st) (defBody st) (defScope st) .none kV doc pm an cdv ct), osl⟩ ∧ PySem.W.codeIn K cdv x = true
  kp : PySem.W.keepIn K (.ref f) = true
theorem at_mk {K : PySem.W.Frag} {x : Str} {st : Stmt} {f : Addr} {oc : Value} {od an : Option Addr} {osl : Array (Option Value)} {kV doc pm cdv ct : Value} (a : PySem.W.nsIn K mainGlobals x = some (some (.ref f)))
    (l : K.lookup f = some ⟨oc, od, .func (PySem.W.fnOf x x (defArgs st) (defBody st) (defScope st) .none kV doc pm an cdv ct), osl⟩) (c : PySem.W.codeIn K cdv x = true) (k : PySem.W.keepIn K (.ref f) = true) : At K x st f := ⟨a, ⟨oc, od, kV, doc, pm, an, cdv, ct, osl, l, c⟩, k⟩
theorem At.fn {K : PySem.W.Frag} {x : Str} {st : Stmt} {f : Addr} (h : At K x st f) : ∃ fd, Fun K x x st f fd := by
  obtain ⟨oc, od, kV, doc, pm, an, cdv, ct, osl, l, c⟩ := h.ex
  exact ⟨_, fun_mk l c h.kp⟩
structure AtC (K : PySem.W.Frag) (x : Str) (st : Stmt) (f c Pt : Addr) : Prop where
  ns : PySem.W.nsIn K mainGlobals x = some (some (.ref f))
  ex : ∃ (oc : Value) (od : Option Addr) (kV doc pm : Value) (an : Option Addr) (ct : Value) (osl : Array (Option Value)),
    K.lookup f = some ⟨oc, od, .func (PySem.W.fnOf x x (defArgs st) (defBody st) (defScope st) .none kV doc pm an (.ref c) ct), osl⟩ ∧ PySem.W.codeIn K (.ref c) x = true
  kp : PySem.W.keepIn K (.ref f) = true
  co : ∃ (dd : Option Addr) (vs : Array Value) (sl : Array (Option Value)) (file : Str) (tf : Tok) (flags : Int) (tg : Tok) (inF : Bool) (text : Int) (tt : Tok), K.lookup c = some ⟨.type "code", dd, .fields vs, sl⟩ ∧ vs[11]? = some (.ref Pt) ∧ vs.getD 11 .none = .ref Pt ∧ vs.getD 18 .none = .str file tf ∧
    vs.getD 7 .none = .int flags tg ∧ vs.getD 9 .none = .bool inF ∧ vs.getD 10 .none = .int text tt ∧ c ≠ Pt
  nP : K.lookup Pt = none
theorem atC_mk {K : PySem.W.Frag} {x : Str} {st : Stmt} {f c Pt : Addr} {oc : Value} {od an dd : Option Addr} {osl sl : Array (Option Value)} {kV doc pm ct : Value} {vs : Array Value} {file : Str} {tf tg tt : Tok} {flags text : Int} {inF : Bool} (a : PySem.W.nsIn K mainGlobals x = some (some (.ref f)))
    (l : K.lookup f = some ⟨oc, od, .func (PySem.W.fnOf x x (defArgs st) (defBody st) (defScope st) .none kV doc pm an (.ref c) ct), osl⟩) (cc : PySem.W.codeIn K (.ref c) x = true) (k : PySem.W.keepIn K (.ref f) = true)
    (lc : K.lookup c = some ⟨.type "code", dd, .fields vs, sl⟩) (v11 : vs[11]? = some (.ref Pt)) (w11 : vs.getD 11 .none = .ref Pt) (v18 : vs.getD 18 .none = .str file tf) (v7 : vs.getD 7 .none = .int flags tg) (v9 : vs.getD 9 .none = .bool inF) (v10 : vs.getD 10 .none = .int text tt) (ne : c ≠ Pt)
    (nP : K.lookup Pt = none) : AtC K x st f c Pt := ⟨a, ⟨oc, od, kV, doc, pm, an, ct, osl, l, cc⟩, k, ⟨dd, vs, sl, file, tf, flags, tg, inF, text, tt, lc, v11, w11, v18, v7, v9, v10, ne⟩, nP⟩
theorem AtC.fn {K : PySem.W.Frag} {x : Str} {st : Stmt} {f c Pt : Addr} (h : AtC K x st f c Pt) : ∃ fd, FunC K x x st f fd c := by
  obtain ⟨oc, od, kV, doc, pm, an, ct, osl, l, cc⟩ := h.ex
  exact ⟨_, ⟨oc, od, kV, doc, pm, an, ct, osl, rfl, l, cc⟩, h.kp⟩
theorem AtC.hd {K : PySem.W.Frag} {h : Heap} {x : Str} {st : Stmt} {f c Pt : Addr} (a : AtC K x st f c Pt) (X : K.In h) : PySem.W.CodeHd h c Pt := by
  obtain ⟨dd, vs, sl, file, tf, flags, tg, inF, text, tt, lc, v11, w11, v18, v7, v9, v10, ne⟩ := a.co
  exact ⟨_, vs, file, tf, flags, tg, inF, text, tt, X _ _ lc, rfl, rfl, v11, w11, v18, v7, v9, v10, ne⟩
theorem AtC.tab {K : PySem.W.Frag} {h : Heap} {x : Str} {st : Stmt} {f c Pt : Addr} (a : AtC K x st f c Pt) (o : LamX.OwnTab K f h) : h.get? Pt = some { cls := .none, data := .fields #[] } := by
  obtain ⟨oc, od, kV, doc, pm, an, ct, osl, l, cc⟩ := a.ex
  obtain ⟨dd, vs, sl, file, tf, flags, tg, inF, text, tt, lc, v11, w11, v18, v7, v9, v10, ne⟩ := a.co
  exact o c Pt _ _ _ _ _ _ l rfl rfl lc v11
section
variable {P : Program} {w : World} {K : PySem.W.Frag} {mg : Str → Option Value} {base : Heap}
theorem Df.of {x : Str} {st : Stmt} {f : Addr} {fd : FuncData} {k : Nat} {ps : List Str} {sp : Sp} (g : mg x = some (.ref f)) (F : Fun K x x st f fd) (G : FnOk P w K mg base CX0 k f fd ps sp)
    (h : ∀ (kV doc pm : Value) (an : Option Addr) (cdv ct : Value) (us : List Value), us.length = ps.length → bindArgs (PySem.W.fnOf x x (defArgs st) (defBody st) (defScope st) .none kV doc pm an cdv ct) ⟨us, []⟩ = pure (ps.zip us)) : Df P w K mg base k x ps sp :=
  ⟨f, fd, G, g, F.kp, F.binds h⟩
end
/-! ### what the top has written -/
section
variable {P : Program} {w : World} {K : PySem.W.Frag} {mg : Str → Option Value} {base : Heap}
theorem law_at {l : PySem.W.OpenLaw} {w : World} {K : PySem.W.Frag} {h : Heap} {mg : Str → Option Value} {fa f0 f1 f2 f3 f4 f5 f6 f7 f8 f9 f10 f11 f12 f13 f14 f15 f16 f17 c3 P3 c5 P5 : Addr} (X : K.In h) (G : h.Ns mainGlobals mg) (hfa : mg "law" = some (.ref fa))
    (t3 : ∀ (fy : Addr), mg "are_unlike_below" = some (.ref fy) → LamX.OwnTab K fy h)
    (t5 : ∀ (fy : Addr), mg "ring_holds" = some (.ref fy) → LamX.OwnTab K fy h)
    (a0 : At K "is_whole" s_is_whole f0)
    (a1 : At K "is_whole_below" s_is_whole_below f1)
    (a2 : At K "is_tuple_of" s_is_tuple_of f2)
    (a3 : AtC K "are_unlike_below" s_are_unlike_below f3 c3 P3)
    (a4 : At K "joins" s_joins f4)
    (a5 : AtC K "ring_holds" s_ring_holds f5 c5 P5)
    (a6 : At K "_law_deck" s_l_deck f6)
    (a7 : At K "_law_draw" s_l_draw f7)
    (a8 : At K "_law_ringed" s_l_ringed f8)
    (a9 : At K "_law_odd" s_l_odd f9)
    (a10 : At K "_law_same" s_l_same f10)
    (a11 : At K "_law_numbers" s_l_numbers f11)
    (a12 : At K "_law_is_ring" s_l_is_ring f12)
    (a13 : At K "_law_begun" s_l_begun f13)
    (a14 : At K "_law_row_spoilt" s_l_row_spoilt f14)
    (a15 : At K "_law_spoilt" s_l_spoilt f15)
    (a16 : At K "_law_right" s_l_right f16)
    (a17 : At K "law" s_law f17)
    (z0 : PySem.W.nsIn K mainGlobals "len" = some none)
    (z1 : PySem.W.nsIn K mainGlobals "int" = some none)
    (z2 : PySem.W.nsIn K mainGlobals "bool" = some none)
    (z3 : PySem.W.nsIn K mainGlobals "str" = some none)
    (z4 : PySem.W.nsIn K mainGlobals "list" = some none)
    (z5 : PySem.W.nsIn K mainGlobals "tuple" = some none)
    (z6 : PySem.W.nsIn K mainGlobals "range" = some none)
    (z7 : PySem.W.nsIn K mainGlobals "isinstance" = some none)
    (z8 : PySem.W.nsIn K mainGlobals "sum" = some none)
    (z9 : PySem.W.nsIn K mainGlobals "all" = some none)
    (z10 : PySem.W.nsIn K mainGlobals "set" = some none)
    (z11 : PySem.W.nsIn K mainGlobals "zip" = some none)
    (z12 : PySem.W.nsIn K mainGlobals "min" = some none)
    (z13 : PySem.W.nsIn K mainGlobals "sorted" = some none)
    (z14 : PySem.W.nsIn K mainGlobals "repr" = some none) :
    GoesT l.prog w K mg 7 fa "_law_script" 63 h := by
  have efa := hfa.symm.trans (PySem.W.mg_of X G a17.ns)
  cases efa
  have M : Free mg := ⟨PySem.W.mg_none_of X G z0, PySem.W.mg_none_of X G z1, PySem.W.mg_none_of X G z2, PySem.W.mg_none_of X G z3, PySem.W.mg_none_of X G z4, PySem.W.mg_none_of X G z5, PySem.W.mg_none_of X G z6, PySem.W.mg_none_of X G z7, PySem.W.mg_none_of X G z8⟩
  have m_all := PySem.W.mg_none_of X G z9
  have m_set := PySem.W.mg_none_of X G z10
  have m_zip := PySem.W.mg_none_of X G z11
  have m_min := PySem.W.mg_none_of X G z12
  have m_sorted := PySem.W.mg_none_of X G z13
  have m_repr := PySem.W.mg_none_of X G z14
  obtain ⟨d0, F0⟩ := a0.fn
  obtain ⟨d1, F1⟩ := a1.fn
  obtain ⟨d2, F2⟩ := a2.fn
  obtain ⟨d3, F3⟩ := a3.fn
  obtain ⟨d4, F4⟩ := a4.fn
  obtain ⟨d5, F5⟩ := a5.fn
  obtain ⟨d6, F6⟩ := a6.fn
  obtain ⟨d7, F7⟩ := a7.fn
  obtain ⟨d8, F8⟩ := a8.fn
  obtain ⟨d9, F9⟩ := a9.fn
  obtain ⟨d10, F10⟩ := a10.fn
  obtain ⟨d11, F11⟩ := a11.fn
  obtain ⟨d12, F12⟩ := a12.fn
  obtain ⟨d13, F13⟩ := a13.fn
  obtain ⟨d14, F14⟩ := a14.fn
  obtain ⟨d15, F15⟩ := a15.fn
  obtain ⟨d16, F16⟩ := a16.fn
  obtain ⟨d17, F17⟩ := a17.fn
  have g0 := PySem.W.mg_of X G a0.ns
  have g1 := PySem.W.mg_of X G a1.ns
  have g2 := PySem.W.mg_of X G a2.ns
  have g3 := PySem.W.mg_of X G a3.ns
  have g4 := PySem.W.mg_of X G a4.ns
  have g5 := PySem.W.mg_of X G a5.ns
  have g6 := PySem.W.mg_of X G a6.ns
  have g7 := PySem.W.mg_of X G a7.ns
  have g8 := PySem.W.mg_of X G a8.ns
  have g9 := PySem.W.mg_of X G a9.ns
  have g10 := PySem.W.mg_of X G a10.ns
  have g11 := PySem.W.mg_of X G a11.ns
  have g12 := PySem.W.mg_of X G a12.ns
  have g13 := PySem.W.mg_of X G a13.ns
  have g14 := PySem.W.mg_of X G a14.ns
  have g15 := PySem.W.mg_of X G a15.ns
  have g16 := PySem.W.mg_of X G a16.ns
  have hb0 : ∀ (s : Shared) (u : Value), BindsTo s d17 ⟨[u], []⟩ [("_law_script", u)] := by
    obtain ⟨oc, od, kV, doc, pm, an, cdv, ct, osl, rfl, _⟩ := F17.ex
    exact fun s u => .of_eq rfl
  refine ⟨d17, [(c3, P3), (c5, P5)], (spLaw K [P3, P5]), (List.forall_mem_cons.mpr ⟨a3.tab (t3 _ g3), (List.forall_mem_cons.mpr ⟨a5.tab (t5 _ g5), (fun p hp => by simp at hp)⟩)⟩), (List.forall_mem_cons.mpr ⟨a3.nP, (List.forall_mem_cons.mpr ⟨a5.nP, (fun p hp => by simp at hp)⟩)⟩), (List.forall_mem_cons.mpr ⟨a3.hd X, (List.forall_mem_cons.mpr ⟨a5.hd X, (fun p hp => by simp at hp)⟩)⟩), hb0, fun H a ns hl hT hS => ⟨a, ns, rfl, hS, hl, (List.forall_mem_cons.mpr ⟨⟨#[], hT (c3, P3) (by simp), by trivial⟩, (List.forall_mem_cons.mpr ⟨⟨#[], hT (c5, P5) (by simp), by trivial⟩, (fun p hp => by simp at hp)⟩)⟩), fun _ => rfl⟩, fun base KB GB TB => ?_⟩
  have tb3 := TB (c3, P3) (by simp)
  have tb5 := TB (c5, P5) (by simp)
  have D0 : Df l.prog w K mg base 1 "is_whole" ["thing"] spWhole := .of g0 F0 (ok_is_whole F0 M) fun _ _ _ _ _ _ us hl => match us, hl with | [_], _ => rfl
  have D1 : Df l.prog w K mg base 2 "is_whole_below" ["limit", "thing"] spBelow := .of g1 F1 (ok_is_whole_below F1 D0) fun _ _ _ _ _ _ us hl => match us, hl with | [_, _], _ => rfl
  have D2 : Df l.prog w K mg base 1 "is_tuple_of" ["length", "thing"] spTupleOf := .of g2 F2 (ok_is_tuple_of F2 M) fun _ _ _ _ _ _ us hl => match us, hl with | [_, _], _ => rfl
  have D3 : Df l.prog w K mg base 4 "are_unlike_below" ["limit", "thing"] (spUnlike [P3, P5]) := .of g3 F3.fn (ok_are_unlike F3 ⟨tb3.code, tb3.bm, tb3.gP⟩ (show P3 ∈ [P3, P5] by simp) M m_all m_set D1) fun _ _ _ _ _ _ us hl => match us, hl with | [_, _], _ => rfl
  have D4 : Df l.prog w K mg base 1 "joins" ["tie", "one", "other"] spJoins := .of g4 F4 (ok_joins F4) fun _ _ _ _ _ _ us hl => match us, hl with | [_, _, _], _ => rfl
  have D5 : Df l.prog w K mg base 5 "ring_holds" ["web", "thing"] (spRing [P3, P5]) := .of g5 F5.fn (ok_ring_holds F5 ⟨tb5.code, tb5.bm, tb5.gP⟩ (show P5 ∈ [P3, P5] by simp) M m_all m_zip D2 D3 D4) fun _ _ _ _ _ _ us hl => match us, hl with | [_, _], _ => rfl
  have D6 : Df l.prog w K mg base 1 "_law_deck" ["_law_script"] (spDeck K) := .of g6 F6 (ok_l_deck F6 M) fun _ _ _ _ _ _ us hl => match us, hl with | [_], _ => rfl
  have D7 : Df l.prog w K mg base 1 "_law_draw" ["_law_deck_here", "_law_most"] spDraw := .of g7 F7 (ok_l_draw F7) fun _ _ _ _ _ _ us hl => match us, hl with | [_, _], _ => rfl
  have D8 : Df l.prog w K mg base 2 "_law_ringed" ["_law_deck_here"] spRingedS := .of g8 F8 (ok_l_ringed F8 M m_min D7) fun _ _ _ _ _ _ us hl => match us, hl with | [_], _ => rfl
  have D9 : Df l.prog w K mg base 2 "_law_odd" ["_law_deck_here"] (spOddT K) := .of g9 F9 (ok_l_odd F9 D7) fun _ _ _ _ _ _ us hl => match us, hl with | [_], _ => rfl
  have D10 : Df l.prog w K mg base 1 "_law_same" ["_law_found", "_law_due"] spSame := .of g10 F10 (ok_l_same F10 M) fun _ _ _ _ _ _ us hl => match us, hl with | [_, _], _ => rfl
  have D11 : Df l.prog w K mg base 1 "_law_numbers" ["_law_thing", "_law_many"] spNumbers := .of g11 F11 (ok_l_numbers F11 M) fun _ _ _ _ _ _ us hl => match us, hl with | [_, _], _ => rfl
  have D12 : Df l.prog w K mg base 2 "_law_is_ring" ["_law_web", "_law_thing"] spIsRing := .of g12 F12 (ok_l_is_ring F12 M m_sorted D11) fun _ _ _ _ _ _ us hl => match us, hl with | [_, _], _ => rfl
  have D13 : Df l.prog w K mg base 2 "_law_begun" ["_law_deck_here", "_law_ring"] spBegun := .of g13 F13 (ok_l_begun F13 M D7) fun _ _ _ _ _ _ us hl => match us, hl with | [_, _], _ => rfl
  have D14 : Df l.prog w K mg base 3 "_law_row_spoilt" ["_law_deck_here", "_law_row", "_law_many"] (spRowSp K) := .of g14 F14 (ok_l_row_spoilt F14 M D7 D9) fun _ _ _ _ _ _ us hl => match us, hl with | [_, _, _], _ => rfl
  have D15 : Df l.prog w K mg base 4 "_law_spoilt" ["_law_deck_here", "_law_web", "_law_ring"] (spSpoilt K) := .of g15 F15 (ok_l_spoilt F15 M m_sorted D7 D14 D9) fun _ _ _ _ _ _ us hl => match us, hl with | [_, _, _], _ => rfl
  have D16 : DfG l.prog w K mg base 6 "_law_right" ["_law_web", "_law_thing"] (spRight K [P3, P5]) := .of g16 F16 (ok_l_right F16 m_repr D12 D10 D5) fun _ _ _ _ _ _ us hl => match us, hl with | [_, _], _ => rfl
  exact ok_law F17 M D6 D8 D13 D5 D16 D15
end
end FF
open PySem PySem.W PyProof.Rows
set_option maxRecDepth 100000 in
set_option maxHeartbeats 0 in
theorem PySem.Challenge.cw_friendfoe_k11_what_is_a_ring_holds : PySem.Challenge.rw_friendfoe_k11_what_is_a_ring.Holds := by
  w_on; o_law; k_head; (case hw => w_witness2)
  k_fill
  refine FF.walk_gt (l := PySem.Challenge.rw_friendfoe_k11_what_is_a_ring) (n := 63) (k := 7) (x := "_law_script") rfl (by decide) rfl ⟨rfl, by decide, by decide⟩ (fun w h Y => PySem.W.kIn_of Y) ?F
  case F =>
    intro w mg fa h KX G hmg tabs
    refine' FF.law_at KX G hmg (fun fy => tabs "are_unlike_below" fy ?r3) (fun fy => tabs "ring_holds" fy ?r5) ?a0 ?a1 ?a2 ?a3 ?a4 ?a5 ?a6 ?a7 ?a8 ?a9 ?a10 ?a11 ?a12 ?a13 ?a14 ?a15 ?a16 ?a17 ?z0 ?z1 ?z2 ?z3 ?z4 ?z5 ?z6 ?z7 ?z8 ?z9 ?z10 ?z11 ?z12 ?z13 ?z14
    (case r3 => rfl)
    (case r5 => rfl)
    (case a0 => refine' FF.at_mk ?p1 ?p2 ?p3 ?p4; (case p1 => k_is); (case p2 => k_is); (case p3 => k_is); (case p4 => k_is))
    (case a1 => refine' FF.at_mk ?p1 ?p2 ?p3 ?p4; (case p1 => k_is); (case p2 => k_is); (case p3 => k_is); (case p4 => k_is))
    (case a2 => refine' FF.at_mk ?p1 ?p2 ?p3 ?p4; (case p1 => k_is); (case p2 => k_is); (case p3 => k_is); (case p4 => k_is))
    (case a3 => refine' FF.atC_mk ?p1 ?p2 ?p3 ?p4 ?p5 ?p6 ?p7 ?p8 ?p9 ?p10 ?p11 ?p12 ?p13; (case p1 => k_is); (case p2 => k_is); (case p3 => k_is); (case p4 => k_is); (case p5 => k_is); (case p6 => rfl); (case p7 => rfl); (case p8 => rfl); (case p9 => rfl); (case p10 => rfl); (case p11 => rfl); (case p12 => decide); (case p13 => rfl))
    (case a4 => refine' FF.at_mk ?p1 ?p2 ?p3 ?p4; (case p1 => k_is); (case p2 => k_is); (case p3 => k_is); (case p4 => k_is))
    (case a5 => refine' FF.atC_mk ?p1 ?p2 ?p3 ?p4 ?p5 ?p6 ?p7 ?p8 ?p9 ?p10 ?p11 ?p12 ?p13; (case p1 => k_is); (case p2 => k_is); (case p3 => k_is); (case p4 => k_is); (case p5 => k_is); (case p6 => rfl); (case p7 => rfl); (case p8 => rfl); (case p9 => rfl); (case p10 => rfl); (case p11 => rfl); (case p12 => decide); (case p13 => rfl))
    (case a6 => refine' FF.at_mk ?p1 ?p2 ?p3 ?p4; (case p1 => k_is); (case p2 => k_is); (case p3 => k_is); (case p4 => k_is))
    (case a7 => refine' FF.at_mk ?p1 ?p2 ?p3 ?p4; (case p1 => k_is); (case p2 => k_is); (case p3 => k_is); (case p4 => k_is))
    (case a8 => refine' FF.at_mk ?p1 ?p2 ?p3 ?p4; (case p1 => k_is); (case p2 => k_is); (case p3 => k_is); (case p4 => k_is))
    (case a9 => refine' FF.at_mk ?p1 ?p2 ?p3 ?p4; (case p1 => k_is); (case p2 => k_is); (case p3 => k_is); (case p4 => k_is))
    (case a10 => refine' FF.at_mk ?p1 ?p2 ?p3 ?p4; (case p1 => k_is); (case p2 => k_is); (case p3 => k_is); (case p4 => k_is))
    (case a11 => refine' FF.at_mk ?p1 ?p2 ?p3 ?p4; (case p1 => k_is); (case p2 => k_is); (case p3 => k_is); (case p4 => k_is))
    (case a12 => refine' FF.at_mk ?p1 ?p2 ?p3 ?p4; (case p1 => k_is); (case p2 => k_is); (case p3 => k_is); (case p4 => k_is))
    (case a13 => refine' FF.at_mk ?p1 ?p2 ?p3 ?p4; (case p1 => k_is); (case p2 => k_is); (case p3 => k_is); (case p4 => k_is))
    (case a14 => refine' FF.at_mk ?p1 ?p2 ?p3 ?p4; (case p1 => k_is); (case p2 => k_is); (case p3 => k_is); (case p4 => k_is))
    (case a15 => refine' FF.at_mk ?p1 ?p2 ?p3 ?p4; (case p1 => k_is); (case p2 => k_is); (case p3 => k_is); (case p4 => k_is))
    (case a16 => refine' FF.at_mk ?p1 ?p2 ?p3 ?p4; (case p1 => k_is); (case p2 => k_is); (case p3 => k_is); (case p4 => k_is))
    (case a17 => refine' FF.at_mk ?p1 ?p2 ?p3 ?p4; (case p1 => k_is); (case p2 => k_is); (case p3 => k_is); (case p4 => k_is))
    (case z0 => k_is)
    (case z1 => k_is)
    (case z2 => k_is)
    (case z3 => k_is)
    (case z4 => k_is)
    (case z5 => k_is)
    (case z6 => k_is)
    (case z7 => k_is)
    (case z8 => k_is)
    (case z9 => k_is)
    (case z10 => k_is)
    (case z11 => k_is)
    (case z12 => k_is)
    (case z13 => k_is)
    (case z14 => k_is)
