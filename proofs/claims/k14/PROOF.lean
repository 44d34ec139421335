import PyProof.Rows.All
import Wide.All
import OpenK.AllK
import Wide.FinOn
import HandS.ForMost
import HandS.IsInst
import HandS.TupAny
import HandS.TupLe
import HandS.Wide
import HandS.Style
import HandS.SortInts
import HandS.Conv
import HandS.More
import HandS.EndTab
import HandS.EndOwn
import HandS.AnyAll
import HandS.GenOver
import HandS.Evl
import HandS.Walk
import HandS.NoneIn
import HandS.SetFor
import KE.GoesEnum
import PySem.Challenge.RW_friendfoe_k14_whole_sides_or_odd_rings
set_option Elab.async false
set_option linter.all false
set_option maxRecDepth 100000
namespace FF
open PySem PySem.Spec PyProof.Rows L2
/-! ### heaps: what is kept -/
/-- all that is tracked, but at d and c, is as it was -/
def Kp (d c : Addr) (H H' : Hp) : Prop := ∀ b o, b ≠ d → b ≠ c → H b = some o → H' b = some o
theorem Kp.refl {d c : Addr} {H : Hp} : Kp d c H H := fun _ _ _ _ h => h
theorem Kp.trans {d c : Addr} {H H1 H2 : Hp} (a : Kp d c H H1) (b : Kp d c H1 H2) : Kp d c H H2 := fun x o h1 h2 h => b x o h1 h2 (a x o h1 h2 h)
theorem Kp.at_d {d c : Addr} {H : Hp} {o : HO} : Kp d c H (upd H d o) := fun b u h1 _ h => by rw [upd_ne h1]; exact h
theorem Kp.at_c {d c : Addr} {H : Hp} {o : HO} : Kp d c H (upd H c o) := fun b u _ h2 h => by rw [upd_ne h2]; exact h
theorem Kp.new {d c p : Addr} {H : Hp} {o : HO} (hp : H p = none) : Kp d c H (upd H p o) := fun b u _ _ h => by rw [upd_ne (ne_of_none h hp)]; exact h
theorem same_new {H : Hp} {p : Addr} {o : HO} (h : H p = none) : Same H (upd H p o) := fun b x e => by
  rw [upd_ne (ne_of_none e h)]
  exact e
theorem Same.kp {d c : Addr} {H H' : Hp} (s : Same H H') : Kp d c H H' := fun b o _ _ h => s b o h
/-! ### defs as they are called -/
def Df (P : Program) (w : World) (K : PySem.W.Frag) (mg : Str → Option Value) (base : Heap) (k : Nat) (x : Str) (ps : List Str) (sp : Sp) : Prop :=
  ∃ (f : Addr) (fd : FuncData), FnOk P w K mg base CX0 k f fd ps sp ∧ mg x = some (.ref f) ∧ PySem.W.keepIn K (.ref f) = true ∧ Binds K fd ps []
/-- built-in names that the module has not taken -/
structure Free (mg : Str → Option Value) : Prop where
  len : mg "len" = none
  int : mg "int" = none
  bool : mg "bool" = none
  str : mg "str" = none
  list : mg "list" = none
  tuple : mg "tuple" = none
  range : mg "range" = none
  isinstance : mg "isinstance" = none
  sum : mg "sum" = none
/-! ### the deck -/
structure Deck (H : Hp) (d c : Addr) : Prop where
  ex : ∃ (cells : List Int) (st n : Int), H d = some (.lst [.ref c, .int st]) ∧ H c = some (.lst (cells.map V.int)) ∧ cells.length ≤ 63
theorem Deck.ne {H : Hp} {d c : Addr} (h : Deck H d c) : d ≠ c := by
  obtain ⟨cells, st, n, h1, h2, _⟩ := h
  intro e
  rw [e, h2] at h1
  have q := HO.lst.inj (Option.some.inj h1)
  cases cells with
  | nil => simp at q
  | cons x r => simp at q
theorem Deck.same {H H' : Hp} {d c : Addr} (h : Deck H d c) (s : Same H H') : Deck H' d c := by
  obtain ⟨cells, st, n, h1, h2, h3⟩ := h
  exact ⟨cells, st, n, s _ _ h1, s _ _ h2, h3⟩
theorem mod_rng {a m : Int} (h : 0 < m) : 0 ≤ a % m ∧ a % m < m := ⟨Int.emod_nonneg a (by omega), Int.emod_lt_of_pos a h⟩
/-- a draw below m: any number from 0 on, less than m -/
def spDraw : Sp := fun vs H Q _ => ∃ (d c : Addr) (m : Int), vs = [.ref d, .int m] ∧ Deck H d c ∧ 0 < m ∧ m.natAbs < 2 ^ 120 ∧
  ∀ v H', 0 ≤ v → v < m → Deck H' d c → Kp d c H H' → Q (.int v) H'
/-! ### a generator expression's own frame -/
/-- the context of a generator's turns: its frame cenv stands over the def's -/
abbrev gX (X : Cx) (s : Shared) (H : Hp) (A' : Around) (cenv : Env) (fp : List Addr) : Cx :=
  { X with A := A', s_0 := s, H_0 := H, env := cenv, outer := X.stack, stack := cenv :: X.stack, ex := fp, fn := fun _ => false, pn := [], xe := fun _ _ => False }
/-- what is asked of the expression's own scope -/
structure GnOk (scope : Scope) : Prop where
  co : scope.isCoroutine = false
  nocell : ∀ y ∈ scope.names, y.2 ≠ .cell
  dot : scope.names.lookup (".0" : Str) = some NameKind.local
section
variable {X : Cx} {pins : List (Addr × Obj)} {σ : L2.St} {H : Hp} {s : Shared}
theorem gen_start {scope : Scope} {own : List (Str × Nat)} {fp : List Addr} {A' : Around} {code : Value} {m0 : Str → Option Value} {h5 : Heap} {g5 : Array GenState} {t5 : Nat} {a : Addr} {go : Obj}
    (I : Inv X pins σ H s) (ok : BlkOk X.N X.env.scope scope own) (gk : GnOk scope) (hN : X.N.Nodup) (hfp : ∀ b ∈ fp, FpOk X pins H b ∧ b < s.heap.objs.size)
    (hA : A'.handled = none) (hF : A'.frames = some (genEnv scope (cloFrom X.env.cells scope.names []) s.heap.objs.size code builtinsNs X.env :: X.stack))
    (kp : ∀ b o, s.heap.get? b = some o → h5.get? b = some o) (hn : h5.Ns s.heap.objs.size m0) (hm0 : ∀ x, x ≠ (".0" : Str) → m0 x = none) (hdN : (".0" : Str) ∉ X.N) (hb5 : AllBare g5)
    (ha : s.heap.objs.size < a) (hgo : h5.get? a = some go) (hgd : ∀ v, go.data ≠ .cell v) :
    Inv (gX X s H A' (genEnv scope (cloFrom X.env.cells scope.names []) s.heap.objs.size code builtinsNs X.env) fp) [(a, go)] (wipe σ (own.map (·.2))) H { s with heap := h5, gens := g5, toks := t5 } := by
  have hfree : ∀ y ∈ scope.names, y.2 = .free → ∃ c, X.env.cells.lookup y.1 = some c := fun y hy e =>
    (ok.free y hy e).elim (fun k => I.ok.has _ (.inl k)) fun k => I.ok.has _ (.inr k)
  have cm : ∀ {y c}, (y, c) ∈ cloFrom X.env.cells scope.names [] → X.env.cells.lookup y = some c ∧ c < s.heap.objs.size := fun {y c} q => by
    rcases cloFrom_mem q with q | ⟨h1, e1⟩
    · cases q
    · obtain ⟨c1, hc1⟩ := hfree _ h1 rfl
      rw [hc1] at e1
      cases e1
      obtain ⟨w1, z1⟩ := I.cell _ _ hc1
      exact ⟨hc1, z1.lt⟩
  have cl : ∀ {y c}, (cloFrom X.env.cells scope.names []).lookup y = some c → X.env.cells.lookup y = some c ∧ c < s.heap.objs.size := fun {y c} e => cm (PySem.mem_of_lookup e)
  have look : ∀ {y}, scope.names.lookup y = some .free → ∃ c, (cloFrom X.env.cells scope.names []).lookup y = some c := fun {y} e =>
    mem_lookup (cloFrom_has (cells := X.env.cells) (acc := []) (PySem.mem_of_lookup e))
  generalize hce : genEnv scope (cloFrom X.env.cells scope.names []) s.heap.objs.size code builtinsNs X.env = ce at hF
  have cL : ce.locals = s.heap.objs.size := by rw [← hce]; rfl
  have cC : ce.cells = cloFrom X.env.cells scope.names [] := by rw [← hce]; rfl
  have cS : ce.scope = scope := by rw [← hce]; rfl
  have cF : ce.frame = some ce.locals := by rw [← hce]; rfl
  have okG : (gX X s H A' ce fp).Ok := by
    refine ⟨I.ok.mod, ?_, ?_, ?_, ?_, fun y z c e1 e2 => ?_, fun y hy => ?_, fun y c z e => ?_, fun _ => hA, hF, .inr ⟨rfl, cF⟩, fun b hb => ⟨?_, fun y c e z => ?_⟩, I.bs, Nat.le_trans I.ok.bsz I.sz, fun b o e hb => ?_, fun b hb z => ?_, I.stack, I.stkFree⟩
    · show ce.scope.kind = _
      rw [cS]
      exact ok.kind
    · show ce.globals = _
      rw [← hce]
      exact I.ok.glob
    · show ce.builtins = _
      rw [← hce]
      rfl
    · show s.heap.objs.size ≤ ce.locals
      rw [cL]
      exact Nat.le_refl _
    · have e1 : ce.cells.lookup y = some c := e1
      have e2 : ce.cells.lookup z = some c := e2
      rw [cC] at e1 e2
      exact I.ok.inj y z c (cl e1).1 (cl e2).1
    · show ∃ c, ce.cells.lookup y = some c
      rw [cC]
      have hy : scope.names.lookup y = some .cell ∨ scope.names.lookup y = some .free := by
        have hy' : ce.scope.names.lookup y = some .cell ∨ ce.scope.names.lookup y = some .free := hy
        rw [cS] at hy'
        exact hy'
      rcases hy with k | k
      · exact absurd rfl (gk.nocell _ (PySem.mem_of_lookup k))
      · exact look k
    · exact absurd (show false = true from z) Bool.false_ne_true
    · show b ≠ ce.locals
      rw [cL]
      exact Nat.ne_of_lt (hfp b hb).2
    · have e : ce.cells.lookup y = some c := e
      rw [cC] at e
      exact (hfp b hb).1.2.2.2.2.1 y c (cl e).1 z
    · rcases (hfp b hb).1.2.2.2.1 with q | q
      · exact I.ok.noex b o e q
      · exact absurd (Nat.lt_of_lt_of_le (Heap.lt_size e) (Nat.le_trans I.ok.bsz q)) (Nat.lt_irrefl _)
    · rcases List.mem_cons.mp (I.stkSub b z) with q | q
      · exact (hfp b hb).1.2.1 q
      · exact (hfp b hb).1.2.2.1 q
  refine ⟨okG, rfl, hb5, Un.kept kp, ⟨m0, ?_, fun i y av e1 e2 e3 => ?_⟩, fun y c e => ?_, ?_, fun y c e => ?_, fun p hp => ?_, I.hok.kept kp, by rw [wipe_length]; exact I.len⟩
  · show Heap.Ns _ ce.locals _
    rw [cL]
    exact hn
  · obtain ⟨e2, hne⟩ := wipe_some e2
    have e3 : Vis ce.scope y := e3
    rw [cS] at e3
    have hfr : scope.names.lookup y = some .free := by
      have no : ∀ k, scope.names.lookup y = some k → ¬ (k = .local ∨ k = .cell) := fun k hk hh => by
        rcases ok.own _ (PySem.mem_of_lookup hk) hh with q | q
        · obtain ⟨p, hp, hpy⟩ := List.mem_map.mp q
          have e4 := ok.ix p hp
          have hpy : p.1 = y := hpy
          rw [hpy] at e4
          exact hne (List.mem_map.mpr ⟨p, hp, nodup_ix hN e4 e1⟩)
        · exact q (List.mem_of_getElem? e1)
      rcases e3 with e3 | e3 | e3
      · exact absurd (.inl rfl) (no _ e3)
      · exact absurd (.inr rfl) (no _ e3)
      · exact e3
    obtain ⟨m, _, hl⟩ := I.loc
    have hvis : Vis X.env.scope y := (ok.free _ (PySem.mem_of_lookup hfr) rfl).elim (fun k => .inr (.inl k)) fun k => .inr (.inr k)
    obtain ⟨w1, r1, q1⟩ := hl i y av e1 e2 hvis
    obtain ⟨c, hc⟩ := look hfr
    refine ⟨w1, r1, .inr ⟨.inr (by show ce.scope.names.lookup y = _; rw [cS]; exact hfr), c, by show ce.cells.lookup y = _; rw [cC]; exact hc, ?_⟩⟩
    rcases q1 with ⟨k, _⟩ | ⟨_, c', e', z⟩
    · have k : X.env.scope.names.lookup y = some .local := k
      rcases ok.free _ (PySem.mem_of_lookup hfr) rfl with k' | k' <;> (have k' : X.env.scope.names.lookup y = _ := k'; rw [k'] at k; cases k)
    · rw [(cl hc).1] at e'
      cases e'
      exact z.keeps kp
  · have e : ce.cells.lookup y = some c := e
    rw [cC] at e
    obtain ⟨w1, z1⟩ := I.cell y c (cl e).1
    exact ⟨w1, z1.keeps kp⟩
  · show H ce.locals = none
    rw [cL]
    exact I.hok.fresh (Nat.le_refl _)
  · have e : ce.cells.lookup y = some c := e
    rw [cC] at e
    exact I.freeC y c (cl e).1
  · have hp : p = (a, go) := by simpa using hp
    subst hp
    refine ⟨hgo, I.hok.fresh (Nat.le_of_lt ha), ?_, fun z => ?_, hgd⟩
    · show a ≠ ce.locals
      rw [cL]
      exact Nat.ne_of_gt ha
    · have z : a ∈ frs X.stack := z
      obtain ⟨_, o, ho, _⟩ := I.stack.mem z
      exact absurd (Nat.lt_trans (Heap.lt_size ho) ha) (Nat.lt_irrefl _)
end
/-! ### all(..), any(..) of a generator, told by what each turn does -/
/-- between a yield and the next turn -/
structure Rs (s s' : Shared) : Prop where
  heap : s'.heap = s.heap
  os : s'.os = s.os
  bare : AllBare s'.gens
  size : s.gens.size ≤ s'.gens.size
theorem inv_gens {X : Cx} {pins : List (Addr × Obj)} {σ : L2.St} {H : Hp} {s s' : Shared} (I : Inv X pins σ H s) (h1 : s'.heap = s.heap) (h2 : s'.os = s.os) (h3 : AllBare s'.gens) : Inv X pins σ H s' := by
  obtain ⟨hh, g, d, t, o⟩ := s'
  have e1 : hh = s.heap := h1
  have e2 : o = s.os := h2
  subst e1 e2
  exact ⟨I.ok, I.os, h3, I.base, I.loc, I.cell, I.free, I.freeC, I.pin, I.hok, I.len⟩
theorem Rs.inv {X : Cx} {pins : List (Addr × Obj)} {σ : L2.St} {H : Hp} {s s' : Shared} (r : Rs s s') (I : Inv X pins σ H s) : Inv X pins σ H s' := by
  obtain ⟨h1, h2, h3, _⟩ := r
  obtain ⟨hh, g, d, t, o⟩ := s'
  have e1 : hh = s.heap := h1
  have e2 : o = s.os := h2
  subst e1 e2
  exact ⟨I.ok, I.os, h3, I.base, I.loc, I.cell, I.free, I.freeC, I.pin, I.hok, I.len⟩
theorem bare_set {gens : Array GenState} (h : AllBare gens) {g : Nat} {x : GenState} (hx : x.bare = true) : AllBare (gens.setIfInBounds g x) := fun y hy => by
  obtain ⟨i, hi, rfl⟩ := Array.mem_iff_getElem.mp hy
  rw [Array.size_setIfInBounds] at hi
  rw [Array.getElem_setIfInBounds hi]
  split
  · exact hx
  · exact h _ (Array.getElem_mem hi)
theorem Rs.set {s : Shared} (hb : AllBare s.gens) {g : Nat} {x : GenState} (hx : x.bare = true) : Rs s (s.setGen g x) :=
  ⟨rfl, rfl, bare_set hb hx, Nat.le_of_eq (GenW.setGen_size s g x).symm⟩
theorem Rs.trans {s s1 s2 : Shared} (a : Rs s s1) (b : Rs s1 s2) : Rs s s2 := ⟨b.heap.trans a.heap, b.os.trans a.os, b.bare, Nat.le_trans a.size b.size⟩
/-- the protocol of a generator whose items are truths: T b: what holds where b comes out -/
def gY (gi : Nat) (a : Addr) (stop : Bool) (Fin : Shared → Prop) : Protocol := fun n s₀ v s kap =>
  ∃ b, v = .bool b ∧ s.heap.IsGen a gi ∧ s.heap.NoLimit ∧ AllBare s.gens ∧ gi < s.gens.size ∧ (b = stop → Fin s) ∧ (b ≠ stop → ∀ s', Rs s s' → kap (.send .none) s')
def gR (End : Shared → Prop) : Nat → Shared → Shared → Prop := fun _ _ s => AllBare s.gens ∧ End s
/-- the generator waits -/
def Waits (prog : Program) (w : World) (A : Around) (gi : Nat) (a : Addr) (stop : Bool) (End Fin : Shared → Prop) (n : Nat) (s : Shared) : Prop :=
  s.heap.IsGen a gi ∧ s.heap.NoLimit ∧ AllBare s.gens ∧ ∃ gs, s.gens[gi]? = some gs ∧
    ∀ s', Rs s s' → gs.Goes (model prog w) A.in1 (fun n s₀ r s₁ => r = .ok .next ∧ gR End n s₀ s₁) (gY gi a stop Fin) n (.send .none) s'
section
variable {prog : Program} {w : World} {A : Around} {gi : Nat} {a : Addr} {stop : Bool} {End Fin : Shared → Prop}
theorem waits_next {n : Nat} {s : Shared} {Q : Option Value → Shared → Prop} {E : Value → Shared → Prop} (hh : A.handled = none) (hroom : A.depth < recursionLimit)
    (hE : ∀ s s' : Shared, End s → s'.os = s.os → AllBare s'.gens → (∀ b o, s.heap.get? b = some o → s'.heap.get? b = some o) → End s')
    (hF : ∀ s s' : Shared, Fin s → s'.os = s.os → AllBare s'.gens → (∀ b o, s.heap.get? b = some o → s'.heap.get? b = some o) → Fin s')
    (W : Waits prog w A gi a stop End Fin n s) (hN : ∀ s', End s' → Q none s') (hS : ∀ s', Fin s' → Q (some (.bool stop)) s')
    (hG : ∀ s' m, m < n → Waits prog w A gi a stop End Fin m s' → Q (some (.bool (!stop))) s') : wpAny (model prog w) A (pyNext (.ref a)) Q E s := by
  obtain ⟨hg, hl, hb, gs, hgs, hgo⟩ := W
  refine wpAny_pyNext_genexpQ (P := gR End) (Y := gY gi a stop Fin) hh hl hroom hg hgs (hgo _ (Rs.set hb rfl)) (fun v s₁ gs' hb' hv => ?_) fun s₁ hp h' hk => ?_
  · obtain ⟨b, rfl, g1, l1, b1, z1, f1, k1⟩ := hv
    by_cases e : b = stop
    · subst e
      exact hS _ (hF _ _ (f1 rfl) rfl (bare_set b1 hb') fun _ _ q => q)
    · have eb : b = !stop := by cases b <;> cases stop <;> first | rfl | exact absurd rfl e
      subst eb
      cases n with
      | zero => exact False.elim (k1 e s₁ ⟨rfl, rfl, b1, Nat.le_refl _⟩)
      | succ m =>
        refine hG _ m (Nat.lt_succ_self m) ⟨g1, l1, bare_set b1 hb', gs', ?_, fun s' r => k1 e s' ((Rs.set b1 hb').trans r)⟩
        show (s₁.gens.setIfInBounds gi gs')[gi]? = some gs'
        rw [Array.getElem?_setIfInBounds_self_of_lt z1]
  · obtain ⟨b1, e1⟩ := hp
    exact hN _ (hE _ _ e1 rfl (bare_set b1 rfl) fun b o q => hk b o q)
end
section
variable {prog : Program} {w : World} {A : Around} {gi : Nat} {a : Addr} {End Fin : Shared → Prop}
theorem all_loop (hh : A.handled = none) (hroom : A.depth < recursionLimit)
    (hE : ∀ s s' : Shared, End s → s'.os = s.os → AllBare s'.gens → (∀ b o, s.heap.get? b = some o → s'.heap.get? b = some o) → End s')
    (hF : ∀ s s' : Shared, Fin s → s'.os = s.os → AllBare s'.gens → (∀ b o, s.heap.get? b = some o → s'.heap.get? b = some o) → Fin s') :
    ∀ (n : Nat) (s : Shared), Waits prog w A.in1 gi a false End Fin n s →
      codeAny (model prog w) A (.builtin "all.loop" ⟨[.ref a], []⟩) (fun r s' => (r = .ok (.ret (.bool true)) ∧ End s') ∨ (r = .ok (.ret (.bool false)) ∧ Fin s')) s := by
  intro n
  induction n using Nat.strongRecOn with
  | ind n ih =>
    intro s W
    refine codeAny_builtin PySem.F.entry_all_loop ?_
    rw [Around.under_plainId PySem.F.plain_all_loop]
    show wpAny (model prog w) A.in1 (pyNext (.ref a) >>= _) _ _ s
    refine wpAny_bind (waits_next (A := A.in1) hh hroom hE hF W (fun s' e => ?_) (fun s' e => ?_) fun s' m hm W' => ?_)
    · exact wpAny_bind (wpAny_rule (wpAny_pure (.inl ⟨rfl, e⟩)))
    · refine wpAny_bind (wpAny_holding (wpAny_truthy_bool ?_))
      refine wpAny_bind (wpAny_letGo ?_)
      exact wpAny_bind (wpAny_rule (wpAny_pure (.inr ⟨rfl, e⟩)))
    · refine wpAny_bind (wpAny_holding (wpAny_truthy_bool ?_))
      refine wpAny_bind (wpAny_letGo ?_)
      exact wpAny_pure ⟨plainId_quiet PySem.F.plain_all_loop _, ih m hm s' W'⟩
end
/-! ### all(elt for target in iter) -/
/-- the reading: W by the turn and a measure; P: the def's table, which may grow -/
def tAll (P : Addr) (wi : TI) (g : TG) (te : TE) (vs : List Nat) : TE := fun σ H Q => wi σ H fun J H1 => GxR.TabG H1 P ∧ ∃ W : Nat → Nat → Hp → Prop, (∀ H2, GxR.Tabbed P H1 H2 → ∃ m, W 0 m H2) ∧ ∀ i m H, W i m H →
  (J.stop i H ∧ Q (.bl true) H) ∨ (J.go i H ∧ ∃ Nx : Hp → Prop, (∀ H', Nx H' → ∃ m', m' < m ∧ W (i + 1) m' H') ∧ ∀ x H', J.yld i H x H' → g x (wipe σ vs) H' fun σ2 H2 => wipe σ2 vs = wipe σ vs ∧
    te σ2 H2 fun y H3 => ∃ b, y = .bl b ∧ if b = true then Nx H3 else Q (.bl false) H3)
section
variable {X : Cx}
theorem pe_all {k : Nat} {c P : Addr} {elt tg iter : Expr} {scope : Scope} {own : List (Str × Nat)} {p pos gpos : Pos} {wi : TI} {g : TG} {te : TE}
    (hr : Room (k + 1) X.A) (TB : GxR.TabB X.base X.mg c P) (hcode : X.env.code = .ref c) (hc : X.calm = true) (hN : X.N.Nodup) (hG : Gl X "all") (hM : X.mg "all" = none) (hi : PI X tg iter wi) (ok : BlkOk X.N X.env.scope scope own) (gk : GnOk scope) (hdN : (".0" : Str) ∉ X.N)
    (hg : ∀ (s : Shared) (H : Hp) (A' : Around) (C : Addr) (cl : List (Str × Addr)) (code : Value) (fp : List Addr), PG (gX X s H A' (genEnv scope cl C code builtinsNs X.env) fp) tg g)
    (he : ∀ (s : Shared) (H : Hp) (A' : Around) (C : Addr) (cl : List (Str × Addr)) (code : Value) (fp : List Addr), Room k A' → PE (gX X s H A' (genEnv scope cl C code builtinsNs X.env) fp) elt te)
    (hs : ∀ v, genFold iter X.env v = pure v := by intro _; rfl)
    (hst : starEach [.GeneratorExp elt [⟨tg, iter, [], 0⟩] scope gpos] X.env = (false, eval (.GeneratorExp elt [⟨tg, iter, [], 0⟩] scope gpos) X.env) :: starEach [] X.env := by rfl) :
    PE X (.Call (.Name "all" p) [.GeneratorExp elt [⟨tg, iter, [], 0⟩] scope gpos] [] pos) (tAll P wi g te (own.map (·.2))) := by
  refine ⟨fun pins s σ H Q I h => ?_⟩
  have hh : X.A.handled = none := hr.hd
  refine wpAny_Call_Name_kw (ld_blt I hG hM PyProof.Rows.boot_all ?_)
  refine PyProof.Rows.callWith_builtin1 ?_ hst (by rfl)
  rw [hst]
  show wpAny _ _ (spliced ((false, eval (.GeneratorExp elt [⟨tg, iter, [], 0⟩] scope gpos) X.env) :: backTo pos (starEach [] X.env))) _ _ s
  have hfree : ∀ y ∈ scope.names, y.2 = .free → ∃ c, X.env.cells.lookup y.1 = some c := fun y hy e =>
    (ok.free y hy e).elim (fun k => I.ok.has _ (.inl k)) fun k => I.ok.has _ (.inr k)
  refine Calls.spliced_cons (wpAny_GeneratorExp_make gk.co (closure_ok hfree) gk.nocell gk.dot ok.kind (by have := hr.dp; omega) (thn (hi.run pins s σ H _ I h) fun xv s1 hx => thn hx fun itv s2 h2 => ?_) hs)
  obtain ⟨it, fp, tn, J, H2, e, I2, T, st2, f2, ⟨ps, hP, ht⟩, W, w0, turn⟩ := h2
  subst e
  refine ⟨I2.nolimit, ?_⟩
  have hPs : s2.heap.get? P = some { cls := .none, data := .fields ps } := I2.hok P _ hP
  have cd : PySem.W.CodeHd s2.heap c P := TB.code.keeps fun b u e => I2.bk b u e
  have sz2 : ∀ b ∈ fp, b < s2.heap.objs.size := fun b hb => by
    obtain ⟨o, e, _⟩ := T.obj _ _ st2 b hb
    exact Heap.lt_size e
  have nfP : ∀ b ∈ fp, b ≠ P := fun b hb z => by
    have q := (f2 b hb).1
    rw [z, hP] at q
    cases q
  -- behind the table
  have cont : ∀ (code : Value) (h3 : Heap) (tk : Nat) (more : Array Value), s2.heap.objs.size ≤ h3.objs.size → (∀ b o, b ≠ P → s2.heap.get? b = some o → h3.get? b = some o) → h3.get? P = some { cls := .none, data := .fields (ps ++ more) } → TriplesOk (ps ++ more).toList →
      wpAny (model X.prog X.w) X.A (builtinsFor X.env.globals X.env.builtins) (fun bi s4 => ∀ h', h'.Ns s4.heap.objs.size (fun y => if y = ".0" then some (.ref it) else none) → Heap.SameBut s4.heap.objs.size (s4.heap.push { cls := .type "frame", data := .dict #[] }) h' →
        wpAny (model X.prog X.w) X.A (spliced (backTo pos (starEach [] X.env))) (fun vs s5 => wpAny (model X.prog X.w) X.A (call (.builtin "all") (.ref h'.objs.size :: vs)) (EP X pins σ Q) X.xe s5) X.xe { s4 with
            gens := s4.gens.push (.fresh (.compStart (.GeneratorExp elt [⟨tg, iter, [], 0⟩] scope gpos) 0 (.ref it) .none (genEnv scope (cloFrom X.env.cells scope.names []) s4.heap.objs.size code bi X.env))), toks := s4.toks + 1 + 1 + 1,
            heap := h'.push { cls := .type "generator", data := .fields #[.int s4.gens.size 0, .str "<genexpr>" (s4.toks + 1), .str (X.env.qual ++ "<genexpr>") (s4.toks + 1 + 1)] } }) X.xe { s2 with heap := h3, toks := tk } := by
    intro code h3 tk more hle3 hk3 hP3 ht3
    have I3 : Inv X pins σ (upd H2 P (.tbl (ps ++ more))) { s2 with heap := h3, gens := s2.gens, drawn := s2.drawn, toks := tk } := GxR.inv_tab I2 hP hk3 hP3 I2.bare
    have tab3 : GxR.Tabbed P H2 (upd H2 P (.tbl (ps ++ more))) := ⟨⟨_, upd_same, ht3⟩, fun b hb => upd_ne hb⟩
    have st3 : tn 0 h3 := T.keep _ _ _ st2 fun b hb o e => hk3 b o (nfP b hb) e
    have f3 : ∀ b ∈ fp, FpOk X pins (upd H2 P (.tbl (ps ++ more))) b := fun b hb => ⟨by rw [upd_ne (nfP b hb)]; exact (f2 b hb).1, (f2 b hb).2⟩
    generalize upd H2 P (.tbl (ps ++ more)) = H3 at I3 tab3 f3
    obtain ⟨m0, hw0⟩ := w0 H3 tab3
    have sz3 : ∀ b ∈ fp, b < h3.objs.size := fun b hb => Nat.lt_of_lt_of_le (sz2 b hb) hle3
    have hs3 : ({ s2 with heap := h3, gens := s2.gens, drawn := s2.drawn, toks := tk } : Shared) = { s2 with heap := h3, toks := tk } := rfl
    rw [hs3] at I3
    generalize hsh : ({ s2 with heap := h3, toks := tk } : Shared) = s3 at I3 ⊢
    have eh : h3 = s3.heap := by rw [← hsh]
    rw [eh] at st3 sz3
    clear hsh hs3 eh hP3 hk3 hle3
    obtain ⟨bm, ob, e1, e2, e3, e4, e5, e6, e7, e8⟩ := TB.bm
    refine wpAny_builtinsFor (m := X.mg) (by rw [I3.ok.glob]; exact I3.mod.glob.keeps I3.bk) e1 e2 (I3.bk _ _ e5) e6 e7 e8 ?_
    intro h' hn' hs'
    refine Calls.spliced_nil ?_
    have hsz : h'.objs.size = s3.heap.objs.size + 1 := by rw [hs'.1, Heap.size_push]
    generalize hgo : ({ cls := .type "generator", data := .fields #[.int s3.gens.size 0, .str "<genexpr>" (s3.toks + 1), .str (X.env.qual ++ "<genexpr>") (s3.toks + 1 + 1)] } : Obj) = go
    have kp5 : ∀ b o, s3.heap.get? b = some o → (h'.push go).get? b = some o := fun b o e => Heap.get?_push_of_some _ (hs'.extBut b o (Nat.ne_of_lt (Heap.lt_size e)) (Heap.get?_push_of_some _ e))
    generalize hce : genEnv scope (cloFrom X.env.cells scope.names []) s3.heap.objs.size code builtinsNs X.env = ce
    have hhA : (X.A.in1.in1.over (.compLoop (.GeneratorExp elt [⟨tg, iter, [], 0⟩] scope gpos) 0 (.ref it) .none ce) []).handled = none := hh
    have hFr : (X.A.in1.in1.over (.compLoop (.GeneratorExp elt [⟨tg, iter, [], 0⟩] scope gpos) 0 (.ref it) .none ce) []).frames = some (ce :: X.stack) := by
      show pushEnvs [ce] (pushEnvs [] X.A.frames) = _
      rw [I3.ok.frames]
      rfl
    have hRm : Room k (X.A.in1.in1.over (.compLoop (.GeneratorExp elt [⟨tg, iter, [], 0⟩] scope gpos) 0 (.ref it) .none ce) []) := by
      have z1 := hr.dp
      have z2 := hr.un
      refine ⟨hhA, ?_, ?_⟩
      · show X.A.depth + 0 + 1 + 3 * k + 5 < recursionLimit
        omega
      · show X.A.units + 1 + 1 + 0 + 3 + 16 * k + 200 < cLine
        omega
    generalize hAg : X.A.in1.in1.over (.compLoop (.GeneratorExp elt [⟨tg, iter, [], 0⟩] scope gpos) 0 (.ref it) .none ce) [] = Ag at hhA hFr hRm
    have I5 : Inv (gX X s3 H3 Ag ce fp) [(h'.objs.size, go)] (wipe σ (own.map (·.2))) H3 { s3 with heap := h'.push go, gens := s3.gens.push (.fresh (.compStart (.GeneratorExp elt [⟨tg, iter, [], 0⟩] scope gpos) 0 (.ref it) .none ce)), toks := s3.toks + 1 + 1 + 1 } := by
      have q := gen_start (code := code) (A' := Ag) (h5 := h'.push go) (g5 := s3.gens.push (.fresh (.compStart (.GeneratorExp elt [⟨tg, iter, [], 0⟩] scope gpos) 0 (.ref it) .none ce))) (t5 := s3.toks + 1 + 1 + 1) (go := go) I3 ok gk hN (fun b hb => ⟨f3 b hb, sz3 b hb⟩) hhA (by rw [hce]; exact hFr) kp5 (hn'.push _)
        (fun x hx => if_neg hx) hdN (I3.bare.push rfl) (a := h'.objs.size) (by omega) (Heap.get?_push_size _ (by rw [← hgo]; rfl)) (by rw [← hgo]; intro v z; cases z)
      rw [hce] at q
      exact q
    have st5 : tn 0 (h'.push go) := T.keep _ _ _ st3 fun b _ o e => kp5 b o e
    have nfp : ∀ b ∈ fp, H3 b = none := fun b hb => (f3 b hb).1
    have pg := hg s3 H3 Ag s3.heap.objs.size (cloFrom X.env.cells scope.names []) code fp
    have pe := he s3 H3 Ag s3.heap.objs.size (cloFrom X.env.cells scope.names []) code fp hRm
    rw [hce] at pg pe
    have cCo : ce.scope.isCoroutine = false := by rw [← hce]; exact gk.co
    clear hn' hs' kp5 w0 hce
    -- back in the def's context
    have back : ∀ {σ' : L2.St} {H' : Hp} {s' : Shared} {pl : List (Addr × Obj)}, Inv (gX X s3 H3 Ag ce fp) pl σ' H' s' → Inv X pins σ H' s' := fun {σ' H' s' pl} J => I3.call' (ch := fp) J.os J.base J.hok J.bare fun b hb =>
      ⟨(f3 b hb).2.2.2.1, (f3 b hb).2.1, (f3 b hb).2.2.2.2.1, (f3 b hb).2.2.2.2.2⟩
    have stat : ∀ {σ' : L2.St} {H' : Hp} {s' : Shared}, Inv (gX X s3 H3 Ag ce fp) [(h'.objs.size, go)] σ' H' s' → (∀ b ∈ fp, H' b = none) → ∀ b ∈ fp, FpOk (gX X s3 H3 Ag ce fp) [(h'.objs.size, go)] H' b := fun {σ' H' s'} J hn b hb =>
      ⟨hn b hb, (J.ok.exf b hb).1, J.ok.exfs b hb, .inl hb, fun x c e => (J.ok.exf b hb).2 x c e, fun p hp => by
        have hp : p = (h'.objs.size, go) := by simpa using hp
        rw [hp]
        exact Nat.ne_of_gt (Nat.lt_trans (sz3 b hb) (by rw [hsz]; exact Nat.lt_succ_self _))⟩
    have gen : ∀ {σ' : L2.St} {H' : Hp} {s' : Shared} {pl : List (Addr × Obj)}, Inv (gX X s3 H3 Ag ce fp) ([(h'.objs.size, go)] ++ pl) σ' H' s' → s'.heap.IsGen h'.objs.size s3.gens.size := fun {σ' H' s' pl} J => by
      have q := (J.pin (h'.objs.size, go) (by simp)).1
      exact ⟨go, _, _, q, by rw [← hgo], by rw [← hgo], by rw [← hgo]⟩
    -- the turns
    have loop : ∀ (m n i : Nat) (s₀ s : Shared) (H : Hp), m < n → W i m H → Inv (gX X s3 H3 Ag ce fp) [(h'.objs.size, go)] (wipe σ (own.map (·.2))) H s → tn i s.heap → (∀ b ∈ fp, H b = none) → s3.gens.size + 1 ≤ s.gens.size →
        Seg (model X.prog X.w) X.A.in1.in1 (fun n s₀ r s₁ => r = .ok .next ∧ gR (fun s => ∃ H', Inv X pins σ H' s ∧ Q (.bl true) H') n s₀ s₁) (gY s3.gens.size h'.objs.size false fun s => ∃ H', Inv X pins σ H' s ∧ Q (.bl false) H') n s₀
          (.compLoop (.GeneratorExp elt [⟨tg, iter, [], 0⟩] scope gpos) 0 (.ref it) .none ce) ((model X.prog X.w).den (.compLoop (.GeneratorExp elt [⟨tg, iter, [], 0⟩] scope gpos) 0 (.ref it) .none ce)) [] s := by
      intro m
      induction m using Nat.strongRecOn with
      | ind m ih =>
        intro n i s₀ s H hmn w J st nf hz
        show Seg (model X.prog X.w) _ _ _ n s₀ _ ((compTurn (.GeneratorExp elt [⟨tg, iter, [], 0⟩] scope gpos) 0 (.ref it) .none ce).onRaise (leaving ce)) [] s
        rw [compTurn_gen]
        rw [Sem.onRaise_eq_wrap]
        refine seg_bind_wrap (wpAny_standAt (seg_bind_wrap ?_))
        rw [hAg]
        rcases turn i m H w with ⟨stp, qq⟩ | ⟨go', Nx, hNx, step⟩
        · refine thnF (T.done (gX X s3 H3 Ag ce fp) rfl rfl rfl hc i _ s _ H (fun _ _ => False) J (stat J nf) st stp) fun r s6 ⟨hr6, J6⟩ => ?_
          subst hr6
          exact seg_end (.ok .next) ⟨rfl, J6.bare, H, back J6, qq⟩
        · refine GenW.wpAny_gsz hz (thnF (T.item (gX X s3 H3 Ag ce fp) rfl rfl rfl hc i _ s _ H (fun _ _ => False) J (stat J nf) st go') fun r s6 ⟨u, hr6, h6⟩ hz6 => ?_)
          subst hr6
          refine seg_bind_wrap ?_
          rw [hAg]
          refine GenW.wpAny_gsz hz6 (thnF h6 fun _ s7 ⟨x, H7, J7, r7, y7, st7, n7⟩ hz7 => ?_)
          have J7' := J7.pinned (stat J7 n7) (T.obj _ _ st7)
          refine seg_bind_wrap ?_
          rw [hAg]
          refine GenW.wpAny_gsz hz7 (thnF (pg.run _ s7 _ H7 x u _ J7' r7 (step x H7 y7)) fun _ s8 ⟨σ8, H8, J8, hw8, q8⟩ hz8 => ?_)
          simp only [List.forIn_nil]
          refine seg_bind_wrap (wpAny_pure ?_)
          simp only [if_true]
          have hy : ∀ v, yieldOut ce v = yieldValue v := fun v => by simp only [yieldOut, cCo, Bool.false_eq_true, if_false]
          simp only [hy]
          rw [Sem.bind_eq_wrap', Sem.bind_eq_wrap']
          rw [Sem.wrap_wrap, Sem.wrap_wrap]
          refine seg_wrap ?_
          rw [hAg]
          refine GenW.wpAny_gsz hz8 (thnF (pe.run _ s8 σ8 H8 _ J8 q8) fun z s9 ⟨yv, H9, J9, r9, b, eb, qb⟩ hz9 => ?_)
          subst eb
          obtain rfl : z = Value.bool b := r9
          obtain ⟨n', rfl⟩ : ∃ n', n = n' + 1 := ⟨n - 1, by omega⟩
          refine seg_at (seg_yield rfl rfl rfl ⟨b, rfl, gen J9, J9.nolimit, J9.bare, hz9, fun e => ?_, fun e s' r => ?_⟩)
          · subst e
            exact ⟨H9, back J9, qb⟩
          · have e : b = true := by
              cases b with
              | true => rfl
              | false => exact absurd rfl e
            subst e
            rw [if_pos rfl] at qb
            obtain ⟨m', hm', w'⟩ := hNx H9 qb
            have pin' : ∀ b ∈ fp, ∀ o, s7.heap.get? b = some o → s9.heap.get? b = some o ∧ H9 b = none := fun b hb o e =>
              let z := J9.pin (b, o) (List.mem_append_right _ (List.mem_append_right _ (mem_pinsAt hb e)))
              ⟨z.1, z.2.1⟩
            have hl : (wipe σ (own.map (·.2))).length = σ8.length := by rw [← hw8, wipe_length]
            have K9 : Inv (gX X s3 H3 Ag ce fp) [(h'.objs.size, go)] (wipe σ (own.map (·.2))) H9 s9 := J9.unpinned.weak hl fun j v e => by
              rw [← hw8] at e
              exact (wipe_some e).1
            refine seg_again rfl (ih m' hm' n' (i + 1) s' s' H9 (by omega) w' (r.inv K9) ?_ (fun b hb => ?_) (Nat.le_trans hz9 r.size))
            · rw [r.heap]
              exact T.keep _ _ _ st7 fun b hb o e => (pin' b hb o e).1
            · obtain ⟨o, e, _⟩ := T.obj _ _ st7 b hb
              exact (pin' b hb o e).2
    have mono : ∀ (b : Bool) (s s' : Shared), (∃ H', Inv X pins σ H' s ∧ Q (.bl b) H') → s'.os = s.os → AllBare s'.gens → (∀ b o, s.heap.get? b = some o → s'.heap.get? b = some o) → ∃ H', Inv X pins σ H' s' ∧ Q (.bl b) H' := fun b s s' ⟨H', J, q⟩ h1 h2 h3 =>
      ⟨H', inv_gens (J.kept (t' := s'.toks) h3) rfl h1 h2, q⟩
    generalize hs5 : ({ s3 with heap := h'.push go, gens := s3.gens.push (.fresh (.compStart (.GeneratorExp elt [⟨tg, iter, [], 0⟩] scope gpos) 0 (.ref it) .none ce)), toks := s3.toks + 1 + 1 + 1 } : Shared) = s5 at I5
    have hg5 : s5.gens[s3.gens.size]? = some (.fresh (.compStart (.GeneratorExp elt [⟨tg, iter, [], 0⟩] scope gpos) 0 (.ref it) .none ce)) := by
      rw [← hs5]
      exact Array.getElem?_push_size ..
    have hz5 : s3.gens.size + 1 ≤ s5.gens.size := by
      rw [← hs5]
      exact Nat.le_of_eq (Array.size_push ..).symm
    have ht5 : tn 0 s5.heap := by rw [← hs5]; exact st5
    have wt : Waits X.prog X.w X.A.in1 s3.gens.size h'.objs.size false (fun s => ∃ H', Inv X pins σ H' s ∧ Q (.bl true) H') (fun s => ∃ H', Inv X pins σ H' s ∧ Q (.bl false) H') (m0 + 1) s5 := by
      refine ⟨gen (pl := []) I5, I5.nolimit, I5.bare, _, hg5, fun s' r => ⟨rfl, ?_⟩⟩
      have lp := loop m0 (m0 + 1) 0 s' s' H3 (Nat.lt_succ_self _) hw0 (r.inv I5) (by rw [r.heap]; exact ht5) nfp (Nat.le_trans hz5 r.size)
      show Seg (model X.prog X.w) _ _ _ _ s' _ ((compStart (.GeneratorExp elt [⟨tg, iter, [], 0⟩] scope gpos) 0 (.ref it) .none ce).onRaise (leaving ce)) [] s'
      unfold compStart
      rw [Sem.onRaise_eq_wrap]
      show Seg (model X.prog X.w) _ _ _ _ s' _ ((ask >>= _).wrap _ _ _ _) [] s'
      refine seg_bind_wrap (wpAny_askSetting ?_)
      have ts : tn 0 s'.heap := by rw [r.heap]; exact ht5
      split
      · exact seg_again rfl lp
      · first
          | exact seg_bind_wrap (wpAny_rule (seg_bind_wrap (wpAny_standAt (seg_bind_wrap (T.self _ 0 s' _ _ ts (seg_again rfl lp))))))
          | (refine seg_bind_wrap (wpAny_rule ?_); show Seg (model X.prog X.w) _ _ _ _ s' _ ((standAt iter.pos >>= _).wrap _ _ _ _) [] s'; exact seg_bind_wrap (wpAny_standAt (seg_bind_wrap (T.self _ 0 s' _ _ ts (seg_again rfl lp)))))
    refine call_function_tree PySem.F.kind_all PySem.F.plain_all PySem.F.entry_all (PySem.F.args_all1 _) ?_
    unfold Builtin.«all»
    refine wpAny_bind (m := oneArg "all" _) (wpAny_pure ?_)
    refine wpAny_bind (wpAny_pyIter_gen (gen (pl := []) I5) ?_)
    refine wpAny_pure ⟨plainId_quiet PySem.F.plain_all_loop _, codeAny_mono (all_loop hh hr.depth (mono true) (mono false) (m0 + 1) s5 wt) fun r s' hq => ?_⟩
    rcases hq with ⟨rfl, H', J, q⟩ | ⟨rfl, H', J, q⟩
    · exact ⟨.bl true, H', J, rfl, q⟩
    · exact ⟨.bl false, H', J, rfl, q⟩
  cases hf : codeAmong gpos ps.toList with
  | none =>
    refine wpAny_genexprCodeX hcode (cd.code hPs ht) (cd.tab hPs) hf fun c' h' tk hx hge hlt hco' _ htab' _ => ?_
    obtain ⟨o1, vs, f1, tf, fl, tg1, inF, tx, tt, op, _, _, _, _, _, _, _, _, _, htr, _⟩ := hco'
    exact cont _ h' tk _ (Nat.le_trans hge (Nat.le_of_lt hlt)) (fun b o hb e => hx b o hb e) htab'.2 htr
  | some cv =>
    refine wpAny_genexprCode_hit hcode (cd.code hPs ht) hf ?_
    have := cont cv s2.heap s2.toks #[] (Nat.le_refl _) (fun _ _ _ e => e) (by rw [hPs]; simp) (by simpa using ht)
    exact this
end
def topS (i : Nat) : Stmt := PySem.Challenge.pw_friendfoe_k14_whole_sides_or_odd_rings.main.body.getD i (.Pass ⟨0, 0, 0, 0⟩)
abbrev s_neighbours : Stmt := topS 1
abbrev N_neighbours : List Str := ["web", "many", "ties", "around", "place", "one", "other", "kind"]
theorem sc_neighbours : FnScope N_neighbours ["web"] (defScope s_neighbours) := ⟨rfl, rfl, rfl, by decide +kernel, rfl, by decide +kernel, by decide +kernel⟩
abbrev s_sides_from : Stmt := topS 2
abbrev N_sides_from : List Str := ["start", "around", "sides", "waiting", "place", "other", "kind"]
theorem sc_sides_from : FnScope N_sides_from ["start", "around"] (defScope s_sides_from) := ⟨rfl, rfl, rfl, by decide +kernel, rfl, by decide +kernel, by decide +kernel⟩
abbrev s_is_whole : Stmt := topS 4
abbrev N_is_whole : List Str := ["thing"]
theorem sc_is_whole : FnScope N_is_whole ["thing"] (defScope s_is_whole) := ⟨rfl, rfl, rfl, by decide +kernel, rfl, by decide +kernel, by decide +kernel⟩
abbrev s_is_whole_below : Stmt := topS 5
abbrev N_is_whole_below : List Str := ["limit", "thing"]
theorem sc_is_whole_below : FnScope N_is_whole_below ["limit", "thing"] (defScope s_is_whole_below) := ⟨rfl, rfl, rfl, by decide +kernel, rfl, by decide +kernel, by decide +kernel⟩
abbrev s_is_tuple_of : Stmt := topS 6
abbrev N_is_tuple_of : List Str := ["length", "thing"]
theorem sc_is_tuple_of : FnScope N_is_tuple_of ["length", "thing"] (defScope s_is_tuple_of) := ⟨rfl, rfl, rfl, by decide +kernel, rfl, by decide +kernel, by decide +kernel⟩
abbrev s_is_sides : Stmt := topS 8
abbrev N_is_sides : List Str := ["web", "thing", "side"]
theorem sc_is_sides : FnScope N_is_sides ["web", "thing"] (defScope s_is_sides) := ⟨rfl, rfl, rfl, by decide +kernel, rfl, by decide +kernel, by decide +kernel⟩
abbrev s_breaks : Stmt := topS 9
abbrev N_breaks : List Str := ["sides", "tie", "one", "other", "kind"]
theorem sc_breaks : FnScope N_breaks ["sides", "tie"] (defScope s_breaks) := ⟨rfl, rfl, rfl, by decide +kernel, rfl, by decide +kernel, by decide +kernel⟩
abbrev s_broken_by : Stmt := topS 10
abbrev N_broken_by : List Str := ["web", "sides", "number", "tie"]
theorem sc_broken_by : FnScope N_broken_by ["web", "sides"] (defScope s_broken_by) := ⟨rfl, rfl, rfl, by decide +kernel, rfl, by decide +kernel, by decide +kernel⟩
abbrev s_sides_hold : Stmt := topS 11
abbrev N_sides_hold : List Str := ["web", "thing"]
theorem sc_sides_hold : FnScope N_sides_hold ["web", "thing"] (defScope s_sides_hold) := ⟨rfl, rfl, rfl, by decide +kernel, rfl, by decide +kernel, by decide +kernel⟩
abbrev s_sides_of : Stmt := topS 12
abbrev N_sides_of : List Str := ["web", "around", "told", "start", "sides", "place"]
theorem sc_sides_of : FnScope N_sides_of ["web"] (defScope s_sides_of) := ⟨rfl, rfl, rfl, by decide +kernel, rfl, by decide +kernel, by decide +kernel⟩
abbrev s_are_unlike_below : Stmt := topS 14
abbrev N_are_unlike_below : List Str := ["limit", "thing", "number"]
theorem sc_are_unlike_below : FnScope N_are_unlike_below ["limit", "thing"] (defScope s_are_unlike_below) := ⟨rfl, rfl, rfl, by decide +kernel, rfl, by decide +kernel, by decide +kernel⟩
abbrev s_joins : Stmt := topS 15
abbrev N_joins : List Str := ["tie", "one", "other"]
theorem sc_joins : FnScope N_joins ["tie", "one", "other"] (defScope s_joins) := ⟨rfl, rfl, rfl, by decide +kernel, rfl, by decide +kernel, by decide +kernel⟩
abbrev s_ring_holds : Stmt := topS 16
abbrev N_ring_holds : List Str := ["web", "thing", "places", "ties", "followers", "tie", "one", "other"]
theorem sc_ring_holds : FnScope N_ring_holds ["web", "thing"] (defScope s_ring_holds) := ⟨rfl, rfl, rfl, by decide +kernel, rfl, by decide +kernel, by decide +kernel⟩
abbrev s_foes_in : Stmt := topS 17
abbrev N_foes_in : List Str := ["web", "ring", "tie"]
theorem sc_foes_in : FnScope N_foes_in ["web", "ring"] (defScope s_foes_in) := ⟨rfl, rfl, rfl, by decide +kernel, rfl, by decide +kernel, by decide +kernel⟩
abbrev s_odd_ring_holds : Stmt := topS 18
abbrev N_odd_ring_holds : List Str := ["web", "thing"]
theorem sc_odd_ring_holds : FnScope N_odd_ring_holds ["web", "thing"] (defScope s_odd_ring_holds) := ⟨rfl, rfl, rfl, by decide +kernel, rfl, by decide +kernel, by decide +kernel⟩
abbrev s_l_deck : Stmt := topS 20
abbrev N_l_deck : List Str := ["_law_script", "_law_deck_here", "_law_k"]
theorem sc_l_deck : FnScope N_l_deck ["_law_script"] (defScope s_l_deck) := ⟨rfl, rfl, rfl, by decide +kernel, rfl, by decide +kernel, by decide +kernel⟩
abbrev s_l_draw : Stmt := topS 21
abbrev N_l_draw : List Str := ["_law_deck_here", "_law_most", "_law_cells", "_law_state", "_law_found", "_law_mixed"]
theorem sc_l_draw : FnScope N_l_draw ["_law_deck_here", "_law_most"] (defScope s_l_draw) := ⟨rfl, rfl, rfl, by decide +kernel, rfl, by decide +kernel, by decide +kernel⟩
abbrev s_l_same : Stmt := topS 22
abbrev N_l_same : List Str := ["_law_found", "_law_due"]
theorem sc_l_same : FnScope N_l_same ["_law_found", "_law_due"] (defScope s_l_same) := ⟨rfl, rfl, rfl, by decide +kernel, rfl, by decide +kernel, by decide +kernel⟩
abbrev s_l_web : Stmt := topS 23
abbrev N_l_web : List Str := ["_law_deck_here", "_law_many", "_law_true", "_law_sides", "_law_place", "_law_ties", "_law_k", "_law_one", "_law_other", "_law_kind", "_law_foe"]
theorem sc_l_web : FnScope N_l_web ["_law_deck_here"] (defScope s_l_web) := ⟨rfl, rfl, rfl, by decide +kernel, rfl, by decide +kernel, by decide +kernel⟩
abbrev s_l_rings : Stmt := topS 24
abbrev N_l_rings : List Str := ["_law_web_here", "_law_found", "_law_waiting", "_law_place", "_law_places", "_law_ties", "_law_number", "_law_one", "_law_other", "_law_kind", "_law_there"]
theorem sc_l_rings : FnScope N_l_rings ["_law_web_here"] (defScope s_l_rings) := ⟨rfl, rfl, rfl, by decide +kernel, rfl, by decide +kernel, by decide +kernel⟩
abbrev s_l_all_sides : Stmt := topS 25
abbrev N_l_all_sides : List Str := ["_law_many", "_law_found", "_law_place", "_law_sides"]
theorem sc_l_all_sides : FnScope N_l_all_sides ["_law_many"] (defScope s_l_all_sides) := ⟨rfl, rfl, rfl, by decide +kernel, rfl, by decide +kernel, by decide +kernel⟩
abbrev s_l_broken : Stmt := topS 26
abbrev N_l_broken : List Str := ["_law_web_here", "_law_sides", "_law_found", "_law_number", "_law_one", "_law_other", "_law_kind"]
theorem sc_l_broken : FnScope N_l_broken ["_law_web_here", "_law_sides"] (defScope s_l_broken) := ⟨rfl, rfl, rfl, by decide +kernel, rfl, by decide +kernel, by decide +kernel⟩
abbrev s_l_firsts : Stmt := topS 27
abbrev N_l_firsts : List Str := ["_law_web_here", "_law_groups", "_law_one", "_law_other", "_law_kind", "_law_low", "_law_high", "_law_group", "_law_place"]
theorem sc_l_firsts : FnScope N_l_firsts ["_law_web_here"] (defScope s_l_firsts) := ⟨rfl, rfl, rfl, by decide +kernel, rfl, by decide +kernel, by decide +kernel⟩
abbrev s_l_ring_right : Stmt := topS 28
abbrev N_l_ring_right : List Str := ["_law_web_here", "_law_ring", "_law_foes", "_law_tie", "_law_alone", "_law_at"]
theorem sc_l_ring_right : FnScope N_l_ring_right ["_law_web_here", "_law_ring"] (defScope s_l_ring_right) := ⟨rfl, rfl, rfl, by decide +kernel, rfl, by decide +kernel, by decide +kernel⟩
abbrev s_l_right : Stmt := topS 29
abbrev N_l_right : List Str := ["_law_web_here", "_law_rings_here", "_law_odd", "_law_ring", "_law_tie", "_law_found", "_law_place", "_law_sides", "_law_broken_here"]
theorem sc_l_right : FnScope N_l_right ["_law_web_here"] (defScope s_l_right) := ⟨rfl, rfl, rfl, by decide +kernel, rfl, by decide +kernel, by decide +kernel⟩
abbrev s_law : Stmt := topS 30
abbrev N_law : List Str := ["_law_script", "_law_deck_here", "_law_turn", "_law_web_here", "_law_kept"]
theorem sc_law : FnScope N_law ["_law_script"] (defScope s_law) := ⟨rfl, rfl, rfl, by decide +kernel, rfl, by decide +kernel, by decide +kernel⟩
/-! ### own rules: a list against [] -/
section
variable {X : Cx}
def rEqE (K : PySem.W.Frag) : R2 := fun x y H Q => ∃ (a b : Addr) (xs : List V), x = .ref a ∧ y = .ref b ∧ SqL K H a xs ∧ SqL K H b [] ∧ Q (.bl xs.isEmpty) H
def rNeE (K : PySem.W.Frag) : R2 := fun x y H Q => ∃ (a b : Addr) (xs : List V), x = .ref a ∧ y = .ref b ∧ SqL K H a xs ∧ SqL K H b [] ∧ Q (.bl (!xs.isEmpty)) H
theorem op_eqE (hu : X.A.units < cLine) : OpR X (compareOp .Eq) (rEqE X.K) := by
  intro pins s σ H x y v u Q I rx ry h
  obtain ⟨a, b, xs, rfl, rfl, ha, hb, q⟩ := h
  obtain rfl : v = Value.ref a := rx
  obtain rfl : u = Value.ref b := ry
  obtain ⟨its, r1, p1, _⟩ := I.list ha
  obtain ⟨its2, r2, p2, _⟩ := I.list hb
  cases r2
  cases xs with
  | nil =>
    cases r1
    exact SeqAt.eq_listAt (e := fun _ => true) p1.isList p2.isList rfl hu (fun j h1 _ => absurd h1 (by simp)) ⟨.bl true, H, I, rfl, q⟩
  | cons z zs =>
    cases r1 with
    | cons r t => exact SeqAt.eq_list_lengthsAt p1.isList p2.isList (by simp) hu ⟨.bl false, H, I, rfl, q⟩
theorem op_neE (hu : X.A.units < cLine) : OpR X (compareOp .NotEq) (rNeE X.K) := by
  intro pins s σ H x y v u Q I rx ry h
  obtain ⟨a, b, xs, rfl, rfl, ha, hb, q⟩ := h
  obtain rfl : v = Value.ref a := rx
  obtain rfl : u = Value.ref b := ry
  obtain ⟨its, r1, p1, _⟩ := I.list ha
  obtain ⟨its2, r2, p2, _⟩ := I.list hb
  cases r2
  cases xs with
  | nil =>
    cases r1
    exact SeqAt.RcNeAt.lists (e := fun _ => true) p1.isList p2.isList rfl hu (fun j h1 _ => absurd h1 (by simp)) _ _ _ _ ⟨.bl false, H, I, rfl, q⟩
  | cons z zs =>
    cases r1 with
    | cons r t => exact SeqAt.RcNeAt.lists_lengths p1.isList p2.isList (by simp) hu _ _ _ _ ⟨.bl true, H, I, rfl, q⟩
end
section
variable {P : Program} {w : World} {K : PySem.W.Frag} {mg : Str → Option Value} {base : Heap}
theorem at0 {α : Type} (x : α) (xs : List α) : atI (x :: xs) 0 = some x := atI_nat (j := 0) rfl
theorem ix0 (n : Nat) : ixN (n + 1) 0 = some 0 := by
  unfold ixN
  rw [if_pos (by decide), if_pos (by omega)]
  rfl
/-! ### a draw -/
theorem ok_l_draw {f : Addr} {fd : FuncData} (F : Fun K "_law_draw" "_law_draw" s_l_draw f fd) : FnOk P w K mg base CX0 1 f fd ["_law_deck_here", "_law_most"] spDraw := by
  refine F.ok sc_l_draw (fun vs H Q E h => ?_) (fun cdv A outer s H vs Q E hr h => ?_)
  · obtain ⟨d, c, m, rfl, _⟩ := h
    rfl
  · obtain ⟨d, c, m, rfl, hD, hm, hb, q⟩ := h
    have ndc := hD.ne
    obtain ⟨cells, st, n, hd, hc, hl⟩ := hD
    refine ⟨_, (pss_cons (ps_asg (pv 0) (pg_unl rfl (pgs_cons (pg_name (i := 2) sc_l_draw.nd rfl (.inl rfl)) (pgs_cons (pg_name (i := 3) sc_l_draw.nd rfl (.inl rfl)) pgs_nil))))
      (Evl.pss_cut (ps_if (PW.pt (pw_and (pt_cmpR (op_neE hr.units0) (pv 2) (pe_lst pa_nil) (nomark _)) (pw_and1 (pt_cmpR op_ge (pe_ix ix_list (pv 2) pe_int (fun _ _ => rfl)) (pe_op op_pow pe_int pe_int) (nomark _)))))
        (pss_cons (ps_set (i := 4) sc_l_draw.nd rfl (.inl rfl) (pe_op op_mod (pe_ix ix_list (pv 2) pe_int (fun _ _ => rfl)) (pv 1)))
        (pss_cons (ps_asg (pe_op op_fdivW (pe_ix ix_list (pv 2) pe_int (fun _ _ => rfl)) (pv 1)) (pg_sub (pv 2) pe_int set_list))
        (pss_one (ps_ret (pv 4)))))
        pss_nil)
      (Evl.pss_cut (ps_if (pt_cmpR (op_neE hr.units0) (pv 2) (pe_lst pa_nil) (nomark _))
        (pss_one (ps_set (i := 3) sc_l_draw.nd rfl (.inl rfl) (pe_op op_mod (pe_op op_add (pv 3) (pe_bm PySem.F.plainAttrs_list PySem.F.slot_list_pop PySem.F.type_list_pop mt_popAt (pv 2) (pa_cons pe_int pa_nil))) pe_int)))
        pss_nil)
      (Evl.pss_cut (ps_asg (pe_op op_mod (pe_op op_add (pe_op op_mul (pv 3) pe_int) pe_int) pe_int) (pg_sub (pv 0) pe_int set_list))
      (Evl.pss_cut (ps_set (i := 5) sc_l_draw.nd rfl (.inl rfl) (pe_op op_mod (pe_op op_add (pe_op op_add (pe_op op_mul (pe_ix ix_list (pv 0) pe_int (fun _ _ => rfl)) (pe_ix ix_list (pv 0) pe_int (fun _ _ => rfl))) (pe_op op_mul pe_int (pe_ix ix_list (pv 0) pe_int (fun _ _ => rfl)))) pe_int) pe_int))
      (pss_one (ps_ret (pe_op op_mod (pe_op op_fdiv (pe_op op_mod (pe_op op_mul (pv 5) pe_int) pe_int) pe_int) (pv 1))))))))), ?_⟩
    refine ⟨.ref d, rfl, d, _, rfl, SqL.of hd, rfl, _, _, rfl, _, _, rfl, rfl, ?_⟩
    -- a great cell, by its digits
    refine ⟨fun σ' H3 => σ' = [some (.ref d), some (.int m), some (.ref c), some (.int st), none, none] ∧ H3 d = some (.lst [.ref c, .int st]) ∧ H3 c = some (.lst (cells.map V.int)) ∧ Kp d c H H3, ?_, ?_⟩
    · refine ⟨.ref c, rfl, Nat.zero_le _, fun p np => ?_⟩
      have hd2 := same_new (o := .lst []) np _ _ hd
      have hc2 := same_new (o := .lst []) np _ _ hc
      have k2 : Kp d c H (upd H p (.lst [])) := Kp.new np
      refine ⟨c, p, _, rfl, rfl, SqL.of hc2, SqL.of upd_same, _, rfl, ?_⟩
      generalize upd H p (.lst []) = H2 at hd2 hc2 k2
      cases hcs : cells with
      | nil =>
        subst hcs
        exact ⟨rfl, hd2, hc2, k2⟩
      | cons x xs =>
        subst hcs
        refine ⟨.ref c, rfl, c, _, 0, .int x, rfl, rfl, SqL.of hc2, at0 _ _, 10, 18, rfl, rfl, ⟨by decide, by decide, by decide⟩, x, _, rfl, rfl, _, rfl, ?_⟩
        refine ite2 (fun _ => ?_) (fun _ => ?_)
        · refine ⟨.ref c, rfl, c, _, 0, .int x, rfl, rfl, SqL.of hc2, at0 _ _, .int m, rfl, x, m, rfl, rfl, hm, ?_⟩
          refine ⟨.ref c, rfl, c, _, 0, .int x, rfl, rfl, SqL.of hc2, at0 _ _, .int m, rfl, x, m, rfl, rfl, wide_div hm hb (by decide) (by decide), .ref c, rfl, c, _, 0, 0, rfl, rfl, hc2, ix0 _, ?_⟩
          refine ⟨.int (x % m), rfl, q _ _ (mod_rng hm).1 (mod_rng hm).2 ⟨(x / m) :: xs, st, 0, ?_, ?_, ?_⟩ (k2.trans Kp.at_c)⟩
          · rw [upd_ne ndc]
            exact hd2
          · rw [upd_same]
            rfl
          · simpa using hl
        · exact ⟨rfl, hd2, hc2, k2⟩
    clear hd hc
    rintro σ' H2 ⟨rfl, hd, hc, k2⟩
    -- the state
    refine ⟨fun σ' H3 => ∃ x : Int, σ' = [some (.ref d), some (.int m), some (.ref c), some (.int x), none, none] ∧ H3 d = some (.lst [.ref c, .int st]) ∧ (∃ cs : List Int, H3 c = some (.lst (cs.map V.int)) ∧ cs.length ≤ 63) ∧ Kp d c H H3, ?_, ?_⟩
    · refine ⟨.ref c, rfl, Nat.zero_le _, fun p np => ?_⟩
      have hd2 := same_new (o := .lst []) np _ _ hd
      have hc2 := same_new (o := .lst []) np _ _ hc
      have k3 : Kp d c H (upd H2 p (.lst [])) := k2.trans (Kp.new np)
      refine ⟨c, p, _, rfl, rfl, SqL.of hc2, SqL.of upd_same, _, rfl, ?_⟩
      generalize upd H2 p (.lst []) = H3 at hd2 hc2 k3
      cases hcs : cells with
      | nil =>
        subst hcs
        exact ⟨st, rfl, hd2, ⟨[], hc2, by simp⟩, k3⟩
      | cons x xs =>
        subst hcs
        refine ⟨.int st, rfl, .ref c, rfl, .inl ⟨rfl, _, SqL.of hc2⟩, c, _, 0, 0, .int x, rfl, rfl, hc2, by decide, by decide, seqIndex_of (by decide) (by simp), rfl, _, _, rfl, rfl, _, 2147483629, rfl, rfl, show (0 : Int) < 2147483629 by decide, ?_⟩
        refine ⟨_, rfl, ?_, ⟨xs, by rw [upd_same]; rfl, by simp at hl; omega⟩, k3.trans Kp.at_c⟩
        rw [upd_ne ndc]
        exact hd2
    rintro σ' H3 ⟨x, rfl, hd3, ⟨cs, hc3, hl3⟩, k3⟩
    refine ⟨fun σ' H4 => ∃ N : Int, σ' = [some (.ref d), some (.int m), some (.ref c), some (.int x), none, none] ∧ 0 ≤ N ∧ N < 2147483647 ∧ H4 d = some (.lst [.ref c, .int N]) ∧ H4 c = some (.lst (cs.map V.int)) ∧ Kp d c H H4, ?_, ?_⟩
    · refine ⟨.int x, rfl, x, 48271, rfl, rfl, .inr ⟨by decide, by decide⟩, _, 69621, rfl, rfl, _, 2147483647, rfl, rfl, show (0 : Int) < 2147483647 by decide, .ref d, rfl, d, _, 1, 1, rfl, rfl, hd3, rfl, ?_⟩
      refine ⟨(x * 48271 + 69621) % 2147483647, rfl, (mod_rng (by decide)).1, (mod_rng (by decide)).2, ?_, ?_, k3.trans Kp.at_d⟩
      · rw [upd_same]
        rfl
      · rw [upd_ne (Ne.symm ndc)]
        exact hc3
    rintro σ' H4 ⟨N, rfl, hN0, hN1, hd4, hc4, k4⟩
    refine ⟨fun σ' H5 => ∃ M : Int, σ' = [some (.ref d), some (.int m), some (.ref c), some (.int x), none, some (.int M)] ∧ 0 ≤ M ∧ M < 2147483629 ∧ H5 = H4, ?_, ?_⟩
    · exact ⟨.ref d, rfl, d, _, 1, .int N, rfl, rfl, SqL.of hd4, rfl, .ref d, rfl, d, _, 1, .int N, rfl, rfl, SqL.of hd4, rfl, N, N, rfl, rfl, .inl ⟨by omega, by omega⟩, .ref d, rfl, d, _, 1, .int N, rfl, rfl, SqL.of hd4, rfl, 16807, N, rfl, rfl, .inl ⟨by decide, by decide⟩, _, _, rfl, rfl, _, 7, rfl, rfl, _, 2147483629, rfl, rfl, show (0 : Int) < 2147483629 by decide, _, rfl, (mod_rng (by decide)).1, (mod_rng (by decide)).2, rfl⟩
    rintro σ' H5 ⟨M, rfl, hM0, hM1, rfl⟩
    refine ⟨.int M, rfl, M, 39373, rfl, rfl, .inr ⟨by decide, by decide⟩, _, 2147483563, rfl, rfl, show (0 : Int) < 2147483563 by decide, _, 8, rfl, rfl, ⟨by decide, by decide⟩, .int m, rfl, _, m, rfl, rfl, hm, ?_⟩
    exact q _ _ (mod_rng hm).1 (mod_rng hm).2 ⟨cs, N, 0, hd4, hc4, hl3⟩ k4
/-! ### the deck is laid -/
theorem cutV_ints (ns : List Int) (lo hi : Option Int) : ∃ ms : List Int, cutV (ns.map V.int) lo hi = ms.map V.int ∧ ms.length ≤ ns.length := by
  refine ⟨(ns.drop (HT.sIx ns.length 0 lo)).take (HT.sIx ns.length ns.length hi - HT.sIx ns.length 0 lo), ?_, ?_⟩
  · unfold cutV
    rw [List.length_map, List.map_take, List.map_drop]
  · rw [List.length_take, List.length_drop]
    omega
def spDeck (K : PySem.W.Frag) : Sp := fun vs H Q _ => ∃ (a : Addr) (ns : List Int), vs = [.ref a] ∧ SqL K H a (ns.map V.int) ∧ ns.length ≤ 63 ∧
  ∀ d c H', Same H H' → H d = none → H c = none → Deck H' d c → Q (.ref d) H'
theorem ok_l_deck {f : Addr} {fd : FuncData} (F : Fun K "_law_deck" "_law_deck" s_l_deck f fd) (M : Free mg) : FnOk P w K mg base CX0 1 f fd ["_law_script"] (spDeck K) := by
  refine F.ok sc_l_deck (fun vs H Q E h => ?_) (fun cdv A outer s H vs Q E hr h => ?_)
  · obtain ⟨a, ns, rfl, _⟩ := h
    rfl
  · obtain ⟨a, ns, rfl, hS, hl, q⟩ := h
    refine ⟨_, (pss_cons (ps_set (i := 1) sc_l_deck.nd rfl (.inl rfl) (pe_lst (pa_cons (pe_callTy call_list_of (by rfl) M.list (by decide +kernel) (pa_cons (pe_slice sl_list (pv 0) po_none (po_some pe_int)) pa_nil)) (pa_cons (pe_op op_add pe_int (pe_op op_mod (pe_callB (cr_sum rfl) (by rfl) M.sum (by decide +kernel) (pa_cons (pe_slice sl_list (pv 0) po_none (po_some pe_int)) pa_nil)) pe_int)) pa_nil))))
      (pss_cons (ps_for PassesOwn.never rfl (pi_range1 (by rfl) M.range (pa_cons pe_int pa_nil)) (pg_name (i := 2) sc_l_deck.nd rfl (.inl rfl))
        (pss_one (ps_asg (pe_op op_mod (pe_op op_add (pe_op op_mul (pe_ix ix_list (pv 1) pe_int (fun _ _ => rfl)) pe_int) pe_int) pe_int) (pg_sub (pv 1) pe_int set_list))))
      (pss_one (ps_ret (pv 1))))), ?_⟩
    obtain ⟨ms, em, lm⟩ := cutV_ints ns none (some 63)
    refine ⟨.ref a, rfl, 63, rfl, a, _, rfl, hS, fun p1 n1 => ⟨p1, _, rfl, .inl (SqL.of upd_same), fun p2 n2 => ?_⟩⟩
    rw [em] at n2 ⊢
    have s1 : Same H (upd H p1 (.lst (ms.map V.int))) := same_new n1
    have s2 := s1.trans (same_new (o := .lst (ms.map V.int)) n2)
    have h2 : (upd (upd H p1 (.lst (ms.map V.int))) p2 (.lst (ms.map V.int))) p2 = some (.lst (ms.map V.int)) := upd_same
    have f2 : H p2 = none := s1.free n2
    generalize upd (upd H p1 (.lst (ms.map V.int))) p2 (.lst (ms.map V.int)) = H2 at s2 h2
    refine ⟨.ref a, rfl, 63, rfl, a, _, rfl, s2.seq hS, fun p4 n4 => ⟨p4, ms, rfl, SqL.of (by rw [upd_same, em]), _, 2147483629, rfl, rfl, show (0 : Int) < 2147483629 by decide, 48271, _, rfl, rfl, (by show 2 ≤ sizeLine; decide), fun d nd => ?_⟩⟩
    have s4 := s2.trans (same_new (o := .lst (cutV (ns.map V.int) none (some 63))) n4)
    have h4 := same_new (o := .lst (cutV (ns.map V.int) none (some 63))) n4 _ _ h2
    have ndH : H d = none := s4.free nd
    have hp2d : p2 ≠ d := ne_of_none h4 nd
    refine ⟨2, rfl, by decide, by decide, ?_⟩
    refine for_range (lo := 0) (n := 2) (fun i σ' H' => ∃ (y2 : Option V) (st : Int), σ' = [some (.ref a), some (.ref d), y2] ∧ H' d = some (.lst [.ref p2, .int st]) ∧ H' p2 = some (.lst (ms.map V.int)) ∧ Same H H') ?_ ?_ ?_
    · exact ⟨none, _, rfl, upd_same, by rw [upd_ne hp2d]; exact h4, s4.trans (same_new nd)⟩
    · rintro i σ' H5 hi ⟨y2, st, rfl, hd5, h5, s5⟩
      refine ⟨.ref d, rfl, d, _, 1, .int st, rfl, rfl, SqL.of hd5, rfl, st, 48271, rfl, rfl, .inr ⟨by decide, by decide⟩, _, 69621, rfl, rfl, _, 2147483647, rfl, rfl, show (0 : Int) < 2147483647 by decide, .ref d, rfl, d, _, 1, 1, rfl, rfl, hd5, rfl, ?_⟩
      refine ⟨_, _, rfl, by rw [upd_same]; rfl, by rw [upd_ne hp2d]; exact h5, fun b o e => ?_⟩
      rw [upd_ne (ne_of_none e ndH)]
      exact s5 b o e
    · rintro σ' H5 ⟨y2, st, rfl, hd5, h5, s5⟩
      exact ⟨.ref d, rfl, q d p2 H5 s5 ndH f2 ⟨ms, st, 0, hd5, h5, by omega⟩⟩
/-! ### webs -/
structure Tie where
  one : Int
  other : Int
  foe : Bool
def kindS : Bool → Str
  | true => "foe"
  | false => "friend"
def TieV (H : Hp) (v : V) (t : Tie) : Prop := ∃ a, v = .ref a ∧ H a = some (.tup [.int t.one, .int t.other, .str (kindS t.foe)])
def TieOk (n : Int) (t : Tie) : Prop := 0 ≤ t.one ∧ t.one < n ∧ 0 ≤ t.other ∧ t.other < n ∧ t.one ≠ t.other
def WebAt (H : Hp) (v : V) (n : Int) (ts : List Tie) : Prop := ∃ a b vs, v = .ref a ∧ H a = some (.tup [.int n, .ref b]) ∧ H b = some (.tup vs) ∧ Paired (TieV H) vs ts
structure WebOk (n : Int) (ts : List Tie) : Prop where
  lo : 1 ≤ n
  hi : n ≤ 40
  few : ts.length ≤ 120
  ok : ∀ t ∈ ts, TieOk n t
/-- tuples stay -/
def Tk (H H' : Hp) : Prop := ∀ b xs, H b = some (.tup xs) → H' b = some (.tup xs)
theorem Tk.trans {H H1 H2 : Hp} (a : Tk H H1) (b : Tk H1 H2) : Tk H H2 := fun x xs h => b x xs (a x xs h)
theorem Same.tk {H H' : Hp} (s : Same H H') : Tk H H' := fun b xs h => s b _ h
theorem tk_lst {H : Hp} {l : Addr} {xs ys : List V} (h : H l = some (.lst xs)) : Tk H (upd H l (.lst ys)) := fun b zs e => by
  rw [upd_ne (ne_of e h (by intro z; cases z))]
  exact e
theorem TieV.tk {H H' : Hp} (k : Tk H H') {v : V} {t : Tie} (h : TieV H v t) : TieV H' v t := by
  obtain ⟨a, rfl, e⟩ := h
  exact ⟨a, rfl, k _ _ e⟩
theorem ties_tk {H H' : Hp} (k : Tk H H') {vs : List V} {ts : List Tie} (h : Paired (TieV H) vs ts) : Paired (TieV H') vs ts := Paired.mono (fun _ _ x => x.tk k) h
theorem WebAt.tk {H H' : Hp} (k : Tk H H') {v : V} {n : Int} {ts : List Tie} (h : WebAt H v n ts) : WebAt H' v n ts := by
  obtain ⟨a, b, vs, rfl, h1, h2, h3⟩ := h
  exact ⟨a, b, vs, rfl, k _ _ h1, k _ _ h2, ties_tk k h3⟩
theorem Kp.tk {d c : Addr} {H H' : Hp} (k : Kp d c H H') (D : Deck H d c) : Tk H H' := fun b xs e => by
  obtain ⟨cells, st, n, h1, h2, _⟩ := D
  exact k b _ (ne_of e h1 (by intro z; cases z)) (ne_of e h2 (by intro z; cases z)) e
theorem Kp.mut {d c l : Addr} {H H' : Hp} {o : HO} (k : Kp d c H H') (h : H l = none) : Kp d c H (upd H' l o) := fun b u h1 h2 e => by
  rw [upd_ne (ne_of_none e h)]
  exact k b u h1 h2 e
theorem Deck.mut {H : Hp} {d c l : Addr} {o : HO} (D : Deck H d c) (h1 : l ≠ d) (h2 : l ≠ c) : Deck (upd H l o) d c := by
  obtain ⟨cells, st, n, e1, e2, e3⟩ := D
  exact ⟨cells, st, n, by rw [upd_ne (Ne.symm h1)]; exact e1, by rw [upd_ne (Ne.symm h2)]; exact e2, e3⟩
theorem Deck.new {H : Hp} {d c l : Addr} {o : HO} (D : Deck H d c) (h : H l = none) : Deck (upd H l o) d c := D.same (same_new h)
theorem Deck.ned {H : Hp} {d c l : Addr} (D : Deck H d c) (h : H l = none) : l ≠ d ∧ l ≠ c := by
  obtain ⟨cells, st, n, e1, e2, e3⟩ := D
  exact ⟨(ne_of_none e1 h).symm, (ne_of_none e2 h).symm⟩
theorem Paired.at {α β : Type} {F : α → β → Prop} : ∀ {l : List α} {m : List β} {i : Nat} {a : α}, Paired F l m → l[i]? = some a → ∃ b, m[i]? = some b ∧ F a b
  | _, _, _, _, .nil, e => by simp at e
  | _, _, 0, _, .cons r _, e => by simp at e; subst e; exact ⟨_, rfl, r⟩
  | _, _, i + 1, a, .cons _ t, e => by
    obtain ⟨u, h1, h2⟩ := Paired.at (i := i) (a := a) t (by simpa using e)
    exact ⟨u, by simpa using h1, h2⟩
theorem Paired.at' {α β : Type} {F : α → β → Prop} : ∀ {l : List α} {m : List β} {i : Nat} {b : β}, Paired F l m → m[i]? = some b → ∃ a, l[i]? = some a ∧ F a b
  | _, _, _, _, .nil, e => by simp at e
  | _, _, 0, _, .cons r _, e => by simp at e; subst e; exact ⟨_, rfl, r⟩
  | _, _, i + 1, b, .cons _ t, e => by
    obtain ⟨u, h1, h2⟩ := Paired.at' (i := i) (b := b) t (by simpa using e)
    exact ⟨u, by simpa using h1, h2⟩
theorem getI {α : Type} {xs : List α} {i : Int} (h0 : 0 ≤ i) (h1 : i < (xs.length : Int)) : ∃ v, atI xs i = some v ∧ xs[i.toNat]? = some v := by
  obtain ⟨j, rfl⟩ : ∃ j : Nat, i = (j : Int) := ⟨i.toNat, by omega⟩
  have h2 : j < xs.length := by omega
  exact ⟨xs[j], atI_nat (List.getElem?_eq_getElem h2), by rw [Int.toNat_natCast]; exact List.getElem?_eq_getElem h2⟩
theorem other_ne {n a b : Int} (h0 : 0 ≤ a) (h1 : a < n) (g0 : 0 ≤ b) (g1 : b < n - 1) : a ≠ (a + 1 + b) % n := by
  by_cases h : a + 1 + b < n
  · rw [Int.emod_eq_of_lt (by omega) h]
    omega
  · have e : a + 1 + b = (a + 1 + b - n) + 1 * n := by omega
    rw [e, Int.add_mul_emod_self_right, Int.emod_eq_of_lt (by omega) (by omega)]
    omega
theorem pick2 {α : Type} (a b : α) (k : Bool) : atI [a, b] (if k then 1 else 0) = some (if k then b else a) := by
  cases k <;> rfl
def spWeb : Sp := fun vs H Q _ => ∃ (d c : Addr), vs = [.ref d] ∧ Deck H d c ∧
  ∀ v n ts H', WebAt H' v n ts → WebOk n ts → Deck H' d c → Kp d c H H' → Q v H'
end
/-! ### tuples cut and put together -/
section
variable {X : Cx}
theorem cutV_whole {xs : List V} {lo hi : Option Int} (h : HT.sIx xs.length 0 lo = 0 ∧ HT.sIx xs.length xs.length hi = xs.length) : cutV xs lo hi = xs := by
  unfold cutV
  rw [h.1, h.2]
  simp
def rSlU : V → Option Int → Option Int → Hp → VK → Prop := fun x lo hi H Q => ∃ a xs, x = .ref a ∧ H a = some (.tup xs) ∧ ∀ r H', Same H H' → H' r = some (.tup (cutV xs lo hi)) → Q (.ref r) H'
theorem sl_tupU : SlR X rSlU := by
  intro pins s σ H x v vl vu lo hi sl Q I rx hs pl pu h
  obtain ⟨a, xs, rfl, hx, q⟩ := h
  refine sl_tupA pins s σ H _ v vl vu lo hi sl Q I rx hs pl pu ⟨a, xs, rfl, SqT.of hx, fun hw => ?_, fun _ p np => ?_⟩
  · exact q a H (Same.refl H) (by rw [cutV_whole hw]; exact hx)
  · exact q p _ (same_new np) upd_same
def rCatU : R2 := fun x y H Q => ∃ a b xs ys, x = .ref a ∧ y = .ref b ∧ H a = some (.tup xs) ∧ H b = some (.tup ys) ∧ xs.length + ys.length ≤ 100000 ∧ ∀ r H', Same H H' → H' r = some (.tup (xs ++ ys)) → Q (.ref r) H'
theorem op_catU : OpR X (binaryOp .Add) rCatU := by
  intro pins s σ H x y v u Q I rx ry h
  obtain ⟨a, b, xs, ys, rfl, rfl, ha, hb, hz, q⟩ := h
  refine op_catA pins s σ H _ _ v u Q I rx ry ⟨a, b, xs, ys, rfl, rfl, SqT.of ha, SqT.of hb, Evl.sz_of hz, fun e => ?_, fun _ e => ?_, fun _ _ p np => ?_⟩
  · subst e
    exact q b H (Same.refl H) hb
  · subst e
    exact q a H (Same.refl H) (by rw [List.append_nil]; exact ha)
  · exact q p _ (same_new np) upd_same
end
/-! ### things of any kind -/
/-- its kind is known -/
def Kn (H : Hp) : V → Prop
  | .non => True
  | .bl _ => True
  | .int _ => True
  | .str _ => True
  | .ref a => (∃ xs, H a = some (.lst xs)) ∨ (∃ xs, H a = some (.tup xs)) ∨ ∃ kvs, H a = some (.dK kvs)
  | _ => False
def isI : V → Bool
  | .int _ => true
  | .bl _ => true
  | _ => false
def isB : V → Bool
  | .bl _ => true
  | _ => false
def isW : V → Bool
  | .int _ => true
  | _ => false
def isT (H : Hp) : V → Bool
  | .ref a => match H a with
    | some (.tup _) => true
    | _ => false
  | _ => false
section
variable {K : PySem.W.Frag} {H : Hp}
theorem kn_int {v : V} (h : Kn H v) : ∃ t, TyX K H v t ∧ PySem.W.kitOne K t (.type "int") = some (isI v) := by
  cases v with
  | non => exact ⟨_, .base .non, kit_ty (r := false) (by decide +kernel)⟩
  | bl b => exact ⟨_, .base (.bl b), kit_ty (r := true) (by decide +kernel)⟩
  | int i => exact ⟨_, .base (.int i), kit_ty (r := true) (by decide +kernel)⟩
  | str x => exact ⟨_, .base (.str x), kit_ty (r := false) (by decide +kernel)⟩
  | ref a =>
    rcases h with ⟨xs, h⟩ | ⟨xs, h⟩ | ⟨xs, h⟩
    · exact ⟨_, .base (.lst h), kit_ty (r := false) (by decide +kernel)⟩
    · exact ⟨_, .base (.tup h), kit_ty (r := false) (by decide +kernel)⟩
    · exact ⟨_, .base (.dK h), kit_ty (r := false) (by decide +kernel)⟩
  | byt b => exact h.elim
  | flt b => exact h.elim
  | ty n => exact h.elim
theorem kn_bool {v : V} (h : Kn H v) : ∃ t, TyX K H v t ∧ PySem.W.kitOne K t (.type "bool") = some (isB v) := by
  cases v with
  | non => exact ⟨_, .base .non, kit_ty (r := false) (by decide +kernel)⟩
  | bl b => exact ⟨_, .base (.bl b), kit_ty (r := true) (by decide +kernel)⟩
  | int i => exact ⟨_, .base (.int i), kit_ty (r := false) (by decide +kernel)⟩
  | str x => exact ⟨_, .base (.str x), kit_ty (r := false) (by decide +kernel)⟩
  | ref a =>
    rcases h with ⟨xs, h⟩ | ⟨xs, h⟩ | ⟨xs, h⟩
    · exact ⟨_, .base (.lst h), kit_ty (r := false) (by decide +kernel)⟩
    · exact ⟨_, .base (.tup h), kit_ty (r := false) (by decide +kernel)⟩
    · exact ⟨_, .base (.dK h), kit_ty (r := false) (by decide +kernel)⟩
  | byt b => exact h.elim
  | flt b => exact h.elim
  | ty n => exact h.elim
theorem kn_tup {v : V} (h : Kn H v) : ∃ t, TyX K H v t ∧ PySem.W.kitOne K t (.type "tuple") = some (isT H v) := by
  cases v with
  | non => exact ⟨_, .base .non, kit_ty (r := false) (by decide +kernel)⟩
  | bl b => exact ⟨_, .base (.bl b), kit_ty (r := false) (by decide +kernel)⟩
  | int i => exact ⟨_, .base (.int i), kit_ty (r := false) (by decide +kernel)⟩
  | str x => exact ⟨_, .base (.str x), kit_ty (r := false) (by decide +kernel)⟩
  | ref a =>
    unfold isT
    rcases h with ⟨xs, h⟩ | ⟨xs, h⟩ | ⟨xs, h⟩
    · exact ⟨_, .base (.lst h), by simp only [h]; exact kit_ty (r := false) (by decide +kernel)⟩
    · exact ⟨_, .base (.tup h), by simp only [h]; exact kit_ty (r := true) (by decide +kernel)⟩
    · exact ⟨_, .base (.dK h), by simp only [h]; exact kit_ty (r := false) (by decide +kernel)⟩
  | byt b => exact h.elim
  | flt b => exact h.elim
  | ty n => exact h.elim
theorem isT_at {v : V} (h : isT H v = true) : ∃ a xs, v = .ref a ∧ H a = some (.tup xs) := by
  cases v with
  | ref a =>
    unfold isT at h
    cases e : H a with
    | none => simp only [e] at h; cases h
    | some o =>
      cases o with
      | tup xs => exact ⟨a, xs, rfl, e⟩
      | _ => simp only [e] at h; cases h
  | _ => cases h
theorem isT_of {a : Addr} {xs : List V} (h : H a = some (.tup xs)) : isT H (.ref a) = true := by
  unfold isT
  simp only [h]
end
section
variable {P : Program} {w : World} {K : PySem.W.Frag} {mg : Str → Option Value} {base : Heap}
def spWhole : Sp := fun vs H Q _ => ∃ v, vs = [v] ∧ Kn H v ∧ Q (.bl (isW v)) H
theorem and_whole {v : V} : (isI v && !isB v) = isW v := by cases v <;> rfl
theorem ok_is_whole {f : Addr} {fd : FuncData} (F : Fun K "is_whole" "is_whole" s_is_whole f fd) (M : Free mg) : FnOk P w K mg base CX0 1 f fd ["thing"] spWhole := by
  refine F.ok sc_is_whole (fun vs H Q E h => ?_) (fun cdv A outer s H vs Q E hr h => ?_)
  · obtain ⟨v, rfl, _⟩ := h
    rfl
  · obtain ⟨v, rfl, hk, q⟩ := h
    refine ⟨_, (pss_one (ps_ret (pe_and (pe_callB call_isi (by rfl) M.isinstance (by decide +kernel) (pa_cons (pv 0) (pa_cons (pe_bltn (v := .ty "int") (by rfl) M.int (by decide +kernel) rfl) pa_nil))) (pe_one (pe_not (pe_callB call_isi (by rfl) M.isinstance (by decide +kernel) (pa_cons (pv 0) (pa_cons (pe_bltn (v := .ty "bool") (by rfl) M.bool (by decide +kernel) rfl) pa_nil)))))))), ?_⟩
    obtain ⟨t1, h1, e1⟩ := kn_int (K := K) hk
    obtain ⟨t2, h2, e2⟩ := kn_bool (K := K) hk
    refine ⟨v, rfl, v, _, t1, _, _, rfl, .ty "int", h1, e1, _, rfl, ?_⟩
    rw [← and_whole] at q
    cases hi : isI v with
    | false =>
      rw [hi] at q
      exact q
    | true =>
      rw [hi] at q
      exact ⟨v, rfl, v, _, t2, _, _, rfl, .ty "bool", h2, e2, _, rfl, q⟩
def wfrom (lo : Int) : V → Bool
  | .int i => decide (lo ≤ i)
  | _ => false
def parts (H : Hp) : V → Option (List V)
  | .ref a => match H a with
    | some (.tup xs) => some xs
    | _ => none
  | _ => none
theorem parts_of' {H : Hp} {a : Addr} {xs : List V} (h : H a = some (.tup xs)) : parts H (.ref a) = some xs := by
  unfold parts
  simp only [h]
theorem parts_none {H : Hp} {v : V} (h : isT H v = false) : parts H v = none := by
  cases v with
  | ref a =>
    unfold isT at h
    unfold parts
    cases e : H a with
    | none => simp only [e]
    | some o =>
      cases o with
      | tup xs => simp only [e] at h; cases h
      | _ => simp only [e]
  | _ => rfl
def lenIs (H : Hp) (v : V) (n : Int) : Bool := match parts H v with
  | some xs => decide ((xs.length : Int) = n)
  | none => false
def spTupleOf : Sp := fun vs H Q _ => ∃ n v, vs = [.int n, v] ∧ Kn H v ∧ Q (.bl (lenIs H v n)) H
theorem dec_int (a b : Int) : decide (V.int a = V.int b) = decide (a = b) := by
  by_cases h : a = b
  · rw [decide_eq_true h, h, decide_eq_true rfl]
  · rw [decide_eq_false h, decide_eq_false (fun z => h (V.int.inj z))]
theorem ok_is_tuple_of {f : Addr} {fd : FuncData} (F : Fun K "is_tuple_of" "is_tuple_of" s_is_tuple_of f fd) (M : Free mg) : FnOk P w K mg base CX0 1 f fd ["length", "thing"] spTupleOf := by
  refine F.ok sc_is_tuple_of (fun vs H Q E h => ?_) (fun cdv A outer s H vs Q E hr h => ?_)
  · obtain ⟨n, v, rfl, _⟩ := h
    rfl
  · obtain ⟨n, v, rfl, hk, q⟩ := h
    refine ⟨_, (pss_one (ps_ret (pe_and (pe_callB call_isi (by rfl) M.isinstance (by decide +kernel) (pa_cons (pv 1) (pa_cons (pe_bltn (v := .ty "tuple") (by rfl) M.tuple (by decide +kernel) rfl) pa_nil))) (pe_one (pe_cmpR op_eq (pe_callB call_len_seq (by rfl) M.len PySem.boot_len (pa_cons (pv 1) pa_nil)) (pv 0) (nomark _)))))), ?_⟩
    obtain ⟨t1, h1, e1⟩ := kn_tup (K := K) hk
    refine ⟨v, rfl, v, _, t1, _, _, rfl, .ty "tuple", h1, e1, _, rfl, ?_⟩
    unfold lenIs at q
    cases hi : isT H v with
    | false =>
      rw [parts_none hi] at q
      exact q
    | true =>
      obtain ⟨a, xs, rfl, e⟩ := isT_at hi
      rw [parts_of' e] at q
      refine ⟨.ref a, rfl, a, xs, rfl, .inr (SqT.of e), .int n, rfl, rfl, ?_⟩
      rw [dec_int]
      exact q
/-! ### a def whose code object stands at c: its own table is at Pt -/
structure FunC (K : PySem.W.Frag) (x qual : Str) (st : Stmt) (f : Addr) (fd : FuncData) (c : Addr) : Prop where
  ex : ∃ (oc : Value) (od : Option Addr) (kV doc pm : Value) (an : Option Addr) (ct : Value) (osl : Array (Option Value)),
    fd = PySem.W.fnOf x qual (defArgs st) (defBody st) (defScope st) .none kV doc pm an (.ref c) ct ∧ K.lookup f = some ⟨oc, od, .func fd, osl⟩ ∧ PySem.W.codeIn K (.ref c) qual = true
  kp : PySem.W.keepIn K (.ref f) = true
theorem FunC.ok {x qual : Str} {st : Stmt} {f c : Addr} {fd : FuncData} {N ps : List Str} {k : Nat} {sp : Sp} (F : FunC K x qual st f fd c) (S : FnScope N ps (defScope st)) (len : ∀ vs H Q E, sp vs H Q E → vs.length = ps.length)
    (hbody : ∀ (A : Around) (outer : List Env) (s : Shared) (H : Hp) (vs : List V) (Q : VK) (E : XK), Room k (A.deeper (envOfC qual (defScope st) s.heap.objs.size f (.ref c))) → sp vs H Q E →
      ∃ t, PSs (cxOf CX0 P w K mg base N qual (defScope st) f (.ref c) A outer s H E).nox (defBody st) t ∧ t { nx := fun _ H' => Q .non H', rt := Q } (start N vs) H) : FnOk P w K mg base CX0 (k + 1) f fd ps sp := by
  obtain ⟨oc, od, kV, doc, pm, an, ct, osl, rfl, lk, hcd⟩ := F.ex
  refine fn_of lk hcd S len fun A outer s H vs Q E hr hsp => ?_
  obtain ⟨t, h, q⟩ := hbody A outer s H vs Q E hr hsp
  exact ⟨t, h.nox, q⟩
theorem FunC.fn {x qual : Str} {st : Stmt} {f c : Addr} {fd : FuncData} (F : FunC K x qual st f fd c) : Fun K x qual st f fd := by
  obtain ⟨oc, od, kV, doc, pm, an, ct, osl, rfl, lk, hcd⟩ := F.ex
  exact ⟨⟨oc, od, kV, doc, pm, an, _, ct, osl, rfl, lk, hcd⟩, F.kp⟩
theorem parts_at {H : Hp} {v : V} {xs : List V} (h : parts H v = some xs) : ∃ a, v = .ref a ∧ H a = some (.tup xs) := by
  cases v with
  | ref a =>
    unfold parts at h
    cases e : H a with
    | none => simp only [e] at h; cases h
    | some o =>
      cases o with
      | tup ys => simp only [e] at h; cases h; exact ⟨a, rfl, e⟩
      | _ => simp only [e] at h; cases h
  | _ => cases h
end
/-! ### all but the tables is kept -/
structure Kt (Ps : List Addr) (H H' : Hp) : Prop where
  tab : ∀ P ∈ Ps, GxR.TabG H' P
  keep : ∀ b o, b ∉ Ps → H b = some o → H' b = some o
def Tabs (Ps : List Addr) (H : Hp) : Prop := ∀ P ∈ Ps, GxR.TabG H P
theorem Kt.refl {Ps : List Addr} {H : Hp} (h : Tabs Ps H) : Kt Ps H H := ⟨h, fun _ _ _ e => e⟩
theorem Kt.trans {Ps : List Addr} {H H1 H2 : Hp} (a : Kt Ps H H1) (b : Kt Ps H1 H2) : Kt Ps H H2 := ⟨b.tab, fun x o h e => b.keep x o h (a.keep x o h e)⟩
theorem Kt.same {Ps : List Addr} {H H' : Hp} (h : Tabs Ps H) (s : Same H H') : Kt Ps H H' := ⟨fun P hP => by obtain ⟨ps, e, t⟩ := h P hP; exact ⟨ps, s _ _ e, t⟩, fun b o _ e => s b o e⟩
theorem Kt.tabbed {Ps : List Addr} {P : Addr} {H H' : Hp} (h : Tabs Ps H) (hP : P ∈ Ps) (t : GxR.Tabbed P H H') : Kt Ps H H' := by
  refine ⟨fun Q hQ => ?_, fun b o hb e => ?_⟩
  · by_cases e : Q = P
    · rw [e]
      exact t.1
    · obtain ⟨ps, e1, t1⟩ := h Q hQ
      exact ⟨ps, by rw [t.2 Q e]; exact e1, t1⟩
  · rw [t.2 b (fun z => hb (by rw [z]; exact hP))]
    exact e
theorem Tabs.out {Ps : List Addr} {H : Hp} {a : Addr} {o : HO} (t : Tabs Ps H) (h : H a = some o) (no : ∀ ps, o ≠ .tbl ps) : a ∉ Ps := fun z => by
  obtain ⟨ps, e, _⟩ := t a z
  rw [e] at h
  cases h
  exact no _ rfl
theorem Kt.tup {Ps : List Addr} {a : Addr} {H H' : Hp} {xs : List V} (k : Kt Ps H H') (t : Tabs Ps H) (h : H a = some (.tup xs)) : H' a = some (.tup xs) := k.keep a _ (t.out h fun _ z => by cases z) h
theorem Kt.lst {Ps : List Addr} {a : Addr} {H H' : Hp} {xs : List V} (k : Kt Ps H H') (t : Tabs Ps H) (h : H a = some (.lst xs)) : H' a = some (.lst xs) := k.keep a _ (t.out h fun _ z => by cases z) h
theorem Kt.dct {Ps : List Addr} {a : Addr} {H H' : Hp} {xs : List (Key × V)} (k : Kt Ps H H') (t : Tabs Ps H) (h : H a = some (.dK xs)) : H' a = some (.dK xs) := k.keep a _ (t.out h fun _ z => by cases z) h
theorem Kt.tk {Ps : List Addr} {H H' : Hp} (k : Kt Ps H H') (t : Tabs Ps H) : Tk H H' := fun _ _ e => k.tup t e
theorem Kt.kn {Ps : List Addr} {H H' : Hp} (k : Kt Ps H H') (t : Tabs Ps H) {v : V} (h : Kn H v) : Kn H' v := by
  cases v with
  | ref a =>
    rcases h with ⟨xs, h⟩ | ⟨xs, h⟩ | ⟨xs, h⟩
    · exact .inl ⟨xs, k.lst t h⟩
    · exact .inr (.inl ⟨xs, k.tup t h⟩)
    · exact .inr (.inr ⟨xs, k.dct t h⟩)
  | _ => exact h
theorem Kt.deck {Ps : List Addr} {d c : Addr} {H H' : Hp} (k : Kt Ps H H') (t : Tabs Ps H) (D : Deck H d c) : Deck H' d c := by
  obtain ⟨cells, st, n, e1, e2, e3⟩ := D
  exact ⟨cells, st, n, k.lst t e1, k.lst t e2, e3⟩
/-! ### x in t of data of any depth -/
def rInT (K : PySem.W.Frag) : R2 := fun x y H Q => ∃ d ds, Dp K H x d ∧ Dp K H y (.tuple ds) ∧ SeqAt.shaped d = true ∧ SeqAt.shaped (.tuple ds) = true ∧ Q (.bl (ds.any fun z => PyData.eqv z d)) H
theorem op_inTup {X : Cx} (hu : X.A.units + 65 < cLine) : OpR X (compareOp .In) (rInT X.K) := by
  intro pins s σ H x y v u Q I rx ry want
  obtain ⟨d, ds, hd, he, sd, se, q⟩ := want
  obtain ⟨as, r1⟩ := Dp.reads I d x v hd rx
  obtain ⟨bs, r2⟩ := Dp.reads I (.tuple ds) y u he ry
  have lay : PyData.canLayAll0 ds = true := by
    have z := SeqAt.canLay_of_shaped se
    rw [PyData.canLay0] at z
    exact z
  have deep := SeqAt.depth_of_shaped sd
  exact SeqAt.in_tuple_reads r2 r1 lay (SeqAt.canLay_of_shaped sd) (by omega) ⟨.bl _, H, I, rfl, q⟩
/-! ### defs below which no repr is under way: repr has a reading there -/
section
variable {P : Program} {w : World} {K : PySem.W.Frag} {mg : Str → Option Value} {base : Heap}
structure FnG (P : Program) (w : World) (K : PySem.W.Frag) (mg : Str → Option Value) (base : Heap) (k : Nat) (f : Addr) (fd : FuncData) (ps : List Str) (sp : Sp) : Prop where
  cnt : ∀ vs H Q E, sp vs H Q E → vs.length = ps.length
  go : ∀ (B : PySem.Around) (out : List Env) (z : Shared) (H : Hp) (ar : Args) (us : List Value) (vs : List V) (Q : VK) (E : XK), B.guards = some [] → Room k B → Env0 P w K mg base B out z H → BindsTo z fd ar (ps.zip us) → Vals vs us → sp vs H Q E → codeAny (model P w) B (.call (.ref f) ar) (CR CX0 out P w H z Q E) z
theorem FnG.of {k : Nat} {f : Addr} {fd : FuncData} {ps : List Str} {sp : Sp} (F : FnOk P w K mg base CX0 k f fd ps sp) : FnG P w K mg base k f fd ps sp :=
  ⟨F.len, fun B out z H ar us vs Q E _ => F.run B out z H ar us vs Q E⟩
/-- a def of the text, by its body -/
theorem okG {x qual : Str} {st : Stmt} {f : Addr} {fd : FuncData} {N ps : List Str} {k : Nat} {sp : Sp} (F : Fun K x qual st f fd) (S : FnScope N ps (defScope st)) (cnt : ∀ vs H Q E, sp vs H Q E → vs.length = ps.length)
    (hb : ∀ (cd : Value) (B : PySem.Around) (out : List Env) (z : Shared) (H : Hp) (vs : List V) (Q : VK) (E : XK), (B.deeper (envOfC qual (defScope st) z.heap.objs.size f cd)).guards = some [] → Room k (B.deeper (envOfC qual (defScope st) z.heap.objs.size f cd)) → sp vs H Q E →
      ∃ t, PSs (cxOf CX0 P w K mg base N qual (defScope st) f cd B out z H E).nox (defBody st) t ∧ t { nx := fun _ H' => Q .non H', rt := Q } (start N vs) H) : FnG P w K mg base (k + 1) f fd ps sp := by
  obtain ⟨o1, o2, o3, o4, o5, o6, cd, o8, o9, rfl, look, code⟩ := F.ex
  refine ⟨cnt, fun B out z H ar us vs Q E hg room e0 bind rel want => ?_⟩
  have kept : ∀ b o, base.get? b = some o → z.heap.get? b = some o := fun b o e => (e0.bs b o e).1
  have KZ : K.In z.heap := e0.mod.kin.keeps kept
  refine codeAny_call_function room.depth (KZ _ _ look) rfl S.co S.gen rfl (PySem.W.codeRec_of KZ code) (bind _ _ _ _ ?_)
  refine wpAny_newFunctionEnv_cells S.kind (fun y hy => (S.par y.1 (List.of_mem_zip hy).1).imp id fun c => ⟨c, PySem.W.cellsFrom_some _ _ _ (.inl c)⟩) fun env he z1 new => ?_
  subst he
  refine ⟨(e0.mod.nolimit.keeps kept).keeps new.toInCall.keep, codeAny_func ?_⟩
  obtain ⟨t, ht, hq⟩ := hb cd B out z H vs Q E hg (room.deeper _) want
  refine wpAny_mono (ht.nox.run [] z1 (start N vs) H _ (inv_start S room.hd e0 (cnt _ _ _ _ want) rel new) hq) (fun g z2 end_ => ?_) fun _ _ h => h
  cases g with
  | brk => exact end_.elim fun _ h => h.elim fun _ h => h.2.elim
  | cont => exact end_.elim fun _ h => h.elim fun _ h => h.2.elim
  | ret u =>
    obtain ⟨v, σ2, H2, J, rv, q⟩ := end_
    exact ⟨v, H2, J.os, J.bare, J.base, J.hok, rv, q⟩
  | next =>
    obtain ⟨σ2, H2, J, q⟩ := end_
    exact ⟨.non, H2, J.os, J.bare, J.base, J.hok, rfl, q⟩
end
section
variable {X : Cx} {k : Nat} {f : Addr} {fd : FuncData} {ps : List Str} {sp : Sp} {x : Str} {p pos : Pos} {e : Expr} {es : List Expr} {t : TA}
/-- the call of such a def -/
theorem pe_callG (F : FnG X.prog X.w X.K X.mg X.base k f fd ps sp) (hG : X.A.guards = some []) (hr : Room k X.A) (hg : Gl X x) (hm : X.mg x = some (.ref f)) (hk : PySem.W.keepIn X.K (.ref f) = true) (hb : Binds X.K fd ps [])
    (ha : PA X (e :: es) t) (h1 : (x == ("__debug__" : Str)) = false := by decide) (h2 : starEach (e :: es) X.env = (false, eval e X.env) :: starEach es X.env := by rfl) (h3 : (backTo pos (starEach es X.env)).any (·.1) = false := by rfl) :
    PE X (.Call (.Name x p) (e :: es) [] pos) (tCall sp [] E0 t) := by
  refine ⟨fun pins z σ H Q I want => wpAny_Call_Name_kw (ld_glob I hg hm (PySem.W.callWith_K (h₀ := X.base) I.ok.mod.kin hk (thn (ha.run pos pins z σ H _ I want) fun us z1 got => ?_) h2 h3) h1)⟩
  obtain ⟨vs, H1, J, rel, q⟩ := got
  have q1 : sp vs H1 Q E0 := by rw [← List.append_nil vs]; exact q
  have bd := hb z1 us J.kIn (by rw [List.append_nil, ← rel.length]; exact F.cnt _ _ _ _ q1)
  rw [List.append_nil] at bd
  refine ⟨J.kIn, wpAny_call (codeAny_mono (F.go X.A X.stack z1 H1 ⟨us, []⟩ us vs Q E0 hG hr J.env0 bd rel q1) fun r z2 fin => ?_)⟩
  match r, fin with
  | .ok (.ret u), fin => exact J.after fin
  | .ok .next, fin => exact False.elim fin
  | .ok .brk, fin => exact False.elim fin
  | .ok .cont, fin => exact False.elim fin
  | .error _, fin => exact False.elim fin
/-- repr of a list or tuple of plain things -/
def rRepr (K : PySem.W.Frag) : List V → Hp → VK → Prop := fun xs H Q => ∃ (a : Addr) (d : PyData), xs = [.ref a] ∧ Dp K H (.ref a) d ∧ d.showable = true ∧ d.hasDict = false ∧ d.depth ≤ 60 ∧ d.shown.length ≤ sizeLine ∧ Q (.str d.shown) H
theorem call_reprD (hG : X.A.guards = some []) (hu : X.A.units + 64 < cLine) : CallR X (.builtin "repr") (rRepr X.K) := by
  intro pins z σ H xs us Q I rel want
  obtain ⟨a, d, ex, hd, h1, h2, h3, h4, q⟩ := want
  subst ex
  obtain ⟨u, eu, rx⟩ := vals1 rel
  subst eu
  obtain ⟨as, rd⟩ := Dp.reads I d (.ref a) u hd rx
  obtain rfl : u = Value.ref a := rx
  exact repr_of_reads' rd h1 (fun h => by rw [h2] at h; cases h) hG (by omega) (fun _ _ h => h) (fun h' t tk kp => ⟨.str d.shown, H, I.kept kp, ⟨t, rfl⟩, q⟩) h4
end
section
variable {P : Program} {w : World} {K : PySem.W.Frag} {mg : Str → Option Value} {base : Heap}
def DfG (P : Program) (w : World) (K : PySem.W.Frag) (mg : Str → Option Value) (base : Heap) (k : Nat) (x : Str) (ps : List Str) (sp : Sp) : Prop :=
  ∃ (f : Addr) (fd : FuncData), FnG P w K mg base k f fd ps sp ∧ mg x = some (.ref f) ∧ PySem.W.keepIn K (.ref f) = true ∧ Binds K fd ps []
theorem DfG.of {x : Str} {st : Stmt} {f : Addr} {fd : FuncData} {k : Nat} {ps : List Str} {sp : Sp} (g : mg x = some (.ref f)) (F : Fun K x x st f fd) (G : FnG P w K mg base k f fd ps sp)
    (h : ∀ (kV doc pm : Value) (an : Option Addr) (cdv ct : Value) (us : List Value), us.length = ps.length → bindArgs (PySem.W.fnOf x x (defArgs st) (defBody st) (defScope st) .none kV doc pm an cdv ct) ⟨us, []⟩ = pure (ps.zip us)) : DfG P w K mg base k x ps sp :=
  ⟨f, fd, G, g, F.kp, F.binds h⟩
end
/-! ### the end of a law that asks for repr: the caller of the law has none under way -/
/-- the script alone may be tracked, and it stays -/
def Lone (H : Hp) (a : Addr) : Prop := ∀ b u, H b = some u → b = a ∧ ∃ o xs, u = .frz o (.lst xs)
def GoesG (P : Program) (w : World) (K : PySem.W.Frag) (mg : Str → Option Value) (k : Nat) (fa : Addr) (x : Str) (n : Nat) : Prop :=
  ∃ (fd : FuncData) (sp : Sp), (∀ (z : Shared) (u : Value), BindsTo z fd ⟨[u], []⟩ [(x, u)]) ∧ (∀ (H : Hp) (a : Addr) (ns : List Int), ns.length ≤ n → SqL K H a (ns.map V.int) → sp [.ref a] H (fun v _ => v = .bl true) fun _ _ _ => False) ∧
    ∀ base : Heap, K.In base → base.Ns mainGlobals mg → FnG P w K mg base k fa fd [x] sp
theorem law_goes {P : Program} {w : World} {K : PySem.W.Frag} {mg mb : Str → Option Value} {k n : Nat} {fa a : Addr} {x : Str} {z : Shared} {vs : List Value} {ns : List Int} (KZ : K.In z.heap) (hmg : z.heap.Ns mainGlobals mg) (hmb : z.heap.Ns builtinsNs mb)
    (hboot : ∀ x : Str, x ≠ "__name__" → mb x = bootBuiltins x) (nolim : z.heap.NoLimit) (nogen : z.gens = #[]) (hscr : z.heap.get? a = some { cls := .type "list", data := .seq vs.toArray }) (hni : IntsAre vs ns) (small : ns.length ≤ sizeLine) (hn : ns.length ≤ n) (room : Room k callerA)
    (G : GoesG P w K mg k fa x n) : codeAny (model P w) callerA (.call (.ref fa) ⟨[.ref a], []⟩) (fun r z' => r = .ok (.ret (.bool true)) ∧ OldK z.heap z'.heap ∧ z'.os = z.os ∧ AllBare z'.gens) z := by
  obtain ⟨fd, sp, bind, want, fn⟩ := G
  -- H tracks the script or nothing
  have main : ∀ H : Hp, Lone H a → (H a ≠ none → K.lookup a = none) → SqL K H a (ns.map V.int) → HOk P w H z.heap → codeAny (model P w) callerA (.call (.ref fa) ⟨[.ref a], []⟩) (fun r z' => r = .ok (.ret (.bool true)) ∧ OldK z.heap z'.heap ∧ z'.os = z.os ∧ AllBare z'.gens) z := by
    intro H lone own seq hok
    have free : ∀ {b : Addr}, b ≠ a → H b = none := fun {b} hb => by
      cases e : H b with
      | none => rfl
      | some u => exact absurd (lone b u e).1 hb
    have keepNs : ∀ {b : Addr} {m : Str → Option Value}, z.heap.Ns b m → (hidT z.heap H).Ns b m := by
      rintro b m ⟨o, es, ep, e, d, r⟩
      refine ⟨o, es, ep, hidT_get e (free fun hb => ?_), d, r⟩
      subst hb
      rw [hscr] at e
      cases e
      cases d
    have keepK : K.In (hidT z.heap H) := fun b o e => hidT_get (KZ b o e) (by
      by_cases hb : b = a
      · subst hb
        cases q : H b with
        | none => rfl
        | some u =>
          rw [own (by rw [q]; exact fun h => nomatch h)] at e
          cases e
      · exact free hb)
    obtain ⟨mc, lim1, lim2⟩ := nolim
    have modul : Mod K mg (hidT z.heap H) := ⟨keepK, keepNs hmg, ⟨mb, keepNs hmb, hboot⟩, ⟨mc, keepNs lim1, lim2⟩⟩
    have env : Env0 P w K mg (hidT z.heap H) callerA [] z H := ⟨rfl, modul, fun _ _ e => of_hidT e, Nat.le_of_eq (hidT_size _ _), trivial, fun b hb => (List.not_mem_nil hb).elim, hok, .of_eq nogen⟩
    refine codeAny_mono ((fn _ keepK (keepNs hmg)).go callerA [] z H ⟨[.ref a], []⟩ [.ref a] [.ref a] _ _ rfl room env (bind z (.ref a)) (.cons rfl .nil) (want H a ns hn seq)) fun r z' fin => ?_
    match r, fin with
    | .ok .next, fin => exact False.elim fin
    | .ok .brk, fin => exact False.elim fin
    | .ok .cont, fin => exact False.elim fin
    | .error _, fin => exact False.elim fin
    | .ok (.ret u), fin =>
      obtain ⟨v, H', os, bare, un, hok', rv, ev⟩ := fin
      obtain rfl : v = .bl true := ev
      obtain rfl : u = Value.bool true := rv
      refine ⟨rfl, OldK.of_keep fun b o e => ?_, os, bare⟩
      cases q : H b with
      | none => exact un.keep b o e q (fun h => (List.not_mem_nil h).elim) (by simp)
      | some u =>
        obtain ⟨_, ob, xs, rfl⟩ := lone b u q
        obtain ⟨e1, _⟩ := hok b _ q
        obtain ⟨e2, _⟩ := hok' b _ (un.frzs b ob _ q)
        rw [e] at e1
        cases e1
        exact e2
  have rel := vals_ints hni
  by_cases own : K.lookup a = none
  · refine main (fun b => if b = a then some (.frz { cls := .type "list", data := .seq vs.toArray } (.lst (ns.map V.int))) else none) (fun b u e => ?_) (fun _ => own) (.inl (.inr ⟨_, if_pos rfl⟩)) fun b u e => ?_
    all_goals
      simp only at e
      have hb : b = a := Decidable.byContradiction fun h => by rw [if_neg h] at e; cases e
      rw [if_pos hb] at e
      cases e
    · exact ⟨hb, _, _, rfl⟩
    · subst hb
      exact ⟨hscr, by rw [List.length_map]; exact small, vs, _, rel, hscr⟩
  · obtain ⟨o, ho⟩ := Option.ne_none_iff_exists'.mp own
    have e := KZ a o ho
    rw [hscr] at e
    cases e
    exact main (fun _ => none) (fun b u e => nomatch e) (fun h => absurd rfl h) (.inr ⟨_, vs.toArray, _, ho, rfl, rfl, rfl, by rw [List.size_toArray, hni.length]; exact small, by simpa using rel⟩) fun b u e => nomatch e
theorem walk_g {l : PySem.W.OpenLaw} {n k : Nat} {q : Program} {loose : List Str} {XP : (Str → Option Value) → Heap → Prop} {YP : World → Heap → Prop} {d : DefRec} {K : Params → PySem.W.Frag} {x : Str} (hn : l.most = some n) (hn2 : n ≤ sizeLine) (hdf : d.params.defaults = []) (room : Room k callerA)
    (hY : ∀ (w : World) (h : Heap), YP w h → (K w.params).In h) (F : ∀ (w : World) (mg : Str → Option Value) (fa : Addr) (h : Heap), (K w.params).In h → h.Ns mainGlobals mg → mg d.name = some (.ref fa) → GoesG l.prog w (K w.params) mg k fa x n) :
    PySem.W.WalkO q loose XP YP l.row.toRowW d [] (fun f vs => PySem.call f vs) := by
  refine Att.attach_callB hn hdf fun w z0 z1 mg mb fa o pm cd doc a vs ns G Y ho hd hcd hmg hobj hints hlen hbits hg => ?_
  have KZ := hY w _ Y
  exact law_goes KZ G.T.g G.T.b G.T.builtins G.T.nolimit hg hobj hints (Nat.le_trans hlen hn2) hlen room (F w mg fa _ KZ G.T.g hmg)
/-! ### as law_goes, for laws whose defs hold generator expressions too: cs, the code objects and their tables -/
def GoesT (P : Program) (w : World) (K : PySem.W.Frag) (mg : Str → Option Value) (k : Nat) (fa : Addr) (x : Str) (n : Nat) (h : Heap) : Prop :=
  ∃ (fd : FuncData) (cs : List (Addr × Addr)) (sp : Sp), (∀ p ∈ cs, h.get? p.2 = some { cls := .none, data := .fields #[] }) ∧ (∀ p ∈ cs, K.lookup p.2 = none) ∧ (∀ p ∈ cs, PySem.W.CodeHd h p.1 p.2) ∧ (∀ (z : Shared) (u : Value), BindsTo z fd ⟨[u], []⟩ [(x, u)]) ∧
    (∀ (H : Hp) (a : Addr) (ns : List Int), ns.length ≤ n → (∀ p ∈ cs, H p.2 = some (.tbl #[])) → SqL K H a (ns.map V.int) → sp [.ref a] H (fun v _ => v = .bl true) fun _ _ _ => False) ∧
    ∀ base : Heap, K.In base → base.Ns mainGlobals mg → (∀ p ∈ cs, LamX.TabB base mg p.1 p.2) → FnG P w K mg base k fa fd [x] sp
/-- what may be tracked at the start: the script, as it stands, and the tables, empty -/
inductive First (a : Addr) (ts : List Addr) (b : Addr) : HO → Prop
  | script {o : Obj} {xs : List V} : b = a → First a ts b (.frz o (.lst xs))
  | table : b ∈ ts → First a ts b (.tbl #[])
theorem law_goesT {P : Program} {w : World} {K : PySem.W.Frag} {mg mb : Str → Option Value} {k n : Nat} {fa a : Addr} {x : Str} {z : Shared} {vs : List Value} {ns : List Int} (KZ : K.In z.heap) (hmg : z.heap.Ns mainGlobals mg) (hmb : z.heap.Ns builtinsNs mb)
    (hboot : ∀ x : Str, x ≠ "__name__" → mb x = bootBuiltins x) (nolim : z.heap.NoLimit) (nogen : z.gens = #[]) (mods : ∃ (bm : Addr) (ob : Obj), mg "__builtins__" = some (.ref bm) ∧ bm ≠ builtinsNs ∧ z.heap.get? bm = some ob ∧ ob.cls = .type "module" ∧ ob.dict = some builtinsNs ∧ ob.data = .plain)
    (hscr : z.heap.get? a = some { cls := .type "list", data := .seq vs.toArray }) (hni : IntsAre vs ns) (small : ns.length ≤ sizeLine) (hn : ns.length ≤ n) (room : Room k callerA)
    (G : GoesT P w K mg k fa x n z.heap) : codeAny (model P w) callerA (.call (.ref fa) ⟨[.ref a], []⟩) (fun r z' => r = .ok (.ret (.bool true)) ∧ OldK z.heap z'.heap ∧ z'.os = z.os ∧ AllBare z'.gens) z := by
  obtain ⟨fd, cs, sp, tabs, tabK, code, bind, want, fn⟩ := G
  have tabAt : ∀ b ∈ cs.map (·.2), z.heap.get? b = some { cls := .none, data := .fields #[] } := fun b hb => by
    obtain ⟨p, hp, rfl⟩ := List.mem_map.mp hb
    exact tabs p hp
  have main : ∀ H : Hp, (∀ b u, H b = some u → First a (cs.map (·.2)) b u) → (∀ p ∈ cs, H p.2 = some (.tbl #[])) → (H a ≠ none → K.lookup a = none) → SqL K H a (ns.map V.int) → HOk P w H z.heap →
      codeAny (model P w) callerA (.call (.ref fa) ⟨[.ref a], []⟩) (fun r z' => r = .ok (.ret (.bool true)) ∧ OldK z.heap z'.heap ∧ z'.os = z.os ∧ AllBare z'.gens) z := by
    intro H first isTab own seq hok
    -- what is neither a list nor an empty table is not tracked
    have free : ∀ {b : Addr} {o : Obj}, z.heap.get? b = some o → (∀ us m, o.data ≠ .seq us m) → o.data ≠ .fields #[] → H b = none := fun {b o} e h1 h2 => by
      cases q : H b with
      | none => rfl
      | some u =>
        cases first b u q with
        | script hb =>
          rw [hb, hscr] at e
          cases e
          exact absurd rfl (h1 _ _)
        | table hb =>
          rw [tabAt b hb] at e
          cases e
          exact absurd rfl h2
    have keepNs : ∀ {b : Addr} {m : Str → Option Value}, z.heap.Ns b m → (hidT z.heap H).Ns b m := by
      rintro b m ⟨o, es, ep, e, d, r⟩
      exact ⟨o, es, ep, hidT_get e (free e (fun us m y => by rw [d] at y; cases y) fun y => by rw [d] at y; cases y), d, r⟩
    have keepK : K.In (hidT z.heap H) := fun b o e => hidT_get (KZ b o e) (by
      cases q : H b with
      | none => rfl
      | some u =>
        cases first b u q with
        | script hb =>
          subst hb
          rw [own (by rw [q]; exact fun h => nomatch h)] at e
          cases e
        | table hb =>
          obtain ⟨p, hp, rfl⟩ := List.mem_map.mp hb
          rw [tabK p hp] at e
          cases e)
    obtain ⟨mc, lim1, lim2⟩ := nolim
    have modul : Mod K mg (hidT z.heap H) := ⟨keepK, keepNs hmg, ⟨mb, keepNs hmb, hboot⟩, ⟨mc, keepNs lim1, lim2⟩⟩
    have tb : ∀ p ∈ cs, LamX.TabB (hidT z.heap H) mg p.1 p.2 := fun p hp => by
      obtain ⟨og, eg, pg, atg, dg, rg⟩ := hmg
      refine ⟨?_, ?_, fun y => ?_⟩
      · obtain ⟨o, us, file, tf, flags, tg, inF, text, tt, e1, c1, c2, c3, c4, c5, c6, c7, c8, c9⟩ := code p hp
        exact ⟨o, us, file, tf, flags, tg, inF, text, tt, hidT_get e1 (free e1 (fun _ _ y => by rw [c2] at y; cases y) fun y => by rw [c2] at y; cases y; simp at c3), c1, c2, c3, c4, c5, c6, c7, c8, c9⟩
      · obtain ⟨bm, ob, b1, b2, b3, b4, b5, b6⟩ := mods
        refine ⟨bm, ob, b1, b2, fun y => ?_, fun y => ?_, hidT_get b3 (free b3 (fun _ _ y => by rw [b6] at y; cases y) fun y => by rw [b6] at y; cases y), b4, b5, b6⟩
        · rw [y, atg] at b3
          cases b3
          rw [dg] at b6
          cases b6
        · rw [y, tabs p hp] at b3
          cases b3
          cases b6
      · rw [y, tabs p hp] at atg
        cases atg
        cases dg
    have env : Env0 P w K mg (hidT z.heap H) callerA [] z H := ⟨rfl, modul, fun _ _ e => of_hidT e, Nat.le_of_eq (hidT_size _ _), trivial, fun b hb => (List.not_mem_nil hb).elim, hok, .of_eq nogen⟩
    refine codeAny_mono ((fn _ keepK (keepNs hmg) tb).go callerA [] z H ⟨[.ref a], []⟩ [.ref a] [.ref a] _ _ rfl room env (bind z (.ref a)) (.cons rfl .nil) (want H a ns hn isTab seq)) fun r z' fin => ?_
    match r, fin with
    | .ok .next, fin => exact False.elim fin
    | .ok .brk, fin => exact False.elim fin
    | .ok .cont, fin => exact False.elim fin
    | .error _, fin => exact False.elim fin
    | .ok (.ret u), fin =>
      obtain ⟨v, H', os, bare, un, hok', rv, ev⟩ := fin
      obtain rfl : v = .bl true := ev
      obtain rfl : u = Value.bool true := rv
      have stays : ∀ b o, b ∉ cs.map (·.2) → z.heap.get? b = some o → z'.heap.get? b = some o := fun b o nb e => by
        cases q : H b with
        | none => exact un.keep b o e q (fun h => (List.not_mem_nil h).elim) (by simp)
        | some u =>
          cases first b u q with
          | table hb => exact absurd hb nb
          | script hb =>
            obtain ⟨e1, _⟩ := hok b _ q
            obtain ⟨e2, _⟩ := hok' b _ (un.frzs b _ _ q)
            rw [e] at e1
            cases e1
            exact e2
      have grows : ∀ p ∈ cs, ∃ more : Array Value, z'.heap.get? p.2 = some { cls := .none, data := .fields more } := fun p hp => by
        obtain ⟨more, y⟩ := un.tbls p.2 #[] (isTab p hp)
        exact ⟨_, hok' p.2 _ y⟩
      refine ⟨rfl, ⟨fun b o e => ?_, fun b o e => ?_⟩, os, bare⟩
      · by_cases hb : b ∈ cs.map (·.2)
        · obtain ⟨p, hp, rfl⟩ := List.mem_map.mp hb
          obtain ⟨more, hm⟩ := grows p hp
          rw [tabs p hp] at e
          cases e
          exact .inr (.inl ⟨((code p hp).tab (tabs p hp)).isCodeTable, rfl, #[], more, rfl, by rw [Array.empty_append]; exact hm⟩)
        · exact .inl (stays b o hb e)
      · by_cases hb : b ∈ cs.map (·.2)
        · obtain ⟨p, hp, rfl⟩ := List.mem_map.mp hb
          obtain ⟨more, hm⟩ := grows p hp
          exact ⟨_, hm⟩
        · exact ⟨o, stays b o hb e⟩
  have rel := vals_ints hni
  have apart : a ∉ cs.map (·.2) := fun y => by
    have q := tabAt a y
    rw [hscr] at q
    cases q
  have other : ∀ p ∈ cs, p.2 ≠ a := fun p hp y => apart (by rw [← y]; exact List.mem_map.mpr ⟨p, hp, rfl⟩)
  by_cases own : K.lookup a = none
  · refine main (fun b => if b = a then some (.frz { cls := .type "list", data := .seq vs.toArray } (.lst (ns.map V.int))) else if b ∈ cs.map (·.2) then some (.tbl #[]) else none) (fun b u e => ?_) (fun p hp => ?_) (fun _ => own) (.inl (.inr ⟨_, if_pos rfl⟩)) fun b u e => ?_
    · try simp only at e
      by_cases hb : b = a
      · rw [if_pos hb] at e
        cases e
        exact .script hb
      · rw [if_neg hb] at e
        by_cases ht : b ∈ cs.map (·.2)
        · rw [if_pos ht] at e
          cases e
          exact .table ht
        · rw [if_neg ht] at e
          cases e
    · try simp only
      rw [if_neg (other p hp), if_pos (List.mem_map.mpr ⟨p, hp, rfl⟩)]
    · try simp only at e
      by_cases hb : b = a
      · rw [if_pos hb] at e
        cases e
        rw [hb]
        exact ⟨hscr, by rw [List.length_map]; exact small, vs, _, rel, hscr⟩
      · rw [if_neg hb] at e
        by_cases ht : b ∈ cs.map (·.2)
        · rw [if_pos ht] at e
          cases e
          exact tabAt b ht
        · rw [if_neg ht] at e
          cases e
  · obtain ⟨o, ho⟩ := Option.ne_none_iff_exists'.mp own
    have e := KZ a o ho
    rw [hscr] at e
    cases e
    refine main (fun b => if b ∈ cs.map (·.2) then some (.tbl #[]) else none) (fun b u e => ?_) (fun p hp => if_pos (List.mem_map.mpr ⟨p, hp, rfl⟩)) (fun h => absurd (if_neg apart) h) (.inr ⟨_, vs.toArray, _, ho, rfl, rfl, rfl, by rw [List.size_toArray, hni.length]; exact small, by simpa using rel⟩) fun b u e => ?_
    all_goals
      try simp only at e
      by_cases ht : b ∈ cs.map (·.2)
      · rw [if_pos ht] at e
        cases e
        first
          | exact .table ht
          | exact tabAt b ht
      · rw [if_neg ht] at e
        cases e
theorem walk_gt {l : PySem.W.OpenLaw} {n k : Nat} {q : Program} {loose : List Str} {XP : (Str → Option Value) → Heap → Prop} {YP : World → Heap → Prop} {d : DefRec} {K : Params → PySem.W.Frag} {x : Str} (hn : l.most = some n) (hn2 : n ≤ sizeLine) (hdf : d.params.defaults = []) (room : Room k callerA)
    (hY : ∀ (w : World) (h : Heap), YP w h → (K w.params).In h) (F : ∀ (w : World) (mg : Str → Option Value) (fa : Addr) (h : Heap), (K w.params).In h → h.Ns mainGlobals mg → mg d.name = some (.ref fa) →
      (∀ (y : Str) (fy : Addr), ((recsOf q).any fun e => e.name == y) = true → mg y = some (.ref fy) → LamX.OwnTab (K w.params) fy h) → GoesT l.prog w (K w.params) mg k fa x n h) :
    PySem.W.WalkO q loose XP YP l.row.toRowW d [] (fun f vs => PySem.call f vs) := by
  refine Att.attach_callB hn hdf fun w z0 z1 mg mb fa o pm cd doc a vs ns G Y ho hd hcd hmg hobj hints hlen hbits hg => ?_
  have KZ := hY w _ Y
  have tabs : ∀ (y : Str) (fy : Addr), ((recsOf q).any fun e => e.name == y) = true → mg y = some (.ref fy) → LamX.OwnTab (K w.params) fy z1.heap := fun y fy hy hm c P o1 fd1 e dd vs1 sl k1 k2 k3 k4 k5 => by
    obtain ⟨dL, hmem, hnm⟩ := List.any_eq_true.mp hy
    have hnm : dL.name = y := beq_iff_eq.mp hnm
    obtain ⟨a', o', fd', c', P', h1, h2, h3, h4, h5, h6⟩ := G.T.tab dL hmem
    rw [hnm, hm] at h1
    cases h1
    rw [KZ _ _ k1] at h2
    cases h2
    rw [k2] at h3
    cases h3
    rw [k3] at h4
    cases h4
    obtain ⟨⟨oc, vc, e1, _, e3, e4⟩, hP⟩ := h6
    rw [KZ _ _ k4] at e1
    cases e1
    cases e3
    rw [k5] at e4
    cases e4
    exact hP
  exact law_goesT KZ G.T.g G.T.b G.T.builtins G.T.nolimit hg G.T.bmain hobj hints (Nat.le_trans hlen hn2) hlen room (F w mg fa _ KZ G.T.g hmg tabs)
/-! ### enumerate of a tuple -/
set_option maxHeartbeats 1000000 in
theorem meets_enumOne {v : Value} {o : Obj} {S : Heap → Prop} (B : Begins v o S) : Meets (Builtin.«enumerate.__new__» ⟨[.type "enumerate", v], []⟩) (fun _ R s => S s.heap ∧
      R (.ok (.ret (.ref (s.heap.push o).objs.size))) { s with heap := (s.heap.push o).push { cls := .type "enumerate", data := .fields #[.none, .bool false, .ref s.heap.objs.size, rawInt 0, .none, .none] } }) :=
  .of_wp fun prog w A R s h => by
    obtain ⟨hp, g, d, tk, os⟩ := s
    obtain ⟨h1, h⟩ := h
    have sub0 := sub_enumerate
    have begun : ∀ {A' : PySem.Around} {E : Value → Shared → Prop} {Q : Value → Shared → Prop}, Q (.ref hp.objs.size) ⟨hp.push o, g, d, tk, os⟩ → wpAny (model prog w) A' (pyIter v) Q E ⟨hp, g, d, tk, os⟩ := fun q => B.iter prog w _ _ ⟨hp, g, d, tk, os⟩ _ h1 q
    wp_walk using begun
    refine wpAny_stack_any fun st => wpAny_pure ?_
    split
    · rename_i c _ _ _ _ _
      cases (c == Value.type "enumerate")
      all_goals
        wp_walk using begun
        exact ⟨_, rfl, h⟩
    · wp_walk using begun
      exact ⟨_, rfl, h⟩
theorem call_enumT {P : Program} {w : World} {A : PySem.Around} {E : Value → Shared → Prop} {s : Shared} {t : Addr} {items : Array Value} {Q : Value → Shared → Prop} (ht : s.heap.IsTuple t items)
    (h : ∀ h', IsEnum h' (s.heap.objs.size + 1) s.heap.objs.size 0 .none → h'.IsTupleIter s.heap.objs.size t 0 → (∀ b o, s.heap.get? b = some o → h'.get? b = some o) → Q (.ref (s.heap.objs.size + 1)) { s with heap := h' }) : wpAny (model P w) A (call (.type "enumerate") [.ref t]) Q E s := by
  refine callType_new PySem.F.called_enumerate (by decide) (PySem.F.typeCall_enumerate_1 _) (PySem.F.newCall_enumerate_1 _) (fun ob => PySem.F.args_object_init_2 ob _) PySem.F.entry_enumerate_new (meets_enumOne (begins_tuple t items)) ⟨ht, ?_⟩
  have size1 := Heap.size_push s.heap { cls := .type "tuple_iterator", data := .fields #[.ref t, .int 0 0] }
  have en := Heap.get?_push_size (s.heap.push { cls := .type "tuple_iterator", data := .fields #[.ref t, .int 0 0] }) (o := { cls := .type "enumerate", data := .fields #[.none, .bool false, .ref s.heap.objs.size, rawInt 0, .none, .none] }) rfl
  rw [size1] at en
  show _ ∧ _
  rw [size1]
  exact ⟨⟨_, en, rfl⟩, h _ en ⟨_, Heap.get?_push_of_some _ (Heap.get?_push_size _ rfl), rfl, rfl⟩ fun b o e => Heap.get?_push_of_some _ (Heap.get?_push_of_some _ e)⟩
/-- the turns: a new pair each, of the number and the part -/
def ItN (K : PySem.W.Frag) (a : Addr) : It where
  go := fun i H => ∃ (xs : List V) (x : V), SqT K H a xs ∧ xs[i]? = some x
  yld := fun i H v H' => ∃ T x, v = .ref T ∧ H T = none ∧ H' = upd H T (.tup [.int (i : Nat), x]) ∧ ∀ xs, SqT K H a xs → xs[i]? = some x
  stop := fun i H => ∃ xs : List V, SqT K H a xs ∧ xs.length ≤ i
theorem turn_enumT {P : Program} {w : World} {K : PySem.W.Frag} {elts : List Expr} {kk : Nat} {tpos : Pos} (a e it : Addr) (n1 : e ≠ it) (n2 : a ≠ it) (n3 : e ≠ a) :
    Turn P w K (.Tuple elts kk tpos) (ItN K a) [e, it] e (fun i h => (∃ old, IsEnum h e it ((i : Nat) : Int) old) ∧ h.IsTupleIter it a i) where
  mem := List.mem_cons_self
  obj := by
    rintro i h ⟨⟨old, he⟩, o, ho, hc, hd⟩ b hb
    rcases List.mem_cons.mp hb with rfl | hb
    · exact ⟨_, he, fun v q => nomatch q⟩
    · rw [List.mem_singleton.mp hb]
      exact ⟨o, ho, fun v q => by rw [hd] at q; cases q⟩
  keep := by
    rintro i h h' ⟨⟨old, he⟩, hit⟩ kp
    exact ⟨⟨old, kp e (by simp) _ he⟩, hit.at fun o q => kp it (by simp) o q⟩
  item := by
    intro X hP hw hK hc i pins s σ H E I hf st hg
    subst hP hw hK
    obtain ⟨⟨old, he⟩, hit⟩ := st
    obtain ⟨xs, x, hq, hx⟩ := hg
    obtain ⟨its, rv, tup, _⟩ := I.tuple hq
    obtain ⟨u, hu, ru⟩ := rv.get hx
    have le := Heap.lt_size he
    have li : it < s.heap.objs.size := let ⟨_, q, _⟩ := hit; Heap.lt_size q
    have lt : i < its.toArray.size := by simpa using (List.getElem?_eq_some_iff.mp hu).1
    refine wpAny_pyNext_enum_itemD (Draws.tuple (A := X.A.in1) (I.ok.hd hc) it a n2 its.toArray) he ⟨hit, tup⟩ lt n1 (by simp [n1, n3]) fun x' h' tk ex out st' new _ kp => ?_
    obtain rfl : u = x' := Option.some.inj (((by simpa using hu) : its.toArray[i]? = some u).symm.trans ex)
    refine ⟨_, rfl, wpAny_letOwnedTupleGo_enum (s := { s with heap := h', toks := tk + 1 }) out fun h2 he2 sb => ?_⟩
    have new2 : h2.get? s.heap.objs.size = some { cls := .type "tuple", data := .seq #[.int i tk, u] } := (sb.2 _ (Nat.ne_of_gt le)).trans new
    have objT : ObjOk X.prog X.w (upd H s.heap.objs.size (.tup [.int (i : Nat), x])) h2 s.heap.objs.size (.tup [.int (i : Nat), x]) := ⟨by show 2 ≤ sizeLine; decide, [.int i tk, u], .cons ⟨_, rfl⟩ (.cons ru .nil), ⟨_, new2, rfl, _, rfl⟩⟩
    have J : Inv X pins σ (upd H s.heap.objs.size (.tup [.int (i : Nat), x])) { s with heap := h2, toks := tk + 1 } := I.turnedNew (ch := [e, it]) (fun b ob hb q => by
      simp only [List.mem_cons, List.not_mem_nil, or_false, not_or] at hb
      exact (sb.2 b hb.1).trans (kp b ob hb.1 hb.2 q)) hf (Nat.le_refl _) objT
    refine ⟨.ref s.heap.objs.size, _, J, rfl, ⟨_, x, rfl, I.hok.fresh (Nat.le_refl _), rfl, fun ys hy => by rw [I.tuple_inj hy hq]; exact hx⟩, ⟨⟨u, ?_⟩, st'.1.at fun o q => (sb.2 it (Ne.symm n1)).trans q⟩, fun b hb => ?_⟩
    · rw [show ((i + 1 : Nat) : Int) = (i : Int) + 1 from by omega]
      exact he2
    · have lb : b < s.heap.objs.size := by
        rcases List.mem_cons.mp hb with rfl | hb
        · exact le
        · rw [List.mem_singleton.mp hb]
          exact li
      rw [upd_ne (Nat.ne_of_lt lb)]
      exact (hf b hb).1
  done := by
    intro X hP hw hK hc i pins s σ H E I hf st hg
    subst hP hw hK
    obtain ⟨⟨old, he⟩, hit⟩ := st
    obtain ⟨xs, hq, hx⟩ := hg
    obtain ⟨its, rv, tup, _⟩ := I.tuple hq
    have hl := rv.length
    obtain ⟨f0, f1, f2, f3, f4, f5⟩ := hf it (by simp)
    have D : Draws X.prog X.w X.A.in1 it [it, a] i (fun _ _ => False) (fun j h => j = i ∧ h.IsTupleIter it a i ∧ h.IsTuple a its.toArray) := {
      live := fun j h z => let ⟨_, ⟨o, q, _⟩, _⟩ := z; ⟨o, q⟩
      frame := fun j h h' z kp => ⟨z.1, z.2.1.at fun o q => kp it (by simp) o q, z.2.2.at fun o q => kp a (by simp) o q⟩
      item := fun j s' Q E' hj z => absurd z.1 (Nat.ne_of_lt hj)
      done := fun s' Q E' z fin => wpAny_nextOf_tuple_end (I.ok.hd hc) z.2.1 z.2.2 (by simp; omega) fin }
    exact wpAny_pyNext_enum_endD D he ⟨rfl, hit, tup⟩ fun h' eb => ⟨rfl, I.turned (t' := s.toks) (fun b o hb q => eb b o hb q) f0 f1 f3 f4 f5⟩
  self := fun A i s Q E st h => let ⟨⟨_, he⟩, _⟩ := st; wpAny_pyIter_enum he h
def iEnT (K : PySem.W.Frag) (ta : TA) : TI := fun σ H R => ta σ H fun vs H1 => ∃ a xs, vs = [.ref a] ∧ SqT K H1 a xs ∧ R (ItN K a) H1
theorem pi_enumT {X : Cx} {e : Expr} {ta : TA} {p pos tpos : Pos} {elts : List Expr} {kk : Nat} (hg : Gl X "enumerate") (hm : X.mg "enumerate" = none) (ha : PA X [e] ta) (hs : starEach [e] X.env = [(false, eval e X.env)] := by rfl) :
    PI X (.Tuple elts kk tpos) (.Call (.Name "enumerate" p) [e] [] pos) (iEnT X.K ta) := by
  refine ⟨fun pins s σ H R I want => Call_ (ld_blt I hg hm boot_enumerate (PyProof.Rows.callWith_type1 (thn (ha.run pos pins s σ H _ I want) fun us s1 got => ?_) hs rfl))⟩
  obtain ⟨vs, H1, J, rel, a, xs, ex, hq, q⟩ := got
  subst ex
  obtain ⟨u, eu, r1⟩ := vals1 rel
  subst eu
  obtain rfl : u = Value.ref a := r1
  obtain ⟨its, rv, tup, _⟩ := J.tuple hq
  have la : a < s1.heap.objs.size := let ⟨_, q, _⟩ := tup; Heap.lt_size q
  refine call_enumT (items := its.toArray) tup fun h' he hit kp => wpAny_pyIter_enum he ?_
  have J2 : Inv X pins σ H1 { s1 with heap := h' } := J.kept (t' := s1.toks) kp
  refine ⟨s1.heap.objs.size + 1, [s1.heap.objs.size + 1, s1.heap.objs.size], _, _, H1, rfl, J2, turn_enumT a (s1.heap.objs.size + 1) s1.heap.objs.size (Nat.succ_ne_self _) (Nat.ne_of_lt la) (Nat.ne_of_gt (Nat.lt_succ_of_lt la)), ⟨⟨.none, he⟩, hit⟩, fun b hb => ?_, q⟩
  have lb : s1.heap.objs.size ≤ b := by
    rcases List.mem_cons.mp hb with rfl | hb
    · exact Nat.le_succ _
    · rw [List.mem_singleton.mp hb]
      exact Nat.le_refl _
  exact J.fpOk lb (J.hok.fresh lb)
theorem walk_enumT {K : PySem.W.Frag} {a : Addr} {xs : List V} : Walk (ItN K a) xs.length (fun H => SqT K H a xs) (YPair (fun i => some (.int (i : Nat))) (fun i => xs[i]?)) :=
  ⟨fun i H hi h => ⟨xs, xs[i], h, List.getElem?_eq_getElem hi⟩, fun H h => ⟨xs, h, Nat.le_refl _⟩, fun i H x H' hi h y => by
    obtain ⟨T, z, e1, e2, e3, e4⟩ := y
    exact ⟨T, _, z, e1, e2, e3, rfl, e4 xs h⟩⟩
/-! ### zip of three tuples of one length -/
def ItZ (K : PySem.W.Frag) (a b c : Addr) : It where
  go := fun i H => ∃ (xs ys zs : List V), (SqT K H a xs ∧ SqT K H b ys ∧ SqT K H c zs) ∧ i < xs.length ∧ ys.length = xs.length ∧ zs.length = xs.length
  yld := fun i H v H' => ∃ T x y z, v = .ref T ∧ H T = none ∧ H' = upd H T (.tup [x, y, z]) ∧ (∀ xs, SqT K H a xs → xs[i]? = some x) ∧ (∀ ys, SqT K H b ys → ys[i]? = some y) ∧ ∀ zs, SqT K H c zs → zs[i]? = some z
  stop := fun i H => ∃ (xs ys zs : List V), (SqT K H a xs ∧ SqT K H b ys ∧ SqT K H c zs) ∧ xs.length = i ∧ ys.length = i ∧ zs.length = i
theorem turn_zip3 {P : Program} {w : World} {K : PySem.W.Frag} {elts : List Expr} {kk : Nat} {tpos : Pos} {a b c z TI TO i1 i2 i3 : Addr} (S : ZipSep3 z TI TO i1 i2 i3 [i1, a] [i2, b] [i3, c]) (n1 : a ≠ i1) (n2 : b ≠ i2) (n3 : c ≠ i3) :
    Turn P w K (.Tuple elts kk tpos) (ItZ K a b c) [z, TI, TO, i1, i2, i3] z (fun i h => IsZip h z TI TO .none ∧ IsTupOf3 h TI (.ref i1) (.ref i2) (.ref i3) ∧ (∃ a1 a2 a3, IsTupOf3 h TO a1 a2 a3) ∧ h.IsTupleIter i1 a i ∧ h.IsTupleIter i2 b i ∧ h.IsTupleIter i3 c i) where
  mem := List.mem_cons_self
  obj := by
    rintro i h ⟨hz, hTI, ⟨a1, a2, a3, hTO⟩, ⟨o1, e1, _, d1⟩, ⟨o2, e2, _, d2⟩, ⟨o3, e3, _, d3⟩⟩ q hq
    simp only [List.mem_cons, List.not_mem_nil, or_false] at hq
    rcases hq with rfl | rfl | rfl | rfl | rfl | rfl
    · exact ⟨_, hz, fun v y => nomatch y⟩
    · exact ⟨_, hTI, fun v y => nomatch y⟩
    · exact ⟨_, hTO, fun v y => nomatch y⟩
    · exact ⟨o1, e1, fun v y => by rw [d1] at y; cases y⟩
    · exact ⟨o2, e2, fun v y => by rw [d2] at y; cases y⟩
    · exact ⟨o3, e3, fun v y => by rw [d3] at y; cases y⟩
  keep := by
    rintro i h h' ⟨hz, hTI, ⟨a1, a2, a3, hTO⟩, t1, t2, t3⟩ kp
    exact ⟨kp z (by simp) _ hz, kp TI (by simp) _ hTI, ⟨a1, a2, a3, kp TO (by simp) _ hTO⟩, t1.at fun o q => kp i1 (by simp) o q, t2.at fun o q => kp i2 (by simp) o q, t3.at fun o q => kp i3 (by simp) o q⟩
  item := by
    intro X hP hw hK hc i pins s σ H E I hf st hg
    subst hP hw hK
    obtain ⟨hz, hTI, hTO, t1, t2, t3⟩ := st
    obtain ⟨xs, ys, zs, ⟨qx, qy, qz⟩, hi, ly, lz⟩ := hg
    obtain ⟨us, ru, tu, _⟩ := I.tuple qx
    obtain ⟨vs, rv, tv, _⟩ := I.tuple qy
    obtain ⟨ws, rw', tw, _⟩ := I.tuple qz
    have lu := ru.length
    have lv := rv.length
    have lw := rw'.length
    obtain ⟨u, hu, eu⟩ := ru.get (List.getElem?_eq_getElem hi)
    obtain ⟨v, hv, ev⟩ := rv.get (List.getElem?_eq_getElem (show i < ys.length by omega))
    obtain ⟨w', hw, ew⟩ := rw'.get (List.getElem?_eq_getElem (show i < zs.length by omega))
    have W := WalksT.zipD3 (A := X.A) S (Draws.tuple (prog := X.prog) (w := X.w) (A := X.A.in1) (I.ok.hd hc) i1 a n1 us.toArray) (Draws.tuple (prog := X.prog) (w := X.w) (A := X.A.in1) (I.ok.hd hc) i2 b n2 vs.toArray) (Draws.tuple (prog := X.prog) (w := X.w) (A := X.A.in1) (I.ok.hd hc) i3 c n3 ws.toArray)
    refine W.item i s _ _ (by simp only [List.size_toArray]; omega) ⟨hz, hTI, hTO, ⟨t1, tu⟩, ⟨t2, tv⟩, ⟨t3, tw⟩⟩ fun T vals h' tk hp newT isT mid kp => ?_
    obtain ⟨y1, y2, y3, p1, p2, p3, rfl⟩ := hp
    have apart := W.apart i T h' mid
    obtain rfl : u = y1 := Option.some.inj (((by simpa using hu) : us.toArray[i]? = some u).symm.trans p1)
    obtain rfl : v = y2 := Option.some.inj (((by simpa using hv) : vs.toArray[i]? = some v).symm.trans p2)
    obtain rfl : w' = y3 := Option.some.inj (((by simpa using hw) : ws.toArray[i]? = some w').symm.trans p3)
    refine ⟨_, rfl, W.go elts kk tpos i T { s with heap := h', toks := tk } _ _ mid fun h2 st2 kp2 => ?_⟩
    obtain ⟨g1, g2, g3, ⟨g4, _⟩, ⟨g5, _⟩, ⟨g6, _⟩⟩ := st2
    have objT : ObjOk X.prog X.w (upd H T (.tup [xs[i], ys[i], zs[i]])) h2 T (.tup [xs[i], ys[i], zs[i]]) := by
      obtain ⟨ot, et, ct, nt, dt⟩ := isT
      exact ⟨by show 3 ≤ sizeLine; decide, [u, v, w'], .cons eu (.cons ev (.cons ew .nil)), ⟨ot, kp2 _ _ apart et, ct, nt, dt⟩⟩
    have J : Inv X pins σ (upd H T (.tup [xs[i], ys[i], zs[i]])) { s with heap := h2, toks := tk } := I.turnedNew (ch := [z, TI, TO, i1, i2, i3]) (fun q ob hq e => by
      simp only [List.mem_cons, List.not_mem_nil, or_false, not_or] at hq
      have nw : q ∉ [z, TO, i1, i2, i3] := by simp [hq]
      exact kp2 q ob nw (kp q ob nw e)) hf newT objT
    refine ⟨.ref T, _, J, rfl, ⟨T, _, _, _, rfl, I.hok.fresh newT, rfl, fun l hl => by rw [I.tuple_inj hl qx]; exact List.getElem?_eq_getElem hi, fun l hl => by rw [I.tuple_inj hl qy]; exact List.getElem?_eq_getElem _, fun l hl => by rw [I.tuple_inj hl qz]; exact List.getElem?_eq_getElem _⟩, ⟨g1, g2, g3, g4, g5, g6⟩, fun q hq => ?_⟩
    have lq : q < s.heap.objs.size := by
      obtain ⟨_, _, ⟨a1, a2, a3, hTO⟩⟩ := (⟨hz, hTI, hTO⟩ : _ ∧ _ ∧ _)
      obtain ⟨o1, e1, _⟩ := t1
      obtain ⟨o2, e2, _⟩ := t2
      obtain ⟨o3, e3, _⟩ := t3
      simp only [List.mem_cons, List.not_mem_nil, or_false] at hq
      rcases hq with rfl | rfl | rfl | rfl | rfl | rfl
      · exact Heap.lt_size hz
      · exact Heap.lt_size hTI
      · exact Heap.lt_size hTO
      · exact Heap.lt_size e1
      · exact Heap.lt_size e2
      · exact Heap.lt_size e3
    rw [upd_ne (Nat.ne_of_lt (Nat.lt_of_lt_of_le lq newT))]
    exact (hf q hq).1
  done := by
    intro X hP hw hK hc i pins s σ H E I hf st hg
    subst hP hw hK
    obtain ⟨hz, hTI, hTO, t1, t2, t3⟩ := st
    obtain ⟨xs, ys, zs, ⟨qx, qy, qz⟩, lx, ly, lz⟩ := hg
    obtain ⟨us, ru, tu, _⟩ := I.tuple qx
    obtain ⟨vs, rv, tv, _⟩ := I.tuple qy
    obtain ⟨ws, rw', tw, _⟩ := I.tuple qz
    have lu := ru.length
    have lv := rv.length
    have lw := rw'.length
    have W := WalksT.zipD3 (A := X.A) S (Draws.tuple (prog := X.prog) (w := X.w) (A := X.A.in1) (I.ok.hd hc) i1 a n1 us.toArray) (Draws.tuple (prog := X.prog) (w := X.w) (A := X.A.in1) (I.ok.hd hc) i2 b n2 vs.toArray) (Draws.tuple (prog := X.prog) (w := X.w) (A := X.A.in1) (I.ok.hd hc) i3 c n3 ws.toArray)
    have en : min (min us.toArray.size vs.toArray.size) ws.toArray.size = i := by simp only [List.size_toArray]; omega
    refine W.done s _ _ ?_ fun h' tk kp => ⟨rfl, ?_⟩
    · rw [en]
      exact ⟨hz, hTI, hTO, ⟨t1, tu⟩, ⟨t2, tv⟩, ⟨t3, tw⟩⟩
    · refine I.turnedL (ch := [z, TI, TO, i1, i2, i3]) (fun q ob hq e => ?_) hf
      simp only [List.mem_cons, List.not_mem_nil, or_false, not_or] at hq
      exact kp q ob (by simp [hq]) e
  self := by
    rintro A i s Q E ⟨hz, _⟩ h
    exact wpAny_pyIter_zip hz h
def iZip3 (K : PySem.W.Frag) (ta : TA) : TI := fun σ H R => ta σ H fun vs H1 => ∃ a b c xs ys zs, vs = [.ref a, .ref b, .ref c] ∧ SqT K H1 a xs ∧ SqT K H1 b ys ∧ SqT K H1 c zs ∧ R (ItZ K a b c) H1
theorem pi_zip3 {X : Cx} {e e2 e3 : Expr} {ta : TA} {p pos tpos : Pos} {elts : List Expr} {kk : Nat} (hg : Gl X "zip") (hm : X.mg "zip" = none) (ha : PA X [e, e2, e3] ta) (hs : starEach [e, e2, e3] X.env = (false, eval e X.env) :: starEach [e2, e3] X.env := by rfl)
    (hpl : (backTo pos (starEach [e2, e3] X.env)).any (·.1) = false := by rfl) : PI X (.Tuple elts kk tpos) (.Call (.Name "zip" p) [e, e2, e3] [] pos) (iZip3 X.K ta) := by
  refine ⟨fun pins s σ H R I want => Call_ (ld_blt I hg hm PyProof.Rows.boot_zip (PyProof.Rows.callWith_type1 (thn (ha.run pos pins s σ H _ I want) fun us s1 got => ?_) hs hpl))⟩
  obtain ⟨vs, H1, J, rel, a, b, c, xs, ys, zs, ex, qa, qb, qc, q⟩ := got
  subst ex
  cases rel with
  | cons r1 rel =>
    cases rel with
    | cons r2 rel =>
      cases rel with
      | cons r3 rel =>
        cases rel
        cases r1
        cases r2
        cases r3
        obtain ⟨u1, _, t1, _⟩ := J.tuple qa
        obtain ⟨u2, _, t2, _⟩ := J.tuple qb
        obtain ⟨u3, _, t3, _⟩ := J.tuple qc
        have la : a < s1.heap.objs.size := let ⟨_, y, _⟩ := t1; Heap.lt_size y
        have lb : b < s1.heap.objs.size := let ⟨_, y, _⟩ := t2; Heap.lt_size y
        have lc : c < s1.heap.objs.size := let ⟨_, y, _⟩ := t3; Heap.lt_size y
        refine zip_begins3 (begins_tuple a u1.toArray) (begins_tuple b u2.toArray) (begins_tuple c u3.toArray) t1 t2 t3 fun h' hz hTI hTO g1 g2 g3 _ kp => wpAny_pyIter_zip hz ?_
        have J2 : Inv X pins σ H1 { s1 with heap := h' } := J.kept (t' := s1.toks) kp
        have S := zip_sep3 (N := s1.heap.objs.size) (fp1 := [a]) (fp2 := [b]) (fp3 := [c]) (fun y hy => by rw [List.mem_singleton.mp hy]; exact la) (fun y hy => by rw [List.mem_singleton.mp hy]; exact lb) (fun y hy => by rw [List.mem_singleton.mp hy]; exact lc)
        refine ⟨s1.heap.objs.size + 5, [s1.heap.objs.size + 5, s1.heap.objs.size + 3, s1.heap.objs.size + 4, s1.heap.objs.size, s1.heap.objs.size + 1, s1.heap.objs.size + 2], _, _, H1, rfl, J2, turn_zip3 S (Nat.ne_of_lt la) (Nat.ne_of_lt (Nat.lt_succ_of_lt lb)) (Nat.ne_of_lt (Nat.lt_succ_of_lt (Nat.lt_succ_of_lt lc))), ⟨hz, hTI, ⟨_, _, _, hTO⟩, ⟨_, g1, rfl, rfl⟩, ⟨_, g2, rfl, rfl⟩, ⟨_, g3, rfl, rfl⟩⟩, fun y hy => ?_, q⟩
        have ly : s1.heap.objs.size ≤ y := by
          simp only [List.mem_cons, List.not_mem_nil, or_false] at hy
          rcases hy with rfl | rfl | rfl | rfl | rfl | rfl
          · exact Nat.le_add_right _ _
          · exact Nat.le_add_right _ _
          · exact Nat.le_add_right _ _
          · exact Nat.le_refl _
          · exact Nat.le_add_right _ _
          · exact Nat.le_add_right _ _
        exact J.fpOk ly (J.hok.fresh ly)
/-! ### len(set(t)) of a tuple of ints -/
theorem sub_len : ∀ {ks ns : List Int}, ks.Nodup → (∀ x ∈ ks, x ∈ ns) → ks.length ≤ ns.length
  | [], _, _, _ => Nat.zero_le _
  | k :: ks, ns, nd, h => by
    rw [List.nodup_cons] at nd
    have hk := h k (by simp)
    have q := sub_len (ks := ks) (ns := ns.erase k) nd.2 fun x hx => (List.mem_erase_of_ne (fun z => nd.1 (by rw [← z]; exact hx))).mpr (h x (List.mem_cons_of_mem _ hx))
    rw [List.length_erase_of_mem hk] at q
    have : 0 < ns.length := List.length_pos_of_mem hk
    rw [List.length_cons]
    omega
theorem twice : ∀ {ns : List Int}, ¬ ns.Nodup → ∃ x, x ∈ ns ∧ x ∈ ns.erase x
  | [], h => absurd List.nodup_nil h
  | y :: l, h => by
    by_cases hy : y ∈ l
    · exact ⟨y, by simp, by rw [List.erase_cons_head]; exact hy⟩
    · have hl : ¬ l.Nodup := fun z => h (List.nodup_cons.mpr ⟨hy, z⟩)
      obtain ⟨x, h1, h2⟩ := twice hl
      refine ⟨x, List.mem_cons_of_mem _ h1, ?_⟩
      have ne : y ≠ x := fun z => hy (by rw [z]; exact h1)
      rw [List.erase_cons_tail (by simpa using ne)]
      exact List.mem_cons_of_mem _ h2
theorem many_iff {ks ns : List Int} (nd : ks.Nodup) (h : ∀ x, x ∈ ns ↔ x ∈ ks) : ks.length = ns.length ↔ ns.Nodup := by
  constructor
  · intro e
    by_cases hn : ns.Nodup
    · exact hn
    · obtain ⟨x, h1, h2⟩ := twice hn
      have q := sub_len (ns := ns.erase x) nd fun y hy => by
        by_cases e2 : y = x
        · rw [e2]
          exact h2
        · exact (List.mem_erase_of_ne e2).mpr ((h y).mpr hy)
      rw [List.length_erase_of_mem h1] at q
      have : 0 < ns.length := List.length_pos_of_mem h1
      omega
  · intro hn
    have q1 := sub_len nd fun y hy => (h y).mpr hy
    have q2 := sub_len hn fun y hy => (h y).mp hy
    omega
def tLenSet (K : PySem.W.Frag) (ta : TE) : TE := fun σ H Q => ta σ H fun x H1 => ∃ (l : Addr) (ns : List Int), x = .ref l ∧ SqT K H1 l (ns.map V.int) ∧ ns.length ≤ 4000 ∧ ∀ c : Nat, (c = ns.length ↔ ns.Nodup) → Q (.int c) H1
theorem pe_lenSetT {X : Cx} {a : Expr} {ta : TE} {p p2 q pos : Pos} (hg : Gl X "len") (hm : X.mg "len" = none) (hg2 : Gl X "set") (hm2 : X.mg "set" = none) (ha : PE X a ta) (hc : X.calm = true := by rfl)
    (na : starEach [a] X.env = (false, eval a X.env) :: starEach [] X.env := by rfl) : PE X (.Call (.Name "len" p) [.Call (.Name "set" p2) [a] [] q] [] pos) (tLenSet X.K ta) := by
  refine ⟨fun pins s σ H Q I want => Call_ (ld_blt I hg hm PySem.boot_len (PyProof.Rows.callWith_builtin1 (PyProof.Rows.args_cons (Call_ (ld_blt I hg2 hm2 PyProof.Rows.boot_set (PyProof.Rows.callWith_type1 (PyProof.Rows.args_cons (thn (ha.run pins s σ H _ I want) fun v s1 got => PyProof.Rows.args_nil ?_) na) na rfl))) rfl) rfl rfl))⟩
  obtain ⟨x, H1, J, r1, l, ns, ex, hq, hl, q1⟩ := got
  subst ex
  obtain rfl : v = Value.ref l := r1
  obtain ⟨its, rel, tup, _⟩ := J.tuple hq
  refine call_set_tupI ns (J.ok.hd hc) tup (by simpa using rel.ints) (by unfold scanBound; omega) fun h' tk c hS hcl kp => PyProof.Rows.args_nil ?_
  obtain ⟨o, es, ep, t, ho, hex, hd, _, nd, mem, _, hf, hn, _⟩ := hS
  have J2 : Inv X pins σ H1 { s1 with heap := h', toks := tk } := J.kept kp
  have len : (es.toList.map keyOf).length = c := by rw [List.length_map, Array.length_toList, hn]
  have key : c = ns.length ↔ ns.Nodup := by
    rw [← len]
    refine many_iff nd fun y => ?_
    rw [← mem y, decide_eq_true_iff]
  exact call_len_set ho hex hd hf (by omega) ⟨.int c, H1, J2.tok _, ⟨_, by rw [hn]⟩, q1 c key⟩
/-! ### t[::-1] of a tuple -/
theorem fm_congr {α β : Type} {f g : α → Option β} : ∀ {l : List α}, (∀ x ∈ l, f x = g x) → l.filterMap f = l.filterMap g
  | [], _ => rfl
  | x :: l, h => by
    rw [List.filterMap_cons, List.filterMap_cons, h x (by simp), fm_congr (l := l) fun y hy => h y (List.mem_cons_of_mem _ hy)]
theorem back_pick (items : Array Value) : ((List.range items.size).filterMap fun (k : Nat) => items[((items.size : Int) - 1 + (k : Int) * (-1)).toNat]?).toArray = items.toList.reverse.toArray := by
  have e : (List.range items.size).filterMap (fun (k : Nat) => items[((items.size : Int) - 1 + (k : Int) * (-1)).toNat]?) = ((List.range items.size).map fun k => items.size - 1 - k).filterMap (items[·]?) := by
    rw [List.filterMap_map]
    refine fm_congr fun k hk => ?_
    have := List.mem_range.mp hk
    show _ = items[items.size - 1 - k]?
    congr 1
    omega
  rw [e, PySem.W.krv_range, List.filterMap_reverse, PySem.W.krv_all]
section
variable {P : Program} {w : World} {A : PySem.Around} {E : Value → Shared → Prop} {s : Shared}
theorem applied_back {sl : Addr} {vk : Value} {n : Nat} {Q : Int × Int × Nat → Shared → Prop} (hs : s.heap.IsSliceOf sl .none .none vk) (pk : IsPart vk (some (-1))) (h : Q ((n : Int) - 1, -1, n) s) : wpAny (model P w) A (Builtin.Slice.sliceApplied (.ref sl) (pure (n : Int))) Q E s := by
  obtain ⟨os, look, _, flds⟩ := id hs
  unfold Builtin.Slice.sliceApplied Builtin.Slice.sliceFields
  refine wpAny_bind (wpAny_bind (wpAny_field look flds (x := .none) rfl (wpAny_bind (wpAny_field look flds (x := .none) rfl (wpAny_bind (wpAny_field look flds (x := vk) rfl (wpAny_pure ?_)))))))
  refine wpAny_bind (HT.slicePart_ pk ?_)
  show wpAny _ _ (if ((-1 : Int) == 0) = true then _ else _) _ _ s
  rw [if_neg (by decide)]
  refine wpAny_bind (HT.slicePart_ .none (wpAny_bind (HT.slicePart_ .none (wpAny_bind (wpAny_pure ?_)))))
  have pl : Builtin.Slice.slicePlaces ((n : Int) - 1) (-1) (-1) = n := by
    unfold Builtin.Slice.slicePlaces
    rw [if_neg (by decide)]
    by_cases z : (n : Int) - 1 > -1
    · rw [if_pos z, show (-(-1) : Int) = 1 from by decide, Int.ediv_one]
      omega
    · rw [if_neg z]
      omega
  show wpAny _ _ (pure ((n : Int) - 1, (-1 : Int), Builtin.Slice.slicePlaces ((n : Int) - 1) (-1) (-1))) _ _ s
  rw [pl]
  exact wpAny_pure h
theorem getItem_back {t sl : Addr} {items : Array Value} {vk : Value} {Q : Value → Shared → Prop} (ht : IsTup s.heap t items) (hs : s.heap.IsSliceOf sl .none .none vk) (pk : IsPart vk (some (-1))) (hsz : items.size ≤ sizeLine)
    (h : Q (.ref s.heap.objs.size) { s with heap := s.heap.push { cls := .type "tuple", data := .seq items.toList.reverse.toArray } }) : wpAny (model P w) A (getItem (.ref t) (.ref sl)) Q E s := by
  have small : sizeOk (.seq items.toList.reverse.toArray) := by
    show items.toList.reverse.toArray.size ≤ sizeLine
    rw [List.size_toArray, List.length_reverse, Array.length_toList]
    exact hsz
  obtain ⟨os, look, kind, _⟩ := id hs
  have isSl : s.TypeIs (.ref sl) "slice" := ⟨os, look, kind⟩
  unfold getItem
  try with_reducible refine wpAny_holding ?_
  first | refine wpAny_bind (wpAny_pure ?_) | skip
  refine wpAny_bind (wpAny_sequenceKey ht.typeIs (by decide) ?_)
  refine wpAny_bind (wpAny_callSpecial?_slot (name := Str.ofString "__getitem__") ht.typeIs PyProof.Rows.slot_tuple_getitem (wpAny_call_entry PyProof.Rows.slot_tuple_getitem ht.typeIs PySem.F.entry_tuple_getitem ?_ (PySem.F.args_tuple_getitem_2 _ _)))
  show wpAny _ _ (Builtin.Tuple.tupleItemsOf (.ref t) >>= _) _ _ s
  refine wpAny_bind (tupleItemsOf_ ht ?_)
  refine wpAny_bind (wpAny_typeOf isSl ?_)
  rw [if_pos (by decide)]
  refine wpAny_bind (applied_back hs pk ?_)
  have no : ¬ (((items.size : Int) - 1 == 0 && (-1 : Int) == 1 && items.size == items.size) = true) := by
    intro z
    rw [Bool.and_eq_true, Bool.and_eq_true] at z
    exact absurd z.1.2 (by decide)
  show wpAny _ _ (if ((items.size : Int) - 1 == 0 && (-1 : Int) == 1 && items.size == items.size) = true then _ else _) _ _ s
  rw [if_neg no, back_pick]
  first
    | exact wpAny_bind (m := Builtin.Tuple.tupleExact _) (wpAny_newObj_type (wpAny_pure ⟨_, rfl, wpAny_pure h⟩) small)
    | exact wpAny_bind (wpAny_bind (m := Builtin.Tuple.tupleExact _) (wpAny_newObj_type (wpAny_pure (wpAny_pure ⟨_, rfl, wpAny_pure h⟩)) small))
    | exact wpAny_bind (m := Builtin.Tuple.tupleExact _) (wpAny_newObj_type (wpAny_bind (wpAny_pure (wpAny_pure ⟨_, rfl, wpAny_pure h⟩))) small)
end
def tRevT (K : PySem.W.Frag) (te : TE) : TE := fun σ H Q => te σ H fun x H1 => ∃ a xs, x = .ref a ∧ SqT K H1 a xs ∧ ∀ p, H1 p = none → Q (.ref p) (upd H1 p (.tup xs.reverse))
theorem pe_revT {X : Cx} {e : Expr} {te : TE} {k : Nat} {p1 p2 p3 pos : Pos} (he : PE X e te) : PE X (.Subscript e (.Slice none none (some (.UnaryOp .USub (.Constant (.int 1) k p1) p2)) p3) pos) (tRevT X.K te) := by
  refine ⟨fun pins s σ H Q I want => Subscript_ (thn (he.run pins s σ H _ I want) fun v s1 got => ?_)⟩
  obtain ⟨x, H1, I1, r1, a, xs, ex, hx, q⟩ := got
  subst ex
  obtain rfl : v = Value.ref a := r1
  have step : PO X (some (.UnaryOp .USub (.Constant (.int 1) k p1) p2)) (tPart (tUn (rU fun i => .int (-i)) (tC (.int 1)))) := po_some (pe_un un_neg pe_int)
  refine wpAny_Slice (thn (po_none.run pins s1 σ H1 (fun o H2 => o = none ∧ H2 = H1) I1 ⟨rfl, rfl⟩) fun vl s2 got2 => ?_)
  obtain ⟨_, _, I2, pl, rfl, rfl⟩ := got2
  refine thn (po_none.run pins s2 σ _ (fun o H3 => o = none ∧ H3 = _) I2 ⟨rfl, rfl⟩) fun vu s3 got3 => ?_
  obtain ⟨_, _, I3, pu, rfl, rfl⟩ := got3
  refine thn (step.run pins s3 σ _ (fun o H4 => o = some (-1) ∧ H4 = _) I3 ⟨1, rfl, -1, rfl, rfl, rfl⟩) fun vk s4 got4 => ?_
  obtain ⟨_, H4, I4, pk, rfl, rfl⟩ := got4
  cases pl
  cases pu
  have I5 : Inv X pins σ H4 { s4 with heap := s4.heap.push { cls := .type "slice", data := .fields #[.none, .none, vk] } } := I4.kept (t' := s4.toks) fun b ob z => Heap.get?_push_of_some _ z
  obtain ⟨its, rel, tup, small⟩ := I5.tuple hx
  have hlen := rel.length
  show wpAny (model X.prog X.w) X.A (subscriptTail e (.Slice none none (some (.UnaryOp .USub (.Constant (.int 1) k p1) p2)) p3) (.ref a) (.ref s4.heap.objs.size)) (EP X pins σ Q) X.xe _
  refine tail_any (ops := [.ref a, .ref s4.heap.objs.size]) tup.typeIs PyProof.Rows.slot_tuple_getitem.lookup ?_ (by with_unfolding_all rfl)
  refine getItem_back tup (Heap.IsSliceOf.new _ .none .none vk) pk (by rw [List.size_toArray]; omega) ?_
  refine ⟨.ref _, _, I5.laid (t' := s4.toks) (o := .tup xs.reverse) (fun b ob z => Heap.get?_push_of_some _ z) (Nat.le_refl _) ?_, rfl, q _ (I5.hok.fresh (Nat.le_refl _))⟩
  exact ⟨by rw [List.length_reverse]; exact small, _, rel.reverse, IsTup.new _ _⟩
/-! ### ties, walks, parts: the mathematics -/
def Adj (ts : List Tie) (a b : Int) (foe : Bool) : Prop := ∃ t ∈ ts, t.foe = foe ∧ ((t.one = a ∧ t.other = b) ∨ (t.one = b ∧ t.other = a))
theorem Adj.symm {ts : List Tie} {a b : Int} {k : Bool} (h : Adj ts a b k) : Adj ts b a k := by
  obtain ⟨t, ht, e, h⟩ := h
  exact ⟨t, ht, e, h.symm⟩
/-- a walk with so many foes, even or odd -/
inductive RP (ts : List Tie) (a : Int) : Int → Bool → Prop
  | nil : RP ts a a false
  | step {b c : Int} {p k : Bool} : RP ts a b p → Adj ts b c k → RP ts a c (p ^^ k)
def Rch (ts : List Tie) (a b : Int) : Prop := ∃ p, RP ts a b p
theorem RP.trans {ts : List Tie} {a b c : Int} {p q : Bool} (h : RP ts a b p) (g : RP ts b c q) : RP ts a c (p ^^ q) := by
  induction g with
  | nil =>
    rw [Bool.xor_false]
    exact h
  | step _ k ih =>
    rw [← Bool.xor_assoc]
    exact ih.step k
theorem RP.one {ts : List Tie} {a b : Int} {k : Bool} (h : Adj ts a b k) : RP ts a b k := by
  have q := RP.nil.step h
  rw [Bool.false_xor] at q
  exact q
theorem RP.symm {ts : List Tie} {a b : Int} {p : Bool} (h : RP ts a b p) : RP ts b a p := by
  induction h with
  | nil => exact .nil
  | step _ k ih =>
    have q := (RP.one k.symm).trans ih
    rw [Bool.xor_comm] at q
    exact q
theorem Rch.refl {ts : List Tie} {a : Int} : Rch ts a a := ⟨_, .nil⟩
theorem Rch.symm {ts : List Tie} {a b : Int} (h : Rch ts a b) : Rch ts b a := by
  obtain ⟨p, h⟩ := h
  exact ⟨p, h.symm⟩
theorem Rch.trans {ts : List Tie} {a b c : Int} (h : Rch ts a b) (g : Rch ts b c) : Rch ts a c := by
  obtain ⟨p, h⟩ := h
  obtain ⟨q, g⟩ := g
  exact ⟨_, h.trans g⟩
theorem Rch.adj {ts : List Tie} {a b : Int} {k : Bool} (h : Adj ts a b k) : Rch ts a b := ⟨_, RP.one h⟩
theorem Rch.ind {ts : List Tie} {a b : Int} (C : Int → Prop) (h : Rch ts a b) (h0 : C a) (hs : ∀ x y k, C x → Adj ts x y k → C y) : C b := by
  obtain ⟨p, h⟩ := h
  induction h with
  | nil => exact h0
  | step _ k ih => exact hs _ _ _ ih k
theorem Adj.rng {ts : List Tie} {n a b : Int} {k : Bool} (ok : ∀ t ∈ ts, TieOk n t) (h : Adj ts a b k) : 0 ≤ b ∧ b < n := by
  obtain ⟨t, ht, _, h⟩ := h
  obtain ⟨h1, h2, h3, h4, _⟩ := ok t ht
  rcases h with ⟨e1, e2⟩ | ⟨e1, e2⟩
  · omega
  · omega
theorem Rch.rng {ts : List Tie} {n a b : Int} (ok : ∀ t ∈ ts, TieOk n t) (ha : 0 ≤ a ∧ a < n) (h : Rch ts a b) : 0 ≤ b ∧ b < n := h.ind (fun x => 0 ≤ x ∧ x < n) ha fun _ _ _ _ k => k.rng ok
def leader (ts : List Tie) (s : Int) : Prop := ∀ q, Rch ts s q → s ≤ q
/-- rising lists of the same numbers are one -/
theorem rising_ext : ∀ {xs ys : List Int}, xs.Pairwise (· < ·) → ys.Pairwise (· < ·) → (∀ z, z ∈ xs ↔ z ∈ ys) → xs = ys
  | [], [], _, _, _ => rfl
  | [], y :: ys, _, _, h => by have := (h y).mpr (by simp); simp at this
  | x :: xs, [], _, _, h => by have := (h x).mp (by simp); simp at this
  | x :: xs, y :: ys, hx, hy, h => by
    rw [List.pairwise_cons] at hx hy
    have e : x = y := by
      have h1 := (h x).mp (by simp)
      have h2 := (h y).mpr (by simp)
      rcases List.mem_cons.mp h1 with e | e
      · exact e
      · rcases List.mem_cons.mp h2 with e' | e'
        · exact e'.symm
        · have := hx.1 y e'
          have := hy.1 x e
          omega
    subst e
    rw [rising_ext hx.2 hy.2 fun z => ?_]
    constructor
    · intro hz
      rcases List.mem_cons.mp ((h z).mp (List.mem_cons_of_mem _ hz)) with e | e
      · have := hx.1 z hz
        omega
      · exact e
    · intro hz
      rcases List.mem_cons.mp ((h z).mpr (List.mem_cons_of_mem _ hz)) with e | e
      · have := hy.1 z hz
        omega
      · exact e
/-- 0, 1, .., n - 1 -/
def rng (n : Nat) : List Int := (List.range n).map fun (i : Nat) => (i : Int)
theorem mem_rng {n : Nat} {z : Int} : z ∈ rng n ↔ 0 ≤ z ∧ z < n := by
  unfold rng
  rw [List.mem_map]
  constructor
  · rintro ⟨i, hi, rfl⟩
    have := List.mem_range.mp hi
    omega
  · rintro ⟨h1, h2⟩
    exact ⟨z.toNat, List.mem_range.mpr (by omega), by omega⟩
theorem rng_rising (n : Nat) : (rng n).Pairwise (· < ·) := by
  unfold rng
  rw [List.pairwise_map]
  exact List.pairwise_lt_range.imp (by intro a b h; omega)
theorem rng_succ (n : Nat) : rng (n + 1) = rng n ++ [(n : Int)] := by
  unfold rng
  rw [List.range_succ, List.map_append]
  rfl
theorem rng_length (n : Nat) : (rng n).length = n := by
  unfold rng
  rw [List.length_map, List.length_range]
open Classical in
/-- the part of s -/
noncomputable def partOf (ts : List Tie) (n : Nat) (s : Int) : List Int := (rng n).filter fun p => decide (Rch ts s p)
open Classical in
/-- the parts by their first places, below i -/
noncomputable def partsTo (ts : List Tie) (n i : Nat) : List (List Int) := ((rng i).filter fun s => decide (leader ts s)).map (partOf ts n)
open Classical in
theorem partsTo_succ (ts : List Tie) (n i : Nat) : partsTo ts n (i + 1) = partsTo ts n i ++ (if leader ts i then [partOf ts n i] else []) := by
  unfold partsTo
  rw [rng_succ, List.filter_append, List.map_append]
  congr 1
  by_cases h : leader ts (i : Int)
  · rw [if_pos h, List.filter_cons, if_pos (decide_eq_true h)]
    rfl
  · rw [if_neg h, List.filter_cons, if_neg (by simpa using h)]
    rfl
theorem part_rising (ts : List Tie) (n : Nat) (s : Int) : (partOf ts n s).Pairwise (· < ·) := (rng_rising n).filter _
theorem mem_part {ts : List Tie} {n : Nat} {s z : Int} : z ∈ partOf ts n s ↔ (0 ≤ z ∧ z < n) ∧ Rch ts s z := by
  unfold partOf
  rw [List.mem_filter, mem_rng]
  simp
/-! ### the least place that each comes to, gone over again and again -/
def relax (f : Int → Int) (t : Tie) : Int → Int := fun x => if x = t.one ∨ x = t.other then min (f t.one) (f t.other) else f x
def rounds (ts : List Tie) : Nat → Int → Int
  | 0 => fun x => x
  | r + 1 => ts.foldl relax (rounds ts r)
theorem relax_le (f : Int → Int) (t : Tie) (x : Int) : relax f t x ≤ f x := by
  unfold relax
  split
  · rename_i h
    rcases h with rfl | rfl <;> omega
  · exact Int.le_refl _
theorem fold_le : ∀ (l : List Tie) (f : Int → Int) (x : Int), l.foldl relax f x ≤ f x
  | [], _, _ => Int.le_refl _
  | t :: l, f, x => Int.le_trans (fold_le l (relax f t) x) (relax_le f t x)
theorem fold_tie : ∀ (l : List Tie) (f : Int → Int) (t : Tie), t ∈ l → l.foldl relax f t.one ≤ min (f t.one) (f t.other) ∧ l.foldl relax f t.other ≤ min (f t.one) (f t.other)
  | t' :: l, f, t, h => by
    rcases List.mem_cons.mp h with e | e
    · subst e
      have h1 := fold_le l (relax f t) t.one
      have h2 := fold_le l (relax f t) t.other
      have e1 : relax f t t.one = min (f t.one) (f t.other) := by unfold relax; rw [if_pos (.inl rfl)]
      have e2 : relax f t t.other = min (f t.one) (f t.other) := by unfold relax; rw [if_pos (.inr rfl)]
      rw [e1] at h1
      rw [e2] at h2
      exact ⟨h1, h2⟩
    · have ih := fold_tie l (relax f t') t e
      have h1 := relax_le f t' t.one
      have h2 := relax_le f t' t.other
      exact ⟨Int.le_trans ih.1 (by omega), Int.le_trans ih.2 (by omega)⟩
theorem fold_rch {ts : List Tie} : ∀ (l : List Tie) (f : Int → Int), (∀ t ∈ l, t ∈ ts) → (∀ x, Rch ts x (f x)) → ∀ x, Rch ts x (l.foldl relax f x)
  | [], _, _, h => h
  | t :: l, f, hl, h => fold_rch l (relax f t) (fun t' ht => hl t' (List.mem_cons_of_mem _ ht)) fun x => by
    have ad : Rch ts t.one t.other := Rch.adj (k := t.foe) ⟨t, hl t (by simp), rfl, .inl ⟨rfl, rfl⟩⟩
    unfold relax
    split
    · rename_i hx
      have key : Rch ts x t.one ∧ Rch ts x t.other := by
        rcases hx with e | e <;> subst e
        · exact ⟨Rch.refl, ad⟩
        · exact ⟨ad.symm, Rch.refl⟩
      rcases Int.le_total (f t.one) (f t.other) with q | q
      · rw [Int.min_eq_left q]
        exact key.1.trans (h _)
      · rw [Int.min_eq_right q]
        exact key.2.trans (h _)
    · exact h x
theorem rounds_rch (ts : List Tie) : ∀ (r : Nat) (x : Int), Rch ts x (rounds ts r x)
  | 0, _ => Rch.refl
  | r + 1, x => fold_rch ts _ (fun _ h => h) (rounds_rch ts r) x
theorem filter_lt {p q : Int → Bool} : ∀ {l : List Int}, (∀ x ∈ l, q x = true → p x = true) → (∃ x ∈ l, p x = true ∧ q x = false) → (l.filter q).length < (l.filter p).length
  | [], _, ⟨x, hx, _⟩ => by simp at hx
  | y :: l, hi, ⟨x, hx, hp, hq⟩ => by
    have mono : (l.filter q).length ≤ (l.filter p).length := by
      have hi' : ∀ x ∈ l, q x = true → p x = true := fun x h => hi x (List.mem_cons_of_mem _ h)
      clear hi hx hp hq
      induction l with
      | nil => exact Nat.le_refl _
      | cons z l ih =>
        have ih := ih fun x h => hi' x (List.mem_cons_of_mem _ h)
        rw [List.filter_cons, List.filter_cons]
        have hz := hi' z (by simp)
        cases h1 : q z <;> cases h2 : p z <;> simp_all <;> omega
    rw [List.filter_cons, List.filter_cons]
    rcases List.mem_cons.mp hx with e | e
    · subst e
      rw [hq, hp]
      simp
      omega
    · have ih := filter_lt (l := l) (fun x h => hi x (List.mem_cons_of_mem _ h)) ⟨x, e, hp, hq⟩
      have hy := hi y (by simp)
      cases h1 : q y <;> cases h2 : p y <;> simp_all <;> omega
open Classical in
/-- behind as many rounds as there are places each has its part's least place -/
theorem rounds_least {ts : List Tie} {n : Nat} (ok : ∀ t ∈ ts, TieOk n t) {m p : Int} (hm : leader ts m) (h0 : 0 ≤ m ∧ m < n) (hp : Rch ts m p) : rounds ts n p = m := by
  have ge : ∀ r x, Rch ts m x → m ≤ rounds ts r x := fun r x hx => hm _ (hx.trans (rounds_rch ts r x))
  have mono : ∀ r x, rounds ts (r + 1) x ≤ rounds ts r x := fun r x => fold_le ts _ x
  have atm : ∀ r, rounds ts r m = m := fun r => by
    have h1 := ge r m Rch.refl
    have h2 : rounds ts r m ≤ m := by
      induction r with
      | zero => exact Int.le_refl _
      | succ r ih => exact Int.le_trans (mono r m) (ih (ge r m Rch.refl))
    omega
  have cnt : ∀ r, ((rng n).filter fun x => decide (Rch ts m x ∧ rounds ts r x ≠ m)).length ≤ n - r := fun r => by
    induction r with
    | zero =>
      refine Nat.le_trans (List.length_filter_le _ _) ?_
      rw [rng_length]
      omega
    | succ r ih =>
      by_cases hex : ∃ x, Rch ts m x ∧ rounds ts r x ≠ m
      · obtain ⟨x, hx, hne⟩ := hex
        -- an edge over which it comes
        have edge : ∃ a b k, Rch ts m a ∧ rounds ts r a = m ∧ Adj ts a b k ∧ rounds ts r b ≠ m := by
          by_cases hn : ∃ a b k, Rch ts m a ∧ rounds ts r a = m ∧ Adj ts a b k ∧ rounds ts r b ≠ m
          · exact hn
          · exfalso
            refine hne (hx.ind (fun y => Rch ts m y ∧ rounds ts r y = m) ⟨Rch.refl, atm r⟩ fun a b k ha k' => ⟨ha.1.trans (Rch.adj k'), ?_⟩).2
            by_cases hb : rounds ts r b = m
            · exact hb
            · exact absurd ⟨a, b, k, ha.1, ha.2, k', hb⟩ hn
        obtain ⟨a, b, k, ha, ha2, hab, hb⟩ := edge
        have hmb : Rch ts m b := ha.trans (Rch.adj hab)
        have hb' : rounds ts (r + 1) b = m := by
          have h1 := ge (r + 1) b hmb
          obtain ⟨t, ht, _, h⟩ := hab
          have ft := fold_tie ts (rounds ts r) t ht
          have h2 : rounds ts (r + 1) b ≤ m := by
            rcases h with ⟨e1, e2⟩ | ⟨e1, e2⟩
            · have q := ft.2
              rw [e1, e2, ha2] at q
              exact Int.le_trans q (by omega)
            · have q := ft.1
              rw [e1, e2, ha2] at q
              exact Int.le_trans q (by omega)
          omega
        have lt := filter_lt (p := fun x => decide (Rch ts m x ∧ rounds ts r x ≠ m)) (q := fun x => decide (Rch ts m x ∧ rounds ts (r + 1) x ≠ m)) (l := rng n) (fun x _ hq => by
          have hq := of_decide_eq_true hq
          refine decide_eq_true ⟨hq.1, fun z => hq.2 ?_⟩
          have h1 := ge (r + 1) x hq.1
          have h2 := mono r x
          omega) ⟨b, mem_rng.mpr (hmb.rng ok h0), decide_eq_true ⟨hmb, hb⟩, decide_eq_false fun z => z.2 hb'⟩
        omega
      · have e : (rng n).filter (fun x => decide (Rch ts m x ∧ rounds ts (r + 1) x ≠ m)) = [] := by
          rw [List.filter_eq_nil_iff]
          intro x _ hq
          have hq := of_decide_eq_true hq
          refine hex ⟨x, hq.1, fun z => hq.2 ?_⟩
          have h1 := ge (r + 1) x hq.1
          have h2 := mono r x
          omega
        rw [e]
        exact Nat.zero_le _
  have c := cnt n
  rw [Nat.sub_self] at c
  have e := List.eq_nil_of_length_eq_zero (Nat.le_zero.mp c)
  by_cases hne : rounds ts n p = m
  · exact hne
  · rw [List.filter_eq_nil_iff] at e
    exact absurd (decide_eq_true ⟨hp, hne⟩) (e p (mem_rng.mpr (hp.rng ok h0)))
open Classical in
/-- each has a least place -/
theorem has_leader {ts : List Tie} {n : Nat} (ok : ∀ t ∈ ts, TieOk n t) {p : Int} (h0 : 0 ≤ p ∧ p < n) : ∃ m, leader ts m ∧ (0 ≤ m ∧ m < n) ∧ Rch ts m p := by
  have key : ∀ (k : Nat) (x : Int), x = k → Rch ts p x → ∃ m, leader ts m ∧ (0 ≤ m ∧ m < n) ∧ Rch ts m p := by
    intro k
    induction k using Nat.strongRecOn with
    | ind k ih =>
      intro x hx hr
      have hxr := hr.rng ok h0
      by_cases hl : leader ts x
      · exact ⟨x, hl, hxr, hr.symm⟩
      · have hl' : ∃ q, Rch ts x q ∧ q < x := by
          by_cases h : ∃ q, Rch ts x q ∧ q < x
          · exact h
          · exfalso
            refine hl fun q hq => ?_
            by_cases h' : q < x
            · exact absurd ⟨q, hq, h'⟩ h
            · omega
        obtain ⟨q, hq, hlt⟩ := hl'
        have hqr := hq.rng ok hxr
        exact ih q.toNat (by omega) q (by omega) (hr.trans hq)
  exact key p.toNat p (by omega) Rch.refl
/-! ### rows of numbers as data -/
def IntsV (H : Hp) (v : V) (xs : List Int) : Prop := ∃ b, v = .ref b ∧ H b = some (.tup (xs.map V.int))
theorem IntsV.tk {H H' : Hp} (k : Tk H H') {v : V} {xs : List Int} (h : IntsV H v xs) : IntsV H' v xs := by
  obtain ⟨a, rfl, e⟩ := h
  exact ⟨a, rfl, k _ _ e⟩
def intsD (xs : List Int) : PyData := .tuple (xs.map PyData.int)
section
variable {K : PySem.W.Frag} {H : Hp}
theorem dp_ints : ∀ (xs : List Int), DpAll K H (xs.map V.int) (xs.map PyData.int)
  | [] => .nil
  | x :: xs => .cons (.int x) (dp_ints xs)
theorem IntsV.dp {v : V} {xs : List Int} (h : IntsV H v xs) : Dp K H v (intsD xs) := by
  obtain ⟨b, rfl, e⟩ := h
  exact .tup (SqT.of e) (dp_ints xs)
end
theorem lay_ints : ∀ xs : List Int, PyData.canLayAll0 (xs.map PyData.int) = true
  | [] => by simp [PyData.canLayAll0]
  | x :: xs => by simp [PyData.canLayAll0, PyData.canLay0, lay_ints xs]
theorem deep_ints : ∀ xs : List Int, PyData.depthAll (xs.map PyData.int) = 0
  | [] => by simp [PyData.depthAll]
  | x :: xs => by simp [PyData.depthAll, PyData.depth, deep_ints xs]
theorem lay_intsD (xs : List Int) : (intsD xs).canLay0 = true := by
  unfold intsD
  rw [PyData.canLay0]
  exact lay_ints xs
theorem deep_intsD (xs : List Int) : (intsD xs).depth = 1 := by
  unfold intsD
  rw [PyData.depth, deep_ints]
theorem shaped_intsD (xs : List Int) : SeqAt.shaped (intsD xs) = true := by
  unfold SeqAt.shaped
  rw [lay_intsD, deep_intsD]
  rfl
theorem eqv_nil (xs : List Int) : PyData.eqv (intsD xs) (intsD []) = xs.isEmpty := by
  unfold intsD
  rw [PyData.eqv]
  cases xs <;> rfl
section
variable {P : Program} {w : World} {K : PySem.W.Frag} {mg : Str → Option Value} {base : Heap}
theorem Kp.free {d c l : Addr} {H H' : Hp} (k : Kp d c H H') (h : H' l = none) (h1 : l ≠ d) (h2 : l ≠ c) : H l = none := by
  cases e : H l with
  | none => rfl
  | some o =>
    rw [k l o h1 h2 e] at h
    cases h
theorem atI_of {xs : List V} {i : Int} {v : V} (h0 : 0 ≤ i) (e : xs[i.toNat]? = some v) : atI xs i = some v := by
  obtain ⟨j, rfl⟩ : ∃ j : Nat, i = (j : Int) := ⟨i.toNat, by omega⟩
  exact atI_nat (by rw [Int.toNat_natCast] at e; exact e)
theorem atI_ints {xs : List Int} {i : Int} (h0 : 0 ≤ i) (h1 : i < xs.length) : ∃ x ∈ xs, xs[i.toNat]? = some x ∧ atI (xs.map V.int) i = some (.int x) := by
  have h : i.toNat < xs.length := by omega
  exact ⟨xs[i.toNat], List.getElem_mem h, List.getElem?_eq_getElem h, atI_of h0 (by rw [List.getElem?_map, List.getElem?_eq_getElem h]; rfl)⟩
end
/-! ### data that repr tells -/
structure Fine (k w : Nat) (d : PyData) : Prop where
  lay : d.canLay0 = true
  shw : d.showable = true
  nod : d.hasDict = false
  sho : d.intsShort 13 = true
  dep : d.depth ≤ k
  wei : d.weight ≤ w
theorem Fine.int {i : Int} (h0 : -1000 ≤ i) (h1 : i < 1000) : Fine 0 10 (.int i) := by
  have hn : i.natAbs < 1024 := by omega
  have hl : i.natAbs.log2 < 10 ∨ i.natAbs = 0 := by
    by_cases e : i.natAbs = 0
    · exact .inr e
    · exact .inl ((Nat.log2_lt e).mpr (by omega))
  have hl2 : i.natAbs.log2 < 1920 := by
    rcases hl with h | h
    · omega
    · rw [h]
      decide
  refine ⟨rfl, ?_, rfl, ?_, Nat.le_refl _, ?_⟩
  · rw [PyData.showable]
    exact decide_eq_true hl2
  · have h3 := PyProof.Rows.intsShortAll_ints2 [i] (fun n hn => by rw [List.mem_singleton.mp hn]; omega)
    simpa [PyData.intsShortAll] using h3
  · rw [PyData.weight]
    split
    · omega
    · rename_i e
      rcases hl with h | h
      · omega
      · exact absurd (by simpa using h) e
theorem Fine.non : Fine 0 0 .none := ⟨rfl, rfl, rfl, rfl, Nat.le_refl _, Nat.le_refl _⟩
theorem Fine.bool (b : Bool) : Fine 0 0 (.bool b) := ⟨rfl, rfl, rfl, rfl, Nat.le_refl _, Nat.le_refl _⟩
theorem Fine.str {x : Str} (h1 : (PyData.str x).canLay0 = true) (h2 : x.cps.size ≤ 100) : Fine 0 100 (.str x) := ⟨h1, rfl, rfl, rfl, Nat.le_refl _, h2⟩
theorem Fine.mono {k k' w w' : Nat} {d : PyData} (h : Fine k w d) (hk : k ≤ k') (hw : w ≤ w') : Fine k' w' d := ⟨h.lay, h.shw, h.nod, h.sho, Nat.le_trans h.dep hk, Nat.le_trans h.wei hw⟩
theorem fine_all {k w : Nat} : ∀ {xs : List PyData}, (∀ x ∈ xs, Fine k w x) → PyData.canLayAll0 xs = true ∧ PyData.showableAll xs = true ∧ PyData.hasDictAll xs = false ∧ PyData.intsShortAll 13 xs = true ∧ PyData.depthAll xs ≤ k ∧ PyData.weightAll xs ≤ xs.length * (w + 1)
  | [], _ => by simp [PyData.canLayAll0, PyData.showableAll, PyData.hasDictAll, PyData.intsShortAll, PyData.depthAll, PyData.weightAll]
  | x :: xs, h => by
    obtain ⟨h1, h2, h3, h4, h5, h6⟩ := fine_all (xs := xs) fun y hy => h y (List.mem_cons_of_mem _ hy)
    obtain ⟨g1, g2, g3, g4, g5, g6⟩ := h x (by simp)
    refine ⟨by rw [PyData.canLayAll0, g1, h1]; rfl, by rw [PyData.showableAll, g2, h2]; rfl, by rw [PyData.hasDictAll, g3, h3]; rfl, by rw [PyData.intsShortAll, g4, h4]; rfl, ?_, ?_⟩
    · rw [PyData.depthAll]
      omega
    · rw [PyData.weightAll, List.length_cons, Nat.succ_mul]
      omega
theorem Fine.tup {k w n : Nat} {xs : List PyData} (h : ∀ x ∈ xs, Fine k w x) (hn : xs.length ≤ n) : Fine (k + 1) (n * (w + 1)) (.tuple xs) := by
  obtain ⟨h1, h2, h3, h4, h5, h6⟩ := fine_all h
  refine ⟨by rw [PyData.canLay0]; exact h1, by rw [PyData.showable]; exact h2, by rw [PyData.hasDict]; exact h3, by rw [PyData.intsShort]; exact h4, by rw [PyData.depth]; omega, ?_⟩
  rw [PyData.weight]
  exact Nat.le_trans h6 (Nat.mul_le_mul_right _ hn)
theorem Fine.len {k w : Nat} {d : PyData} (h : Fine k w d) (hk : k ≤ 60) (hw : w ≤ 1000000) : d.shown.length ≤ sizeLine := by
  have hl : PyData.layable0 d = true := by
    unfold PyData.layable0
    rw [h.lay, decide_eq_true (show d.depth ≤ 64 by have := h.dep; omega), decide_eq_true (show d.weight ≤ 2 ^ 20 by have := h.wei; omega)]
    rfl
  have := PyProof.Rows.shown_le13 hl h.sho
  rw [sizeLine_eq]
  omega
def tieD (t : Tie) : PyData := .tuple [.int t.one, .int t.other, .str (kindS t.foe)]
def webD (n : Int) (ts : List Tie) : PyData := .tuple [.int n, .tuple (ts.map tieD)]
theorem kind_ok (b : Bool) : (PyData.str (kindS b)).canLay0 = true ∧ (kindS b).cps.size ≤ 100 := by cases b <;> decide +kernel
theorem Fine.tie {n : Int} {t : Tie} (h : TieOk n t) (hn : n ≤ 40) : Fine 1 303 (tieD t) := by
  obtain ⟨h1, h2, h3, h4, _⟩ := h
  refine (Fine.tup (k := 0) (w := 100) (n := 3) (fun x hx => ?_) (Nat.le_refl _)).mono (Nat.le_refl _) (by decide)
  simp only [List.mem_cons, List.not_mem_nil, or_false] at hx
  rcases hx with rfl | rfl | rfl
  · exact (Fine.int (by omega) (by omega)).mono (Nat.le_refl _) (by decide)
  · exact (Fine.int (by omega) (by omega)).mono (Nat.le_refl _) (by decide)
  · exact Fine.str (kind_ok _).1 (kind_ok _).2
theorem Fine.web {n : Int} {ts : List Tie} (h : WebOk n ts) : Fine 3 80000 (webD n ts) := by
  have h1 := h.lo
  have h2 := h.hi
  have ft : Fine 2 36480 (.tuple (ts.map tieD)) := (Fine.tup (k := 1) (w := 303) (n := 120) (fun x hx => by
    obtain ⟨t, ht, rfl⟩ := List.mem_map.mp hx
    exact Fine.tie (h.ok t ht) h2) (by rw [List.length_map]; exact h.few)).mono (Nat.le_refl _) (by decide)
  refine (Fine.tup (k := 2) (w := 36480) (n := 2) (fun x hx => ?_) (Nat.le_refl _)).mono (Nat.le_refl _) (by decide)
  simp only [List.mem_cons, List.not_mem_nil, or_false] at hx
  rcases hx with rfl | rfl
  · exact (Fine.int (by omega) (by omega)).mono (by decide) (by decide)
  · exact ft
theorem Fine.intsD {xs : List Int} (h : ∀ x ∈ xs, 0 ≤ x ∧ x < 1000) (hl : xs.length ≤ 200) : Fine 1 2200 (intsD xs) :=
  (Fine.tup (k := 0) (w := 10) (n := 200) (fun x hx => by
    obtain ⟨i, hi, rfl⟩ := List.mem_map.mp hx
    have := h i hi
    exact Fine.int (by omega) (by omega)) (by rw [List.length_map]; exact hl)).mono (Nat.le_refl _) (by decide)
theorem dp_ties {K : PySem.W.Frag} {H : Hp} : ∀ {vs : List V} {ts : List Tie}, Paired (TieV H) vs ts → DpAll K H vs (ts.map tieD)
  | _, _, .nil => .nil
  | _, _, .cons r t => by
    obtain ⟨a, rfl, e⟩ := r
    exact .cons (.tup (SqT.of e) (.cons (.int _) (.cons (.int _) (.cons (.str _) .nil)))) (dp_ties t)
theorem WebAt.dp {K : PySem.W.Frag} {H : Hp} {v : V} {n : Int} {ts : List Tie} (h : WebAt H v n ts) : Dp K H v (webD n ts) := by
  obtain ⟨a, b, vs, rfl, h1, h2, h3⟩ := h
  exact .tup (SqT.of h1) (.cons (.int _) (.cons (.tup (SqT.of h2) (dp_ties h3)) .nil))
/-! ### ties that sides break -/
def sd (ss : List Int) (i : Int) : Int := ss.getD i.toNat 0
def tieAt (ts : List Tie) (i : Int) : Tie := ts.getD i.toNat ⟨0, 0, false⟩
def brk (ss : List Int) (t : Tie) : Bool := decide (sd ss t.one = sd ss t.other) == t.foe
def badTo (ss : List Int) (ts : List Tie) (k : Nat) : List Int := (rng k).filter fun i => brk ss (tieAt ts i)
def bad (ss : List Int) (ts : List Tie) : List Int := badTo ss ts ts.length
theorem badTo_succ (ss : List Int) (ts : List Tie) (k : Nat) : badTo ss ts (k + 1) = badTo ss ts k ++ (if brk ss (tieAt ts k) = true then [(k : Int)] else []) := by
  unfold badTo
  rw [rng_succ, List.filter_append, List.filter_cons]
  rfl
theorem badTo_len (ss : List Int) (ts : List Tie) (k : Nat) : (badTo ss ts k).length ≤ k := by
  unfold badTo
  have := List.length_filter_le (fun i => brk ss (tieAt ts i)) (rng k)
  rw [rng_length] at this
  exact this
theorem atI_sd {ss : List Int} {i : Int} (h0 : 0 ≤ i) (h1 : i < ss.length) : atI (ss.map V.int) i = some (.int (sd ss i)) := by
  have h : i.toNat < ss.length := by omega
  refine atI_of h0 ?_
  unfold sd
  rw [List.getElem?_map, List.getElem?_eq_getElem h, List.getD_eq_getElem?_getD, List.getElem?_eq_getElem h]
  rfl
theorem tieAt_of {ts : List Tie} {i : Nat} {t : Tie} (h : ts[i]? = some t) : tieAt ts i = t := by
  unfold tieAt
  rw [Int.toNat_natCast, List.getD_eq_getElem?_getD, h]
  rfl
theorem eq_brk (x y : Int) (f : Bool) : decide (V.bl (decide (V.int x = V.int y)) = V.bl (decide (V.str (kindS f) = V.str "foe"))) = (decide (x = y) == f) := by
  have e : decide (V.int x = V.int y) = decide (x = y) := by
    by_cases h : x = y
    · rw [decide_eq_true h, decide_eq_true (by rw [h])]
    · rw [decide_eq_false h, decide_eq_false (fun z => h (V.int.inj z))]
  rw [e]
  cases decide (x = y) <;> cases f <;> rfl
theorem ne_brk (x y : Int) (f : Bool) : (!decide (V.bl (!decide (V.int x = V.int y)) = V.bl (decide (V.str (kindS f) = V.str "foe")))) = (decide (x = y) == f) := by
  have e : decide (V.int x = V.int y) = decide (x = y) := by
    by_cases h : x = y
    · rw [decide_eq_true h, decide_eq_true (by rw [h])]
    · rw [decide_eq_false h, decide_eq_false (fun z => h (V.int.inj z))]
  rw [e]
  cases decide (x = y) <;> cases f <;> rfl
def spBreaks : Sp := fun vs H Q _ => ∃ (a b : Addr) (ss : List Int) (t : Tie), vs = [.ref a, .ref b] ∧ H a = some (.tup (ss.map V.int)) ∧ H b = some (.tup [.int t.one, .int t.other, .str (kindS t.foe)]) ∧ TieOk ss.length t ∧ Q (.bl (brk ss t)) H
def spBroken : Sp := fun vs H Q _ => ∃ (v : V) (a : Addr) (n : Int) (ts : List Tie) (ss : List Int), vs = [v, .ref a] ∧ WebAt H v n ts ∧ WebOk n ts ∧ H a = some (.tup (ss.map V.int)) ∧ (ss.length : Int) = n ∧
  ∀ r H', Same H H' → H' r = some (.tup ((bad ss ts).map V.int)) → Q (.ref r) H'
section
variable {P : Program} {w : World} {K : PySem.W.Frag} {mg : Str → Option Value} {base : Heap}
theorem ok_breaks {f : Addr} {fd : FuncData} (F : Fun K "breaks" "breaks" s_breaks f fd) : FnOk P w K mg base CX0 1 f fd ["sides", "tie"] spBreaks := by
  refine F.ok sc_breaks (fun vs H Q E h => ?_) (fun cdv A outer s H vs Q E hr h => ?_)
  · obtain ⟨a, b, ss, t, rfl, _⟩ := h
    rfl
  · obtain ⟨a, b, ss, t, rfl, ha, hb, ok, q⟩ := h
    refine ⟨_, (pss_cons (ps_asg (pv 1) (pg_tup rfl (pgs_cons (pg_name (i := 2) sc_breaks.nd rfl (.inl rfl)) (pgs_cons (pg_name (i := 3) sc_breaks.nd rfl (.inl rfl)) (pgs_cons (pg_name (i := 4) sc_breaks.nd rfl (.inl rfl)) pgs_nil)))))
      (pss_one (ps_ret (pe_cmpR op_eq (pe_cmpR op_eq (pe_ix ix_tup (pv 0) (pv 2) (fun _ _ => rfl)) (pe_ix ix_tup (pv 0) (pv 3) (fun _ _ => rfl)) (nomark _)) (pe_cmpR op_eq (pv 4) pe_str (nomark _)) (nomark _))))), ?_⟩
    refine ⟨.ref b, rfl, b, _, rfl, SqT.of hb, rfl, _, _, rfl, _, _, rfl, _, _, rfl, rfl, ?_⟩
    refine ⟨.ref a, rfl, .int t.one, rfl, a, _, t.one, _, rfl, rfl, SqT.of ha, atI_sd ok.1 ok.2.1, .ref a, rfl, .int t.other, rfl, a, _, t.other, _, rfl, rfl, SqT.of ha, atI_sd ok.2.2.1 ok.2.2.2.1, rfl, .str (kindS t.foe), rfl, rfl, rfl, ?_⟩
    rw [eq_brk]
    exact q
theorem ok_broken_by {f : Addr} {fd : FuncData} (F : Fun K "broken_by" "broken_by" s_broken_by f fd) (M : Free mg) (me : mg "enumerate" = none) (D1 : Df P w K mg base 1 "breaks" ["sides", "tie"] spBreaks) : FnOk P w K mg base CX0 2 f fd ["web", "sides"] spBroken := by
  obtain ⟨f1, fd1, G1, g1, k1, b1⟩ := D1
  refine F.ok sc_broken_by (fun vs H Q E h => ?_) (fun cdv A outer s H vs Q E hr h => ?_)
  · obtain ⟨v, a, n, ts, ss, rfl, _⟩ := h
    rfl
  · obtain ⟨v, a, n, ts, ss, rfl, ⟨wa, wb, us, rfl, hwa, hwb, hp⟩, ok, ha, hl, q⟩ := h
    refine ⟨_, (pss_one (ps_ret (pe_callTy call_tuple_of (by rfl) M.tuple (by decide +kernel) (pa_cons (pe_lc (own := [("number", 2), ("tie", 3)]) (g := gTup K 2 (gCons (gName 2) (gCons (gName 3) gNil))) (te := tVar 2) rfl sc_broken_by.nd (pi_enumT (by rfl) me (pa_cons (pe_ix ix_tup (pv 0) pe_int (fun _ _ => rfl)) pa_nil)) (blkOk_by (N := N_broken_by) (sc := defScope s_broken_by) (own := [("number", 2), ("tie", 3)]) (by decide +kernel)) (fun _ _ _ _ _ => (pg_tup rfl (pgs_cons (pg_name (i := 2) sc_broken_by.nd rfl (.inl rfl)) (pgs_cons (pg_name (i := 3) sc_broken_by.nd rfl (.inl rfl)) pgs_nil)))) (fun _ _ _ _ _ => (pts_one (pt_val (pe_call G1 hr (by rfl) g1 k1 b1 .nil pass0 (pa_cons (pv 1) (pa_cons (pv 3) pa_nil)))))) (fun _ _ _ _ _ => (pv 2))) pa_nil)))), ?_⟩
    have hlen : us.length = ts.length := Paired.length hp
    have few := ok.few
    refine ⟨.ref wa, rfl, wa, _, 1, .ref wb, rfl, rfl, SqT.of hwa, rfl, wb, us, rfl, SqT.of hwb, fun Z nZ => ?_⟩
    refine lc_it (walk_enumT (xs := us)) (fun i H' => H' Z = some (.lst ((badTo ss ts i).map V.int)) ∧ Same H H') ⟨upd_same, same_new nZ⟩ (fun i H' _ h => SqT.of (h.2 _ _ hwb)) ?_ ?_
    · rintro i x H1 H2 hi ⟨hZ, s1⟩ ⟨T, x1, y, rfl, nT, rfl, e1, e2⟩
      obtain rfl : V.int (i : Nat) = x1 := Option.some.inj e1
      obtain ⟨t, et, c, rfl, hc⟩ := Paired.at hp e2
      have okt := ok.ok t (List.mem_of_getElem? et)
      have s2 := s1.trans (same_new (o := .tup [.int (i : Nat), .ref c]) nT)
      have hZ2 := same_new (o := .tup [.int (i : Nat), .ref c]) nT _ _ hZ
      refine ⟨T, _, rfl, SqT.of upd_same, rfl, _, _, rfl, _, _, rfl, rfl, rfl, .ref a, rfl, .ref c, rfl, a, c, ss, t, rfl, s2 _ _ ha, s2 _ _ hc, by rw [hl]; exact okt, _, rfl, ?_⟩
      have et2 := tieAt_of et
      have lb := badTo_len ss ts i
      rw [badTo_succ, et2, List.map_append]
      by_cases hb : brk ss t = true
      · rw [hb]
        exact ⟨.int i, rfl, _, hZ2, by rw [List.length_map]; exact small1000 (by omega), upd_same, fun b o e => by rw [upd_ne (ne_of_none e nZ)]; exact s2 b o e⟩
      · rw [Bool.not_eq_true] at hb
        rw [hb]
        simp only [Bool.false_eq_true, if_false, List.map_nil, List.append_nil]
        exact ⟨hZ2, s2⟩
    · rintro H1 ⟨hZ, s1⟩
      rw [hlen] at hZ
      refine ⟨Z, _, rfl, .inl ⟨SqL.of hZ, fun r nr => ?_⟩⟩
      exact q r _ (s1.trans (same_new nr)) upd_same
end
/-! ### sides put over -/
def Bin (ss : List Int) : Prop := ∀ x ∈ ss, x = 0 ∨ x = 1
theorem sd_get {ss : List Int} {i : Int} (h0 : 0 ≤ i) (h1 : i < ss.length) : ∃ h : i.toNat < ss.length, sd ss i = ss[i.toNat] := by
  have h : i.toNat < ss.length := by omega
  refine ⟨h, ?_⟩
  unfold sd
  rw [List.getD_eq_getElem?_getD, List.getElem?_eq_getElem h]
  rfl
theorem sd_bin {ss : List Int} (b : Bin ss) {i : Int} (h0 : 0 ≤ i) (h1 : i < ss.length) : sd ss i = 0 ∨ sd ss i = 1 := by
  obtain ⟨h, e⟩ := sd_get h0 h1
  rw [e]
  exact b _ (List.getElem_mem h)
def over (ss : List Int) : List Int := ss.map fun s => 1 - s
theorem sd_over {ss : List Int} {i : Int} (h0 : 0 ≤ i) (h1 : i < ss.length) : sd (over ss) i = 1 - sd ss i := by
  obtain ⟨h, e⟩ := sd_get h0 h1
  obtain ⟨h', e'⟩ := sd_get (ss := over ss) h0 (by unfold over; rw [List.length_map]; exact h1)
  rw [e, e']
  simp [over]
theorem brk_over {ss : List Int} {t : Tie} (ok : TieOk ss.length t) : brk (over ss) t = brk ss t := by
  unfold brk
  rw [sd_over ok.1 ok.2.1, sd_over ok.2.2.1 ok.2.2.2.1]
  congr 1
  rw [decide_eq_decide]
  omega
theorem tieAt_mem {ts : List Tie} {i : Int} (h : i ∈ rng ts.length) : tieAt ts i ∈ ts := by
  rw [mem_rng] at h
  have h' : i.toNat < ts.length := by omega
  unfold tieAt
  rw [List.getD_eq_getElem?_getD, List.getElem?_eq_getElem h']
  exact List.getElem_mem h'
theorem bad_over {ss : List Int} {ts : List Tie} (ok : ∀ t ∈ ts, TieOk ss.length t) : bad (over ss) ts = bad ss ts := by
  unfold bad badTo
  exact List.filter_congr fun i hi => brk_over (ok _ (tieAt_mem hi))
def moved (ss : List Int) (p : Int) : List Int := ss.set p.toNat (1 - sd ss p)
theorem moved_len (ss : List Int) (p : Int) : (moved ss p).length = ss.length := by unfold moved; rw [List.length_set]
theorem sd_moved {ss : List Int} {p i : Int} (p0 : 0 ≤ p) (p1 : p < ss.length) (h0 : 0 ≤ i) (h1 : i < ss.length) : sd (moved ss p) i = if i = p then 1 - sd ss p else sd ss i := by
  show (ss.set p.toNat (1 - sd ss p)).getD i.toNat 0 = _
  rw [List.getD_eq_getElem?_getD, List.getElem?_set]
  by_cases hp : i = p
  · subst hp
    rw [if_pos rfl, if_pos (by omega), if_pos rfl]
    rfl
  · rw [if_neg (by omega), if_neg hp]
    unfold sd
    rw [List.getD_eq_getElem?_getD]
theorem brk_moved {ss : List Int} (b : Bin ss) {t : Tie} {p : Int} (ok : TieOk ss.length t) (p0 : 0 ≤ p) (p1 : p < ss.length) : brk (moved ss p) t = (brk ss t != (t.one == p || t.other == p)) := by
  unfold brk
  rw [sd_moved p0 p1 ok.1 ok.2.1, sd_moved p0 p1 ok.2.2.1 ok.2.2.2.1]
  have b1 := sd_bin b ok.1 ok.2.1
  have b2 := sd_bin b ok.2.2.1 ok.2.2.2.1
  have ne := ok.2.2.2.2
  by_cases h1 : t.one = p
  · have h2 : t.other ≠ p := fun z => ne (h1.trans z.symm)
    rw [if_pos h1, if_neg h2, ← h1]
    have e1 : (t.one == t.one) = true := by simp
    rw [e1, Bool.true_or]
    rcases b1 with e | e <;> rcases b2 with e' | e' <;> rw [e, e'] <;> cases t.foe <;> rfl
  · rw [if_neg h1]
    have e1 : (t.one == p) = false := by simp [h1]
    rw [e1, Bool.false_or]
    by_cases h2 : t.other = p
    · rw [if_pos h2, ← h2]
      have e2 : (t.other == t.other) = true := by simp
      rw [e2]
      rcases b1 with e | e <;> rcases b2 with e' | e' <;> rw [e, e'] <;> cases t.foe <;> rfl
    · rw [if_neg h2]
      have e2 : (t.other == p) = false := by simp [h2]
      rw [e2, Bool.bne_false]
theorem moved_cut {ss : List Int} {p : Int} (p0 : 0 ≤ p) (p1 : p < ss.length) : cutV (ss.map V.int) none (some p) ++ [V.int (1 - sd ss p)] ++ cutV (ss.map V.int) (some (p + 1)) none = (moved ss p).map V.int := by
  obtain ⟨k, rfl⟩ : ∃ k : Nat, p = k := ⟨p.toNat, by omega⟩
  have hk : k < ss.length := by omega
  have e1 : cutV (ss.map V.int) none (some (k : Int)) = (ss.take k).map V.int := by
    unfold cutV
    rw [HT.sIx_none, HT.sIx_nat, List.length_map, Nat.min_eq_left (by omega), List.drop_zero, List.map_take]
    rfl
  have e2 : cutV (ss.map V.int) (some ((k : Int) + 1)) none = (ss.drop (k + 1)).map V.int := by
    unfold cutV
    rw [HT.sIx_none, show ((k : Int) + 1) = ((k + 1 : Nat) : Int) from by omega, HT.sIx_nat, List.length_map, Nat.min_eq_left (by omega), List.map_drop]
    exact List.take_of_length_le (by rw [List.length_drop, List.length_map]; omega)
  rw [e1, e2]
  unfold moved
  rw [Int.toNat_natCast, List.set_eq_take_append_cons_drop, if_pos hk]
  simp
theorem in_bad {ss : List Int} {ts : List Tie} {i : Nat} (hi : i < ts.length) : inV (.int (i : Int)) ((bad ss ts).map V.int) = brk ss (tieAt ts i) := by
  rw [Bool.eq_iff_iff]
  unfold inV
  rw [List.any_map, List.any_eq_true]
  unfold bad badTo
  constructor
  · rintro ⟨x, hx, e⟩
    have e' : (x == (i : Int)) = true := e
    rw [beq_iff_eq] at e'
    subst e'
    exact (List.mem_filter.mp hx).2
  · intro h
    exact ⟨i, List.mem_filter.mpr ⟨mem_rng.mpr (by omega), h⟩, by show ((i : Int) == (i : Int)) = true; simp⟩
theorem flat_ints (xs : List Int) : (xs.map V.int).all flatV = true := by
  rw [List.all_map, List.all_eq_true]
  intro x _
  rfl
theorem in_two (p x y : Int) : inV (.int p) [.int x, .int y] = (x == p || y == p) := by
  show ((x == p) || ((y == p) || false)) = _
  rw [Bool.or_false]
theorem ne_bl (a b : Bool) : (!decide (V.bl a = V.bl b)) = (a != b) := by cases a <;> cases b <;> rfl
/-! ### the fixed choice: the mathematics -/
def Cons (ss : List Int) (ts : List Tie) : Prop := ∀ t ∈ ts, brk ss t = false
def Odd (ts : List Tie) (n : Nat) : Prop := ∃ x : Int, (0 ≤ x ∧ x < n) ∧ RP ts x x true
def one? (ss : List Int) (i : Int) : Bool := decide (sd ss i = 1)
structure Told (ts : List Tie) (n : Nat) (ss : List Int) : Prop where
  len : ss.length = n
  bin : Bin ss
  each : ∀ i : Int, 0 ≤ i → i < n → ∃ m, leader ts m ∧ RP ts m i (one? ss i)
theorem brk_one {ss : List Int} (b : Bin ss) {t : Tie} (ok : TieOk ss.length t) : brk ss t = ((one? ss t.one ^^ one? ss t.other) ^^ t.foe) := by
  unfold brk one?
  have b1 := sd_bin b ok.1 ok.2.1
  have b2 := sd_bin b ok.2.2.1 ok.2.2.2.1
  rcases b1 with e | e <;> rcases b2 with e' | e' <;> rw [e, e'] <;> cases t.foe <;> decide
theorem cons_adj {ss : List Int} {ts : List Tie} (b : Bin ss) (ok : ∀ t ∈ ts, TieOk ss.length t) (h : Cons ss ts) {x y : Int} {k : Bool} (ad : Adj ts x y k) : (one? ss x ^^ one? ss y) = k := by
  obtain ⟨t, ht, rfl, h1⟩ := ad
  have e := h t ht
  rw [brk_one b (ok t ht)] at e
  rcases h1 with ⟨rfl, rfl⟩ | ⟨rfl, rfl⟩
  · revert e
    cases one? ss t.one <;> cases one? ss t.other <;> cases t.foe <;> simp
  · revert e
    cases one? ss t.one <;> cases one? ss t.other <;> cases t.foe <;> simp
theorem cons_walk {ss : List Int} {ts : List Tie} (b : Bin ss) (ok : ∀ t ∈ ts, TieOk ss.length t) (h : Cons ss ts) {x y : Int} {p : Bool} (r : RP ts x y p) : (one? ss x ^^ one? ss y) = p := by
  induction r with
  | nil => rw [Bool.xor_self]
  | step _ ad ih =>
    rw [← ih, ← cons_adj b ok h ad]
    rename_i u v p k _
    cases one? ss x <;> cases one? ss u <;> cases one? ss v <;> rfl
theorem cons_no_odd {ss : List Int} {ts : List Tie} {n : Nat} (b : Bin ss) (ok : ∀ t ∈ ts, TieOk ss.length t) (h : Cons ss ts) : ¬ Odd ts n := by
  rintro ⟨x, _, r⟩
  have := cons_walk b ok h r
  rw [Bool.xor_self] at this
  cases this
theorem leader_one {ts : List Tie} {m m' i : Int} (h : leader ts m) (h' : leader ts m') (r : Rch ts m i) (r' : Rch ts m' i) : m = m' := by
  have h1 := h m' (r.trans r'.symm)
  have h2 := h' m (r'.trans r.symm)
  omega
theorem told_unique {ts : List Tie} {n : Nat} {ss zs : List Int} (ok : ∀ t ∈ ts, TieOk n t) (h : Told ts n ss) (g : Told ts n zs) (c : Cons ss ts) : ss = zs := by
  refine List.ext_getElem? fun j => ?_
  by_cases hj : j < n
  · obtain ⟨m, l1, r1⟩ := h.each j (by omega) (by omega)
    obtain ⟨m', l2, r2⟩ := g.each j (by omega) (by omega)
    obtain rfl := leader_one l1 l2 ⟨_, r1⟩ ⟨_, r2⟩
    have w := cons_walk h.bin (by rw [h.len]; exact ok) c (r1.trans r2.symm)
    rw [Bool.xor_self] at w
    have e : one? ss j = one? zs j := by
      revert w
      cases one? ss (j : Int) <;> cases one? zs (j : Int) <;> simp
    have b1 := sd_bin h.bin (i := j) (by omega) (by rw [h.len]; omega)
    have b2 := sd_bin g.bin (i := j) (by omega) (by rw [g.len]; omega)
    obtain ⟨h1, e1⟩ := sd_get (ss := ss) (i := j) (by omega) (by rw [h.len]; omega)
    obtain ⟨h2, e2⟩ := sd_get (ss := zs) (i := j) (by omega) (by rw [g.len]; omega)
    have es : sd ss j = sd zs j := by
      unfold one? at e
      rcases b1 with x | x <;> rcases b2 with y | y <;> rw [x, y] at e ⊢ <;> revert e <;> decide
    rw [Int.toNat_natCast] at h1 h2
    rw [List.getElem?_eq_getElem h1, List.getElem?_eq_getElem h2]
    have : ss[j] = zs[j] := by
      have q1 : sd ss j = ss[j] := e1
      have q2 : sd zs j = zs[j] := e2
      rw [← q1, ← q2, es]
    rw [this]
  · rw [List.getElem?_eq_none (by rw [h.len]; omega), List.getElem?_eq_none (by rw [g.len]; omega)]
theorem told_odd {ts : List Tie} {n : Nat} {ss : List Int} (ok : ∀ t ∈ ts, TieOk n t) (h : Told ts n ss) {t : Tie} (ht : t ∈ ts) (hb : brk ss t = true) : Odd ts n := by
  have okt := ok t ht
  obtain ⟨m, l1, r1⟩ := h.each t.one okt.1 okt.2.1
  obtain ⟨m', l2, r2⟩ := h.each t.other okt.2.2.1 okt.2.2.2.1
  have ad : Adj ts t.one t.other t.foe := ⟨t, ht, rfl, .inl ⟨rfl, rfl⟩⟩
  obtain rfl := leader_one l1 l2 (Rch.trans ⟨_, r1⟩ (Rch.adj ad)) ⟨_, r2⟩
  have w := (r1.step ad).trans r2.symm
  refine ⟨m, Rch.rng ok ⟨okt.1, okt.2.1⟩ ⟨_, r1.symm⟩, ?_⟩
  have e : ((one? ss t.one ^^ t.foe) ^^ one? ss t.other) = true := by
    rw [brk_one h.bin (by rw [h.len]; exact okt)] at hb
    revert hb
    cases one? ss t.one <;> cases one? ss t.other <;> cases t.foe <;> simp
  rw [← e]
  exact w
theorem bad_nil {ss : List Int} {ts : List Tie} : bad ss ts = [] ↔ Cons ss ts := by
  unfold bad badTo Cons
  rw [List.filter_eq_nil_iff]
  constructor
  · intro h t ht
    obtain ⟨j, hj⟩ := List.getElem?_of_mem ht
    have hl := (List.getElem?_eq_some_iff.mp hj).1
    have := h j (mem_rng.mpr (by omega))
    rw [tieAt_of hj] at this
    simpa using this
  · intro h i hi
    rw [h _ (tieAt_mem hi)]
    decide
/-! ### groups by their least places, sides along the ties -/
theorem RP.mono {ts ts' : List Tie} (h : ∀ t ∈ ts, t ∈ ts') {a b : Int} {p : Bool} (r : RP ts a b p) : RP ts' a b p := by
  induction r with
  | nil => exact .nil
  | step _ ad ih =>
    obtain ⟨t, ht, e, q⟩ := ad
    exact ih.step ⟨t, h t ht, e, q⟩
def bit (x : Int) : Bool := decide (x = 1)
structure GS (ts : List Tie) (n : Nat) (g s : Int → Int) (good : Bool) : Prop where
  rp : ∀ i : Int, 0 ≤ i → i < n → RP ts (g i) i (bit (s i))
  le : ∀ i : Int, 0 ≤ i → i < n → 0 ≤ g i ∧ g i ≤ i
  bn : ∀ i : Int, 0 ≤ i → i < n → s i = 0 ∨ s i = 1
  eq : ∀ t ∈ ts, g t.one = g t.other
  yes : good = true → ∀ t ∈ ts, (bit (s t.one) ^^ bit (s t.other)) = t.foe
  no : good = false → Odd ts n
theorem GS.nil (n : Nat) : GS [] n (fun i => i) (fun _ => 0) true :=
  ⟨fun i _ _ => .nil, fun i h _ => ⟨h, Int.le_refl _⟩, fun _ _ _ => .inl rfl, fun t h => by simp at h, fun _ t h => by simp at h, fun h => by cases h⟩
theorem GS.same {ts : List Tie} {n : Nat} {g s : Int → Int} {good : Bool} (h : GS ts n g s good) {a b : Int} (r : Rch ts a b) : g a = g b :=
  r.ind (fun x => g a = g x) rfl fun x y k e ad => by
    obtain ⟨t, ht, _, q⟩ := ad
    have := h.eq t ht
    rcases q with ⟨rfl, rfl⟩ | ⟨rfl, rfl⟩
    · rw [e, this]
    · rw [e, this]
theorem GS.lead {ts : List Tie} {n : Nat} {g s : Int → Int} {good : Bool} (ok : ∀ t ∈ ts, TieOk n t) (h : GS ts n g s good) {i : Int} (h0 : 0 ≤ i) (h1 : i < n) : leader ts (g i) := fun q hq => by
  have e1 := h.same hq
  have e2 := h.same (⟨_, h.rp i h0 h1⟩ : Rch ts (g i) i)
  have r := hq.rng ok ⟨(h.le i h0 h1).1, by have := (h.le i h0 h1).2; omega⟩
  have := (h.le q r.1 r.2).2
  omega
def gNew (g : Int → Int) (low high : Int) : Int → Int := fun x => if low < high ∧ g x = high then low else g x
def sNew (g s : Int → Int) (low high turn : Int) : Int → Int := fun x => if low < high ∧ g x = high then (s x + turn) % 2 else s x
theorem bit_add {a b : Int} (ha : a = 0 ∨ a = 1) (hb : b = 0 ∨ b = 1) : bit ((a + b) % 2) = (bit a ^^ bit b) ∧ ((a + b) % 2 = 0 ∨ (a + b) % 2 = 1) := by
  rcases ha with rfl | rfl <;> rcases hb with rfl | rfl <;> decide
theorem GS.step {ts : List Tie} {n : Nat} {g s : Int → Int} {good : Bool} (h : GS ts n g s good) (okts : ∀ t ∈ ts, TieOk n t) {t : Tie} (ok : TieOk n t) {low high turn : Int} (hlow : low = min (g t.one) (g t.other)) (hhigh : high = max (g t.one) (g t.other)) (ht : turn = (s t.one + s t.other + (if t.foe = true then 1 else 0)) % 2) :
    GS (ts ++ [t]) n (gNew g low high) (sNew g s low high turn) (if low = high then good && decide (turn = 0) else good) := by
  have mono : ∀ x ∈ ts, x ∈ ts ++ [t] := fun x hx => List.mem_append_left _ hx
  have ad : Adj (ts ++ [t]) t.one t.other t.foe := ⟨t, by simp, rfl, .inl ⟨rfl, rfl⟩⟩
  have r1 := (h.rp t.one ok.1 ok.2.1).mono mono
  have r2 := (h.rp t.other ok.2.2.1 ok.2.2.2.1).mono mono
  have b1 := h.bn t.one ok.1 ok.2.1
  have b2 := h.bn t.other ok.2.2.1 ok.2.2.2.1
  have bt : bit turn = ((bit (s t.one) ^^ bit (s t.other)) ^^ t.foe) ∧ (turn = 0 ∨ turn = 1) := by
    rw [ht]
    rcases b1 with e | e <;> rcases b2 with e' | e' <;> rw [e, e'] <;> cases t.foe <;> decide
  have cross : low < high → RP (ts ++ [t]) low high (bit turn) := fun hl => by
    by_cases hc : g t.one ≤ g t.other
    · have e1 : low = g t.one := by omega
      have e2 : high = g t.other := by omega
      have w := (r1.step ad).trans r2.symm
      rw [e1, e2, bt.1]
      rw [show ((bit (s t.one) ^^ bit (s t.other)) ^^ t.foe) = ((bit (s t.one) ^^ t.foe) ^^ bit (s t.other)) from by cases bit (s t.one) <;> cases bit (s t.other) <;> cases t.foe <;> rfl]
      exact w
    · have e1 : low = g t.other := by omega
      have e2 : high = g t.one := by omega
      have w := (r2.step ad.symm).trans r1.symm
      rw [e1, e2, bt.1]
      rw [show ((bit (s t.one) ^^ bit (s t.other)) ^^ t.foe) = ((bit (s t.other) ^^ t.foe) ^^ bit (s t.one)) from by cases bit (s t.one) <;> cases bit (s t.other) <;> cases t.foe <;> rfl]
      exact w
  refine ⟨fun i h0 h1 => ?_, fun i h0 h1 => ?_, fun i h0 h1 => ?_, fun x hx => ?_, fun hg x hx => ?_, fun hg => ?_⟩
  · unfold gNew sNew
    by_cases hc : low < high ∧ g i = high
    · rw [if_pos hc, if_pos hc, (bit_add (h.bn i h0 h1) bt.2).1, Bool.xor_comm]
      have w := (h.rp i h0 h1).mono mono
      rw [hc.2] at w
      exact (cross hc.1).trans w
    · rw [if_neg hc, if_neg hc]
      exact (h.rp i h0 h1).mono mono
  · unfold gNew
    have l := h.le i h0 h1
    have l1 := h.le t.one ok.1 ok.2.1
    have l2 := h.le t.other ok.2.2.1 ok.2.2.2.1
    split
    · omega
    · exact l
  · unfold sNew
    split
    · exact (bit_add (h.bn i h0 h1) bt.2).2
    · exact h.bn i h0 h1
  · unfold gNew
    rcases List.mem_append.mp hx with hx | hx
    · rw [h.eq x hx]
    · rw [List.mem_singleton.mp hx]
      split <;> split <;> omega
  · rcases List.mem_append.mp hx with hx | hx
    · have hgood : good = true := by
        by_cases e : low = high
        · rw [if_pos e] at hg
          revert hg
          cases good <;> simp
        · rw [if_neg e] at hg
          exact hg
      have q := h.yes hgood x hx
      have e := h.eq x hx
      unfold sNew
      by_cases hc : low < high ∧ g x.one = high
      · have hc' : low < high ∧ g x.other = high := ⟨hc.1, by rw [← e]; exact hc.2⟩
        have okx := okts x hx
        rw [if_pos hc, if_pos hc', (bit_add (h.bn x.one okx.1 okx.2.1) bt.2).1, (bit_add (h.bn x.other okx.2.2.1 okx.2.2.2.1) bt.2).1, ← q]
        cases bit (s x.one) <;> cases bit (s x.other) <;> cases bit turn <;> rfl
      · have hc' : ¬ (low < high ∧ g x.other = high) := fun z => hc ⟨z.1, by rw [e]; exact z.2⟩
        rw [if_neg hc, if_neg hc']
        exact q
    · rw [List.mem_singleton.mp hx]
      unfold sNew
      by_cases e : low = high
      · rw [if_pos e] at hg
        have h0 : turn = 0 := by
          revert hg
          cases good <;> simp
        rw [if_neg (by omega), if_neg (by omega)]
        have z := bt.1
        rw [h0] at z
        revert z
        cases bit (s t.one) <;> cases bit (s t.other) <;> cases t.foe <;> decide
      · have hlt : low < high := by omega
        by_cases hc : g t.one ≤ g t.other
        · rw [if_neg (by omega), if_pos ⟨hlt, by omega⟩, (bit_add b2 bt.2).1, bt.1]
          cases bit (s t.one) <;> cases bit (s t.other) <;> cases t.foe <;> rfl
        · rw [if_pos ⟨hlt, by omega⟩, if_neg (by omega), (bit_add b1 bt.2).1, bt.1]
          cases bit (s t.one) <;> cases bit (s t.other) <;> cases t.foe <;> rfl
  · have old : good = false → Odd (ts ++ [t]) n := fun e => by
      obtain ⟨x, hx, r⟩ := h.no e
      exact ⟨x, hx, r.mono mono⟩
    by_cases e : low = high
    · rw [if_pos e] at hg
      cases hgood : good
      · exact old hgood
      · rw [hgood] at hg
        have h1 : turn = 1 := by
          rcases bt.2 with z | z
          · rw [z] at hg
            cases hg
          · exact z
        have eg : g t.one = g t.other := by omega
        have w := (r1.step ad).trans (eg ▸ r2).symm
        refine ⟨g t.one, ?_, ?_⟩
        · have := h.le t.one ok.1 ok.2.1
          have := ok.2.1
          omega
        · have z := bt.1
          rw [h1] at z
          rw [show ((bit (s t.one) ^^ t.foe) ^^ bit (s t.other)) = true from by
            revert z
            cases bit (s t.one) <;> cases bit (s t.other) <;> cases t.foe <;> decide] at w
          exact w
    · rw [if_neg e] at hg
      exact old hg
/-! ### d.update(e) -/
def rUpdate : V → List V → Hp → VK → Prop := fun x vs H Q => ∃ (a b : Addr) (kvs more : List (Key × V)), x = .ref a ∧ vs = [.ref b] ∧ H a = some (.dK kvs) ∧ H b = some (.dK more) ∧ a ≠ b ∧ kvs.length + more.length ≤ sizeLine ∧ Q .non (upd H a (.dK (mergeK kvs more)))
theorem mt_update {X : Cx} : MtR X "dict.update" rUpdate := by
  intro pins s σ H x vs v us Q I rx rv h
  obtain ⟨a, b, kvs, more, ex, ev, e1, e2, ne, hl, q⟩ := h
  subst ex
  subst ev
  obtain rfl : v = Value.ref a := rx
  obtain ⟨u, eu, r1⟩ := vals1 rv
  subst eu
  obtain rfl : u = Value.ref b := r1
  obtain ⟨z1, hd1, vs1, rel1, dd1⟩ := dk_of I.hok e1
  obtain ⟨z2, hd2, vs2, rel2, dd2⟩ := dk_of I.hok e2
  refine call_meetsIn PySem.F.slot_dict_update dd1.typeIs PySem.F.entry_dict_update (PySem.F.args_dict_update_2 _ _) (meets_dict_update (mixKind X.prog X.w) a b ne hd2) ⟨vs1, vs2, dd1, dd2, by rw [← rel1.length, ← rel2.length]; exact hl, fun h' dd' _ hs => ⟨.non, _, ?_, rfl, q⟩⟩
  have he : ∃ q, h'.get? a = some q := let ⟨q, _, _, hq, _⟩ := dd'; ⟨q, hq⟩
  exact d_write (t' := s.toks) I (by rw [e1]; exact True.intro) hs he (dk_new (Nat.le_trans (length_mergeK more kvs) hl) hd1 (rel2.merge rel1) dd')
/-! ### for each place its ties -/
theorem Same.mut {H H' : Hp} {a : Addr} {o : HO} (s : Same H H') (h : H a = none) : Same H (upd H' a o) := fun b x e => by
  rw [upd_ne (ne_of_none e h)]
  exact s b x e
abbrev Nb := Int × Bool
def NbV (H : Hp) (v : V) (p : Nb) : Prop := ∃ a, v = .ref a ∧ H a = some (.tup [.int p.1, .str (kindS p.2)])
theorem NbV.tk {H H' : Hp} (k : Tk H H') {v : V} {p : Nb} (h : NbV H v p) : NbV H' v p := by
  obtain ⟨a, rfl, e⟩ := h
  exact ⟨a, rfl, k _ _ e⟩
structure Around (H : Hp) (L : Addr) (As : List Addr) (N : Nat → List Nb) : Prop where
  at' : H L = some (.lst (As.map V.ref))
  nd : As.Nodup
  each : ∀ j a, As[j]? = some a → ∃ vs, H a = some (.lst vs) ∧ Paired (NbV H) vs (N j)
  out : L ∉ As
theorem Around.same {H H' : Hp} {L : Addr} {As : List Addr} {N : Nat → List Nb} (h : Around H L As N) (s : Same H H') : Around H' L As N :=
  ⟨s _ _ h.at', h.nd, fun j a e => by
    obtain ⟨vs, h1, h2⟩ := h.each j a e
    exact ⟨vs, s _ _ h1, Paired.mono (fun _ _ x => x.tk (Same.tk s)) h2⟩, h.out⟩
theorem Around.put {H : Hp} {L q : Addr} {As : List Addr} {N : Nat → List Nb} (h : Around H L As N) {j : Nat} {a : Addr} {vs : List V} {p : Nb} (ea : As[j]? = some a) (ev : H a = some (.lst vs)) (eq : NbV H (.ref q) p) :
    Around (upd H a (.lst (vs ++ [.ref q]))) L As (fun i => N i ++ if i = j then [p] else []) := by
  have k : Tk H (upd H a (.lst (vs ++ [.ref q]))) := tk_lst ev
  refine ⟨?_, h.nd, fun i b e => ?_, h.out⟩
  · have ne : L ≠ a := fun z => h.out (by rw [z]; exact List.mem_of_getElem? ea)
    rw [upd_ne ne]
    exact h.at'
  · obtain ⟨ws, h1, h2⟩ := h.each i b e
    by_cases hij : i = j
    · subst hij
      rw [ea] at e
      cases e
      rw [ev] at h1
      cases h1
      refine ⟨_, upd_same, ?_⟩
      rw [if_pos rfl]
      exact Paired.snoc (Paired.mono (fun _ _ x => x.tk k) h2) (eq.tk k)
    · have ne : b ≠ a := fun z => hij (by
        subst z
        exact (List.getElem?_inj (List.getElem?_eq_some_iff.mp e).1 h.nd).mp (e.trans ea.symm))
      refine ⟨ws, by rw [upd_ne ne]; exact h1, ?_⟩
      rw [if_neg hij, List.append_nil]
      exact Paired.mono (fun _ _ x => x.tk k) h2
def nb1 (t : Tie) (i : Int) : List Nb := (if i = t.one then [(t.other, t.foe)] else []) ++ (if i = t.other then [(t.one, t.foe)] else [])
def nbs (ts : List Tie) (i : Int) : List Nb := ts.flatMap fun t => nb1 t i
theorem nbs_snoc (ts : List Tie) (t : Tie) (i : Int) : nbs (ts ++ [t]) i = nbs ts i ++ nb1 t i := by
  unfold nbs
  rw [List.flatMap_append]
  simp
theorem nb1_len (t : Tie) (i : Int) : (nb1 t i).length ≤ 2 := by
  unfold nb1
  rw [List.length_append]
  split <;> split <;> simp
theorem nbs_len (ts : List Tie) (i : Int) : (nbs ts i).length ≤ 2 * ts.length := by
  induction ts with
  | nil => simp [nbs]
  | cons t ts ih =>
    have h := nb1_len t i
    unfold nbs at ih ⊢
    rw [List.flatMap_cons, List.length_append, List.length_cons]
    omega
theorem mem_nbs {ts : List Tie} {i : Int} {p : Nb} : p ∈ nbs ts i ↔ Adj ts i p.1 p.2 := by
  unfold nbs Adj nb1
  rw [List.mem_flatMap]
  constructor
  · rintro ⟨t, ht, h⟩
    refine ⟨t, ht, ?_⟩
    rcases List.mem_append.mp h with h | h
    · split at h
      · rename_i e
        rw [List.mem_singleton] at h
        subst h
        exact ⟨rfl, .inl ⟨e.symm, rfl⟩⟩
      · simp at h
    · split at h
      · rename_i e
        rw [List.mem_singleton] at h
        subst h
        exact ⟨rfl, .inr ⟨rfl, e.symm⟩⟩
      · simp at h
  · rintro ⟨t, ht, e, h⟩
    refine ⟨t, ht, List.mem_append.mpr ?_⟩
    obtain ⟨p1, p2⟩ := p
    simp only at e h
    rcases h with ⟨h1, h2⟩ | ⟨h1, h2⟩
    · left
      rw [if_pos h1.symm, List.mem_singleton, ← e, ← h2]
    · right
      rw [if_pos h2.symm, List.mem_singleton, ← e, ← h1]
/-- the list that neighbours tells -/
def AroundAt (H : Hp) (v : V) (n : Int) (ts : List Tie) : Prop := ∃ L As, v = .ref L ∧ (As.length : Int) = n ∧ Around H L As (fun j => nbs ts j)
theorem AroundAt.same {H H' : Hp} {v : V} {n : Int} {ts : List Tie} (h : AroundAt H v n ts) (s : Same H H') : AroundAt H' v n ts := by
  obtain ⟨L, As, rfl, h1, h2⟩ := h
  exact ⟨L, As, rfl, h1, h2.same s⟩
def spNeighbours : Sp := fun vs H Q _ => ∃ (v : V) (n : Int) (ts : List Tie), vs = [v] ∧ WebAt H v n ts ∧ WebOk n ts ∧
  ∀ v' H', AroundAt H' v' n ts → Same H H' → Q v' H'
section
variable {P : Program} {w : World} {K : PySem.W.Frag} {mg : Str → Option Value} {base : Heap}
theorem ok_neighbours {f : Addr} {fd : FuncData} (F : Fun K "neighbours" "neighbours" s_neighbours f fd) (M : Free mg) : FnOk P w K mg base CX0 1 f fd ["web"] spNeighbours := by
  refine F.ok sc_neighbours (fun vs H Q E h => ?_) (fun cdv A outer s H vs Q E hr h => ?_)
  · obtain ⟨v, n, ts, rfl, _⟩ := h
    rfl
  · obtain ⟨v, n, ts, rfl, ⟨a, b, us, rfl, ha, hb, hp⟩, ok, q⟩ := h
    refine ⟨_, (pss_cons (ps_asg (pv 0) (pg_tup rfl (pgs_cons (pg_name (i := 1) sc_neighbours.nd rfl (.inl rfl)) (pgs_cons (pg_name (i := 2) sc_neighbours.nd rfl (.inl rfl)) pgs_nil))))
      (pss_cons (ps_setLc (i := 3) (own := [("place", 4)]) (g := gName 4) (tt := tYes) rfl sc_neighbours.nd rfl rfl (sw_true rfl rfl rfl (by decide +kernel)) (pi_range1 (by rfl) M.range (pa_cons (pv 1) pa_nil)) (blkOk_by (N := N_neighbours) (sc := defScope s_neighbours) (own := [("place", 4)]) (by decide +kernel)) (fun _ _ _ _ _ => (pg_name (i := 4) sc_neighbours.nd rfl (.inl rfl))) (fun _ _ _ _ _ => pts_nil) (fun _ _ _ _ _ => (pe_lst pa_nil)))
      (pss_cons (ps_for PassesOwn.never rfl (pi_tup (pv 2)) (pg_tup rfl (pgs_cons (pg_name (i := 5) sc_neighbours.nd rfl (.inl rfl)) (pgs_cons (pg_name (i := 6) sc_neighbours.nd rfl (.inl rfl)) (pgs_cons (pg_name (i := 7) sc_neighbours.nd rfl (.inl rfl)) pgs_nil))))
        (pss_cons (ps_expr (pe_bm PySem.F.plainAttrs_list PySem.F.slot_list_append PySem.F.type_list_append mt_append (pe_ix ix_list (pv 3) (pv 5) (fun _ _ => rfl)) (pa_cons (pe_tup (pa_cons (pv 6) (pa_cons (pv 7) pa_nil))) pa_nil)))
        (pss_one (ps_expr (pe_bm PySem.F.plainAttrs_list PySem.F.slot_list_append PySem.F.type_list_append mt_append (pe_ix ix_list (pv 3) (pv 6) (fun _ _ => rfl)) (pa_cons (pe_tup (pa_cons (pv 5) (pa_cons (pv 7) pa_nil))) pa_nil))))))
      (pss_one (ps_ret (pv 3)))))), ?_⟩
    obtain ⟨k, rfl⟩ : ∃ k : Nat, n = k := ⟨n.toNat, by have := ok.lo; omega⟩
    have hk : k ≤ 40 := by have := ok.hi; omega
    -- many, ties = web
    refine ⟨.ref a, rfl, a, _, rfl, SqT.of ha, rfl, _, _, rfl, _, _, rfl, rfl, ?_⟩
    -- around
    refine ⟨.int k, rfl, k, rfl, by omega, by omega, fun L nL => ?_⟩
    rw [Int.toNat_natCast]
    refine lc_range (lo := 0) (n := k) (fun i H' => ∃ As : List Addr, As.length = i ∧ Around H' L As (fun _ => []) ∧ (∀ x ∈ As, H x = none) ∧ Same H H') ?_ ?_ ?_
    · exact ⟨[], rfl, ⟨upd_same, List.nodup_nil, fun j a e => by simp at e, by simp⟩, fun x hx => by simp at hx, same_new nL⟩
    · rintro i H1 hi ⟨As, hl, hA, hf, s1⟩
      refine ⟨rfl, Nat.zero_le _, fun p np => ?_⟩
      have hA2 := hA.same (same_new (o := .lst []) np)
      refine ⟨_, hA2.at', by rw [List.length_map]; exact small1000 (by omega), As ++ [p], by rw [List.length_append, hl]; rfl, ?_, fun x hx => ?_, Same.mut (s1.trans (same_new np)) nL⟩
      · have npA : p ∉ As := fun z => by
          obtain ⟨j, hj⟩ := List.getElem?_of_mem z
          obtain ⟨vs, h1, _⟩ := hA.each j p hj
          rw [np] at h1
          cases h1
        have npL : p ≠ L := fun z => by
          have h1 := hA.at'
          rw [← z, np] at h1
          cases h1
        refine ⟨by rw [upd_same, List.map_append]; rfl, ?_, fun j x e => ?_, ?_⟩
        · rw [List.nodup_append]
          refine ⟨hA.nd, by simp, fun x hx y hy z => ?_⟩
          rw [List.mem_singleton] at hy
          subst hy
          subst z
          exact npA hx
        · have hx : x ≠ L := fun z => by
            subst z
            rcases List.mem_append.mp (List.mem_of_getElem? e) with h | h
            · exact hA.out h
            · exact npL (List.mem_singleton.mp h).symm
          rcases List.mem_append.mp (List.mem_of_getElem? e) with h | h
          · obtain ⟨j2, e2⟩ := List.getElem?_of_mem h
            obtain ⟨vs, h1, h2⟩ := hA2.each j2 x e2
            cases h2
            exact ⟨[], by rw [upd_ne hx]; exact h1, .nil⟩
          · rw [List.mem_singleton] at h
            subst h
            exact ⟨[], by rw [upd_ne hx]; exact upd_same, .nil⟩
        · intro z
          rcases List.mem_append.mp z with h | h
          · exact hA.out h
          · exact npL (List.mem_singleton.mp h).symm
      · rcases List.mem_append.mp hx with h | h
        · exact hf x h
        · rw [List.mem_singleton.mp h]
          exact s1.free np
    rintro H0 ⟨As, hl, hA, hf, s0⟩
    have nLH : H L = none := nL
    -- the loop
    refine ⟨.ref b, rfl, b, rfl, ⟨_, SqT.of (s0 _ _ hb)⟩, ?_⟩
    have hlen : us.length = ts.length := Paired.length hp
    refine for_tup (xs := us) (fun i σ' H' => ∃ y5 y6 y7 : Option V, σ' = [some (.ref a), some (.int k), some (.ref b), some (.ref L), none, y5, y6, y7] ∧ Around H' L As (fun j => nbs (ts.take i) j) ∧ Same H H') ?_ ?_ ?_ ?_
    · exact ⟨none, none, none, rfl, hA, s0⟩
    · rintro i σ' H' _ ⟨y5, y6, y7, rfl, hA1, s1⟩
      exact SqT.of (s1 _ _ hb)
    · rintro i x σ' H1 ex ⟨y5, y6, y7, rfl, hA1, s1⟩
      obtain ⟨t, et, c, rfl, hc⟩ := Paired.at hp ex
      have okt := ok.ok t (List.mem_of_getElem? et)
      have hti := (List.getElem?_eq_some_iff.mp et).1
      have etk : ts.take (i + 1) = ts.take i ++ [t] := by
        rw [List.take_add_one, et]
        rfl
      have hts := ok.few
      refine ⟨c, _, rfl, SqT.of (s1 _ _ hc), rfl, _, _, rfl, _, _, rfl, _, _, rfl, rfl, ?_⟩
      obtain ⟨o1, o2, o3, o4, o5⟩ := okt
      -- the first
      obtain ⟨x1, e1, e1'⟩ := getI (xs := As) o1 (by omega)
      obtain ⟨vs1, g1, p1⟩ := hA1.each _ _ e1'
      have l1 := Paired.length p1
      have l1' := nbs_len (ts.take i) (t.one.toNat : Int)
      rw [List.length_take] at l1'
      refine ⟨.ref L, rfl, .int t.one, rfl, L, _, t.one, .ref x1, rfl, rfl, SqL.of hA1.at', ?_, .inl ⟨rfl, _, SqL.of g1⟩, .int t.other, rfl, .str (kindS t.foe), rfl, by show 2 ≤ sizeLine; decide, fun p np => ?_⟩
      · exact atI_of o1 (by rw [List.getElem?_map, e1']; rfl)
      have A2 := hA1.same (same_new (o := .tup [.int t.other, .str (kindS t.foe)]) np)
      refine ⟨x1, vs1, _, rfl, rfl, same_new np _ _ g1, small1000 (by omega), ?_⟩
      have A3 := A2.put e1' (same_new np _ _ g1) (q := p) (p := (t.other, t.foe)) ⟨p, rfl, upd_same⟩
      have s3 : Same H (upd (upd H1 p (.tup [.int t.other, .str (kindS t.foe)])) x1 (.lst (vs1 ++ [.ref p]))) := Same.mut (s1.trans (same_new np)) (hf _ (List.mem_of_getElem? e1'))
      generalize upd (upd H1 p (.tup [.int t.other, .str (kindS t.foe)])) x1 (.lst (vs1 ++ [.ref p])) = H3 at A3 s3
      -- the second
      obtain ⟨x2, e2, e2'⟩ := getI (xs := As) o3 (by omega)
      obtain ⟨vs2, g2, p2⟩ := A3.each _ _ e2'
      have l2 := Paired.length p2
      rw [List.length_append] at l2
      have l2' := nbs_len (ts.take i) (t.other.toNat : Int)
      rw [List.length_take] at l2'
      have l2'' : (if t.other.toNat = t.one.toNat then [(t.other, t.foe)] else []).length ≤ 1 := by split <;> simp
      refine ⟨.ref L, rfl, .int t.other, rfl, L, _, t.other, .ref x2, rfl, rfl, SqL.of A3.at', ?_, .inl ⟨rfl, _, SqL.of g2⟩, .int t.one, rfl, .str (kindS t.foe), rfl, by show 2 ≤ sizeLine; decide, fun p' np' => ?_⟩
      · exact atI_of o3 (by rw [List.getElem?_map, e2']; rfl)
      have A4 := A3.same (same_new (o := .tup [.int t.one, .str (kindS t.foe)]) np')
      refine ⟨x2, vs2, _, rfl, rfl, same_new np' _ _ g2, small1000 (by omega), ?_⟩
      have A5 := A4.put e2' (same_new np' _ _ g2) (q := p') (p := (t.one, t.foe)) ⟨p', rfl, upd_same⟩
      refine ⟨_, _, _, rfl, ?_, Same.mut (s3.trans (same_new np')) (hf _ (List.mem_of_getElem? e2'))⟩
      refine ⟨A5.at', A5.nd, fun j z ez => ?_, A5.out⟩
      obtain ⟨ws, w1, w2⟩ := A5.each j z ez
      refine ⟨ws, w1, ?_⟩
      rw [etk, nbs_snoc]
      have en : nb1 t j = (if j = t.one.toNat then [(t.other, t.foe)] else []) ++ (if j = t.other.toNat then [(t.one, t.foe)] else []) := by
        unfold nb1
        congr 1
        · by_cases h : j = t.one.toNat
          · rw [if_pos h, if_pos (by omega)]
          · rw [if_neg h, if_neg (by omega)]
        · by_cases h : j = t.other.toNat
          · rw [if_pos h, if_pos (by omega)]
          · rw [if_neg h, if_neg (by omega)]
      rw [en, ← List.append_assoc]
      exact w2
    · rintro σ' H1 ⟨y5, y6, y7, rfl, hA1, s1⟩
      rw [hlen, List.take_length] at hA1
      exact ⟨.ref L, rfl, q _ _ ⟨L, As, rfl, by rw [hl], hA1⟩ s1⟩
end
/-! ### the places that ties lead to -/
def sideI (b : Bool) : Int := if b then 1 else 0
def kvOf (ks : List Nb) : List (Key × V) := ks.map fun p => (Sum.inl p.1, V.int (sideI p.2))
theorem kvOf_none {z : Int} : ∀ {ks : List Nb}, z ∉ ks.map (·.1) → valV (kvOf ks) (Sum.inl z) = none
  | [], _ => rfl
  | p :: ks, h => by
    rw [List.map_cons, List.mem_cons, not_or] at h
    have e := kvOf_none (ks := ks) h.2
    have h1 := h.1
    unfold kvOf at e ⊢
    rw [List.map_cons, valV_neg (fun z => h1 (Sum.inl.inj z).symm)]
    exact e
theorem kvOf_some {z : Int} {b : Bool} : ∀ {ks : List Nb}, (ks.map (·.1)).Nodup → (z, b) ∈ ks → valV (kvOf ks) (Sum.inl z) = some (.int (sideI b))
  | p :: ks, nd, h => by
    rw [List.map_cons, List.nodup_cons] at nd
    rcases List.mem_cons.mp h with e | e
    · subst e
      unfold kvOf
      rw [List.map_cons, valV_pos rfl]
    · have q := kvOf_some (ks := ks) nd.2 e
      have ne : p.1 ≠ z := fun y => nd.1 (by rw [y]; exact List.mem_map.mpr ⟨_, e, rfl⟩)
      unfold kvOf at q ⊢
      rw [List.map_cons, valV_neg (fun y => ne (Sum.inl.inj y))]
      exact q
theorem kvOf_put {ks : List Nb} {z : Int} {b : Bool} (h : z ∉ ks.map (·.1)) : putK (kvOf ks) (Sum.inl z) (.int (sideI b)) = kvOf (ks ++ [(z, b)]) := by
  unfold putK
  rw [if_neg]
  · unfold kvOf
    rw [List.map_append]
    rfl
  · intro g
    rw [List.any_eq_true] at g
    obtain ⟨kv, h1, h2⟩ := g
    unfold kvOf at h1
    rw [List.mem_map] at h1
    obtain ⟨p, hp, rfl⟩ := h1
    exact h (List.mem_map.mpr ⟨p, hp, Sum.inl.inj (of_decide_eq_true h2)⟩)
theorem kvOf_len (ks : List Nb) : (kvOf ks).length = ks.length := by unfold kvOf; rw [List.length_map]
theorem pigeon : ∀ (n : Nat) (xs : List Int), xs.Nodup → (∀ x ∈ xs, 0 ≤ x ∧ x < n) → xs.length ≤ n
  | 0, xs, _, h => by
    cases xs with
    | nil => simp
    | cons x r =>
      have := h x (by simp)
      omega
  | n + 1, xs, nd, h => by
    have q := pigeon n (xs.erase (n : Int)) (nd.erase _) fun x hx => by
      have h1 := h x (List.mem_of_mem_erase hx)
      have h2 : x ≠ n := (List.Nodup.mem_erase_iff nd).mp hx |>.1
      omega
    have l := List.length_erase (a := (n : Int)) (l := xs)
    split at l
    · omega
    · omega
structure SF (ts : List Tie) (s : Int) (ks : List Nb) (wl ex : List Int) : Prop where
  nd : (ks.map (·.1)).Nodup
  rp : ∀ p ∈ ks, RP ts s p.1 p.2
  st : s ∈ ks.map (·.1)
  sub : ∀ x ∈ wl, x ∈ ks.map (·.1)
  le : wl.length ≤ ks.length
  cl : ∀ x ∈ ks.map (·.1), x ∉ wl → x ∉ ex → ∀ y k, Adj ts x y k → y ∈ ks.map (·.1)
theorem SF.keys {ts : List Tie} {s : Int} {ks : List Nb} {wl ex : List Int} (h : SF ts s ks wl ex) {x : Int} (hx : x ∈ ks.map (·.1)) : ∃ b, (x, b) ∈ ks ∧ RP ts s x b := by
  obtain ⟨p, hp, rfl⟩ := List.mem_map.mp hx
  exact ⟨p.2, hp, h.rp p hp⟩
theorem SF.few {ts : List Tie} {n : Nat} {s : Int} {ks : List Nb} {wl ex : List Int} (h : SF ts s ks wl ex) (ok : ∀ t ∈ ts, TieOk n t) (hs : 0 ≤ s ∧ s < n) : ks.length ≤ n := by
  have q := pigeon n (ks.map (·.1)) h.nd fun x hx => by
    obtain ⟨b, _, hb⟩ := h.keys hx
    exact Rch.rng ok hs ⟨b, hb⟩
  rw [List.length_map] at q
  exact q
theorem SF.all {ts : List Tie} {s : Int} {ks : List Nb} (h : SF ts s ks [] []) (z : Int) : z ∈ ks.map (·.1) ↔ Rch ts s z := by
  constructor
  · intro hz
    obtain ⟨b, _, hb⟩ := h.keys hz
    exact ⟨b, hb⟩
  · intro hz
    exact hz.ind (fun x => x ∈ ks.map (·.1)) h.st fun x y k hx ad => h.cl x hx (by simp) (by simp) y k ad
theorem SF.pop {ts : List Tie} {s p : Int} {ks : List Nb} {wl : List Int} (h : SF ts s ks (wl ++ [p]) []) : SF ts s ks wl [p] :=
  ⟨h.nd, h.rp, h.st, fun x hx => h.sub x (List.mem_append_left _ hx), by have := h.le; rw [List.length_append] at this; omega, fun x hx h1 h2 => h.cl x hx (fun z => by
    rcases List.mem_append.mp z with z | z
    · exact h1 z
    · exact h2 z) (by simp)⟩
theorem SF.push {ts : List Tie} {s p y : Int} {b f : Bool} {ks : List Nb} {wl : List Int} (h : SF ts s ks wl [p]) (hp : RP ts s p b) (ad : Adj ts p y f) (hy : y ∉ ks.map (·.1)) : SF ts s (ks ++ [(y, b ^^ f)]) (wl ++ [y]) [p] := by
  have em : (ks ++ [(y, b ^^ f)]).map (·.1) = ks.map (·.1) ++ [y] := by rw [List.map_append]; rfl
  refine ⟨?_, fun q hq => ?_, ?_, fun x hx => ?_, ?_, fun x hx h1 h2 z k hz => ?_⟩
  · rw [em, List.nodup_append]
    refine ⟨h.nd, by simp, fun x hx z hz e => ?_⟩
    rw [List.mem_singleton] at hz
    subst hz
    subst e
    exact hy hx
  · rcases List.mem_append.mp hq with q1 | q1
    · exact h.rp q q1
    · rw [List.mem_singleton] at q1
      subst q1
      exact hp.step ad
  · rw [em]
    exact List.mem_append_left _ h.st
  · rw [em]
    rcases List.mem_append.mp hx with q1 | q1
    · exact List.mem_append_left _ (h.sub x q1)
    · exact List.mem_append_right _ q1
  · rw [List.length_append, List.length_append]
    have := h.le
    simp
    omega
  · rw [em] at hx ⊢
    rcases List.mem_append.mp hx with q1 | q1
    · exact List.mem_append_left _ (h.cl x q1 (fun q2 => h1 (List.mem_append_left _ q2)) h2 z k hz)
    · exact absurd (List.mem_append_right _ q1) h1
theorem SF.done {ts : List Tie} {s p : Int} {ks : List Nb} {wl : List Int} (h : SF ts s ks wl [p]) (hp : ∀ q ∈ nbs ts p, q.1 ∈ ks.map (·.1)) : SF ts s ks wl [] :=
  ⟨h.nd, h.rp, h.st, h.sub, h.le, fun x hx h1 _ y k ad => by
    by_cases e : x = p
    · subst e
      exact hp (y, k) (mem_nbs.mpr ad)
    · exact h.cl x hx h1 (fun z => e (List.mem_singleton.mp z)) y k ad⟩
theorem side_xor (b f : Bool) : (if decide (V.str (kindS f) = V.str "friend") = true then sideI b else 1 - sideI b) = sideI (b ^^ f) := by
  cases f
  · cases b <;> rfl
  · cases b <;> rfl
theorem room1 {k : Nat} {A : PySem.Around} (r : Room k A) : A.units + 1 < cLine := by have := r.un; omega
structure SidesOf (ts : List Tie) (s : Int) (ks : List Nb) : Prop where
  nd : (ks.map (·.1)).Nodup
  rp : ∀ p ∈ ks, RP ts s p.1 p.2
  all : ∀ z, z ∈ ks.map (·.1) ↔ Rch ts s z
def spSidesFrom : Sp := fun vs H Q _ => ∃ (v : V) (n : Int) (s : Int) (ts : List Tie), vs = [.int s, v] ∧ AroundAt H v n ts ∧ WebOk n ts ∧ 0 ≤ s ∧ s < n ∧
  ∀ d ks H', H d = none → H' d = some (.dK (kvOf ks)) → Same H H' → SidesOf ts s ks → Q (.ref d) H'
section
variable {P : Program} {w : World} {K : PySem.W.Frag} {mg : Str → Option Value} {base : Heap}
theorem ok_sides_from {f : Addr} {fd : FuncData} (F : Fun K "sides_from" "sides_from" s_sides_from f fd) (M : Free mg) : FnOk P w K mg base CX0 1 f fd ["start", "around"] spSidesFrom := by
  refine F.ok sc_sides_from (fun vs H Q E h => ?_) (fun cdv A outer sh H vs Q E hr h => ?_)
  · obtain ⟨v, n, s, ts, rfl, _⟩ := h
    rfl
  · obtain ⟨v, n, s, ts, rfl, ⟨L, As, rfl, hl, hA⟩, ok, hs0, hs1, q⟩ := h
    have hu := room1 hr
    refine ⟨_, (pss_cons (ps_set (i := 2) sc_sides_from.nd rfl (.inl rfl) (pe_disp (pps_cons (pv 0) pe_int pps_nil) (by rfl) (by rfl) (fun z => by cases z) (by decide)))
      (pss_cons (ps_set (i := 3) sc_sides_from.nd rfl (.inl rfl) (pe_lst (pa_cons (pv 0) pa_nil)))
      (pss_cons (ps_while PassesOwn.never (pt_truth (pv 3) (by intro _; rfl))
        (pss_cons (ps_set (i := 4) sc_sides_from.nd rfl (.inl rfl) (pe_bm0 PySem.F.plainAttrs_list PySem.F.slot_list_pop PySem.F.type_list_pop mt_pop (pv 3)))
        (pss_one (ps_for PassesOwn.never rfl (pi_list (pe_ix ix_list (pv 1) (pv 4) (fun _ _ => rfl))) (pg_tup rfl (pgs_cons (pg_name (i := 5) sc_sides_from.nd rfl (.inl rfl)) (pgs_cons (pg_name (i := 6) sc_sides_from.nd rfl (.inl rfl)) pgs_nil)))
          (pss_one (ps_if (pt_cmp (pc_dnotin hu (pv 5) (pv 2)))
            (Evl.pss_cut (ps_dput hu (pv 2) (pv 5) (pe_ifExp (pt_cmpR op_eq (pv 6) pe_str (nomark _)) (pe_dget hu (pv 2) (pv 4) (fun _ _ => rfl)) (pe_op op_sub pe_int (pe_dget hu (pv 2) (pv 4) (fun _ _ => rfl)))) rfl)
            (pss_one (ps_expr (pe_bm PySem.F.plainAttrs_list PySem.F.slot_list_append PySem.F.type_list_append mt_append (pv 3) (pa_cons (pv 5) pa_nil)))))
            pss_nil))))))
      (pss_one (ps_ret (pv 2)))))), ?_⟩
    obtain ⟨k, rfl⟩ : ∃ k : Nat, n = k := ⟨n.toNat, by have := ok.lo; omega⟩
    have hk : k ≤ 40 := by have := ok.hi; omega
    have hts := ok.few
    -- sides
    refine fun d nd => ⟨.int s, rfl, upd_same, [(Sum.inl s, .int 0)], rfl, (by show 1 ≤ 15; decide), ?_⟩
    have eH : upd (upd H d (.dK [])) d (.dK (mergeK [] [(Sum.inl s, .int 0)])) = upd H d (.dK (kvOf [(s, false)])) := by
      funext b
      by_cases hb : b = d
      · subst hb
        rw [upd_same, upd_same]
        rfl
      · rw [upd_ne hb, upd_ne hb, upd_ne hb]
    rw [eH]
    -- waiting
    refine ⟨.int s, rfl, by show 1 ≤ sizeLine; decide, fun W nW => ?_⟩
    have hdW : W ≠ d := (ne_of_none upd_same nW).symm
    have nWH : H W = none := by rw [upd_ne hdW] at nW; exact nW
    refine ⟨fun m σ' H' => ∃ (y4 y5 y6 : Option V) (ks : List Nb) (wl : List Int), σ' = [some (.int s), some (.ref L), some (.ref d), some (.ref W), y4, y5, y6] ∧ H' d = some (.dK (kvOf ks)) ∧ H' W = some (.lst (wl.map V.int)) ∧ Same H H' ∧ SF ts s ks wl [] ∧ m = 2 * (k - ks.length) + wl.length, ⟨_, none, none, none, [(s, false)], [s], rfl, ?_, upd_same, Same.mut (same_new nd) nWH, ?_, rfl⟩, ?_⟩
    · rw [upd_ne (Ne.symm hdW)]
      exact upd_same
    · exact ⟨by simp, fun p hp => by rw [List.mem_singleton.mp hp]; exact .nil, by simp, fun x hx => hx, Nat.le_refl _, fun x hx h1 => absurd hx h1⟩
    · rintro m σ' H1 ⟨y4, y5, y6, ks, wl, rfl, hd, hW, s1, sf, hm⟩
      refine ⟨.ref W, rfl, _, .inl ⟨_, SqL.of hW, rfl⟩, ?_⟩
      refine ite2 (fun hb => ?_) (fun hb => ?_)
      · -- a place
        cases hwl : wl with
        | nil => rw [hwl] at hb; cases hb
        | cons z zs =>
        obtain ⟨ys, p, e⟩ : ∃ (ys : List Int) (p : Int), z :: zs = ys ++ [p] := ⟨(z :: zs).dropLast, (z :: zs).getLast (by simp), (List.dropLast_concat_getLast (by simp)).symm⟩
        rw [hwl, e] at hW sf hm
        have hpk := sf.sub p (by simp)
        obtain ⟨b, hb1, hb2⟩ := sf.keys hpk
        have hpr := Rch.rng ok.ok ⟨hs0, hs1⟩ ⟨b, hb2⟩
        have sp := sf.pop
        have e3 : ((ys ++ [p]).map V.int).dropLast = ys.map V.int := by simp
        refine ⟨fun σ' H' => ∃ m', m' < m ∧ ∃ (y4 y5 y6 : Option V) (ks : List Nb) (wl : List Int), σ' = [some (.int s), some (.ref L), some (.ref d), some (.ref W), y4, y5, y6] ∧ H' d = some (.dK (kvOf ks)) ∧ H' W = some (.lst (wl.map V.int)) ∧ Same H H' ∧ SF ts s ks wl [] ∧ m' = 2 * (k - ks.length) + wl.length, fun _ _ h => h, ?_⟩
        refine ⟨.ref W, rfl, .inl ⟨rfl, _, SqL.of hW⟩, W, _, .int p, rfl, rfl, hW, by simp, ?_⟩
        rw [e3]
        have hd2 : (upd H1 W (.lst (ys.map V.int))) d = some (.dK (kvOf ks)) := by rw [upd_ne (Ne.symm hdW)]; exact hd
        have hW2 : (upd H1 W (.lst (ys.map V.int))) W = some (.lst (ys.map V.int)) := upd_same
        have s2 : Same H (upd H1 W (.lst (ys.map V.int))) := Same.mut s1 nWH
        generalize upd H1 W (.lst (ys.map V.int)) = H2 at hd2 hW2 s2
        have A2 := hA.same s2
        obtain ⟨x, ex, ex'⟩ := getI (xs := As) hpr.1 (by omega)
        obtain ⟨us, g, pr⟩ := A2.each _ _ ex'
        have epk : ((p.toNat : Nat) : Int) = p := by omega
        rw [epk] at pr
        refine ⟨.ref L, rfl, .int p, rfl, L, _, p, .ref x, rfl, rfl, SqL.of A2.at', atI_of hpr.1 (by rw [List.getElem?_map, ex']; rfl), x, rfl, ⟨_, SqL.of g⟩, ?_⟩
        have gH : H x = some (.lst us) := by
          obtain ⟨us', g', _⟩ := hA.each _ _ ex'
          rw [s2 _ _ g'] at g
          cases g
          exact g'
        refine for_list (xs := us) (fun i σ' H' => ∃ (y5 y6 : Option V) (ks : List Nb) (wl : List Int), σ' = [some (.int s), some (.ref L), some (.ref d), some (.ref W), some (.int p), y5, y6] ∧ H' d = some (.dK (kvOf ks)) ∧ H' W = some (.lst (wl.map V.int)) ∧ Same H H' ∧ SF ts s ks wl [p] ∧ (p, b) ∈ ks ∧ (∀ q ∈ (nbs ts p).take i, q.1 ∈ ks.map (·.1)) ∧ 2 * (k - ks.length) + wl.length < m) ?_ ?_ ?_ ?_
        · exact ⟨y5, y6, ks, ys, rfl, hd2, hW2, s2, sp, hb1, fun q hq => by simp at hq, by rw [hm, List.length_append]; simp⟩
        · rintro i σ' H' _ ⟨y5, y6, ks, wl, rfl, _, _, s3, _⟩
          exact SqL.of (s3 _ _ gH)
        · rintro i u σ' H3 eu ⟨y5, y6, ks, wl, rfl, hd3, hW3, s3, sf3, hb3, hdn, hlt⟩
          have A3 := hA.same s3
          obtain ⟨us', g', pr'⟩ := A3.each _ _ ex'
          rw [s3 _ _ gH] at g'
          cases g'
          rw [epk] at pr'
          obtain ⟨⟨y, fo⟩, ey, c, rfl, hc⟩ := Paired.at pr' eu
          have ady := mem_nbs.mp (List.mem_of_getElem? ey)
          have few := sf3.few ok.ok ⟨hs0, hs1⟩
          have etk : (nbs ts p).take (i + 1) = (nbs ts p).take i ++ [(y, fo)] := by
            rw [List.take_add_one, ey]
            rfl
          refine ⟨c, _, rfl, SqT.of hc, rfl, _, _, rfl, _, _, rfl, rfl, ?_⟩
          refine ⟨.int y, rfl, .ref d, rfl, d, _, rfl, DGet.k (k := Sum.inl y) hd3, _, rfl, ?_⟩
          by_cases hy : y ∈ ks.map (·.1)
          · obtain ⟨yb, yb1, _⟩ := sf3.keys hy
            rw [kvOf_some sf3.nd yb1]
            refine ⟨_, _, ks, wl, rfl, hd3, hW3, s3, sf3, hb3, fun q hq => ?_, hlt⟩
            rw [etk] at hq
            rcases List.mem_append.mp hq with h | h
            · exact hdn q h
            · rw [List.mem_singleton.mp h]
              exact hy
          · rw [kvOf_none hy]
            have sfp := sf3.push (sf3.rp _ hb3) ady hy
            have few2 := sfp.few ok.ok ⟨hs0, hs1⟩
            have lks : (kvOf ks).length < sizeLine := by rw [kvOf_len]; exact small1000 (by omega)
            have vp := kvOf_some sf3.nd hb3
            have ep := kvOf_put (b := b ^^ fo) hy
            refine ⟨fun σ' H' => σ' = [some (.int s), some (.ref L), some (.ref d), some (.ref W), some (.int p), some (.int y), some (.str (kindS fo))] ∧ H' = upd H3 d (.dK (kvOf (ks ++ [(y, b ^^ fo)]))), ?_, ?_⟩
            · refine ⟨.str (kindS fo), rfl, rfl, _, rfl, ?_⟩
              rw [← ep]
              cases fo
              · refine ⟨.ref d, rfl, .int p, rfl, d, _, rfl, (by rw [← vp]; exact DGet.k (k := Sum.inl p) hd3), .ref d, rfl, .int y, rfl, d, _, rfl, DPut.k (k := Sum.inl y) hd3 lks, rfl, ?_⟩
                rw [Bool.xor_false]
              · refine ⟨.ref d, rfl, .int p, rfl, d, _, rfl, (by rw [← vp]; exact DGet.k (k := Sum.inl p) hd3), 1, sideI b, rfl, rfl, .ref d, rfl, .int y, rfl, d, _, rfl, DPut.k (k := Sum.inl y) hd3 lks, rfl, ?_⟩
                cases b <;> rfl
            · rintro σ' H4 ⟨rfl, rfl⟩
              have hW4 : (upd H3 d (.dK (kvOf (ks ++ [(y, b ^^ fo)])))) W = some (.lst (wl.map V.int)) := by rw [upd_ne hdW]; exact hW3
              have lw := sf3.le
              refine ⟨.ref W, rfl, .inl ⟨rfl, _, SqL.of hW4⟩, .int y, rfl, W, _, _, rfl, rfl, hW4, by rw [List.length_map]; exact small1000 (by omega), ?_⟩
              refine ⟨_, _, ks ++ [(y, b ^^ fo)], wl ++ [y], rfl, ?_, by rw [upd_same, List.map_append]; rfl, Same.mut (Same.mut s3 nd) nWH, sfp, List.mem_append_left _ hb3, fun q hq => ?_, ?_⟩
              · rw [upd_ne (Ne.symm hdW)]
                exact upd_same
              · rw [List.map_append]
                rw [etk] at hq
                rcases List.mem_append.mp hq with h | h
                · exact List.mem_append_left _ (hdn q h)
                · rw [List.mem_singleton.mp h]
                  exact List.mem_append_right _ (by simp)
              · rw [List.length_append] at few2 ⊢
                rw [List.length_append]
                simp only [List.length_cons, List.length_nil] at few2 ⊢
                omega
        · rintro σ' H3 ⟨y5, y6, ks, wl, rfl, hd3, hW3, s3, sf3, hb3, hdn, hlt⟩
          rw [Paired.length pr, List.take_length] at hdn
          exact ⟨_, hlt, _, _, _, ks, wl, rfl, hd3, hW3, s3, sf3.done hdn, rfl⟩
      · -- none is left
        have hwl : wl = [] := by
          cases wl with
          | nil => rfl
          | cons z zs => exact absurd rfl hb
        subst hwl
        exact ⟨.ref d, rfl, q d ks H1 nd hd s1 ⟨sf.nd, sf.rp, sf.all⟩⟩
end
theorem mem_putK {k z : Key} {v : V} {kvs : List (Key × V)} : z ∈ (putK kvs k v).map (·.1) ↔ z ∈ kvs.map (·.1) ∨ z = k := by
  unfold putK
  split
  · rename_i h
    rw [List.any_eq_true] at h
    obtain ⟨kv, h1, h2⟩ := h
    have h3 := of_decide_eq_true h2
    rw [List.map_map]
    have e : (Prod.fst ∘ fun kv : Key × V => if kv.1 = k then (kv.1, v) else kv) = Prod.fst := by
      funext p
      show (if p.1 = k then (p.1, v) else p).1 = p.1
      split <;> rfl
    rw [show ((fun x : Key × V => x.1) ∘ fun kv : Key × V => if kv.1 = k then (kv.1, v) else kv) = Prod.fst from e]
    constructor
    · exact .inl
    · rintro (h | h)
      · exact h
      · rw [h, ← h3]
        exact List.mem_map.mpr ⟨kv, h1, rfl⟩
  · rw [List.map_append, List.mem_append]
    simp
theorem mem_mergeK {z : Key} : ∀ {more kvs : List (Key × V)}, z ∈ (mergeK kvs more).map (·.1) ↔ z ∈ kvs.map (·.1) ∨ z ∈ more.map (·.1)
  | [], kvs => by
    show z ∈ kvs.map (·.1) ↔ _
    simp
  | p :: r, kvs => by
    have q := mem_mergeK (z := z) (more := r) (kvs := putK kvs p.1 p.2)
    rw [mem_putK] at q
    show z ∈ (mergeK (putK kvs p.1 p.2) r).map (·.1) ↔ _
    rw [q, List.map_cons, List.mem_cons, or_assoc]
theorem valV_isSome {k : Key} : ∀ {kvs : List (Key × V)}, (valV kvs k).isSome = true ↔ k ∈ kvs.map (·.1)
  | [] => by simp [valV_nil]
  | p :: r => by
    by_cases h : p.1 = k
    · rw [valV_pos h, List.map_cons, List.mem_cons]
      simp [h]
    · rw [valV_neg h, List.map_cons, List.mem_cons, valV_isSome]
      constructor
      · exact .inr
      · rintro (e | e)
        · exact absurd e.symm h
        · exact e
theorem kvOf_keys (ks : List Nb) : (kvOf ks).map (·.1) = (ks.map (·.1)).map Sum.inl := by
  unfold kvOf
  rw [List.map_map, List.map_map]
  rfl
theorem lead_iff {ts : List Tie} {n : Nat} (ok : ∀ t ∈ ts, TieOk n t) {i : Int} (h0 : 0 ≤ i ∧ i < n) : leader ts i ↔ ¬ ∃ x, 0 ≤ x ∧ x < i ∧ Rch ts x i := by
  constructor
  · rintro h ⟨x, h1, h2, h3⟩
    have := h x h3.symm
    omega
  · intro h q hq
    rcases Int.lt_or_le q i with l | l
    · exact absurd ⟨q, (hq.rng ok h0).1, l, hq.symm⟩ h
    · exact l
theorem rgV_ints (n : Nat) : rgV 0 n = (rng n).map V.int := by
  unfold rgV rng
  rw [List.map_map, show ((n : Int) - 0).toNat = n from by omega]
  refine List.map_congr_left fun i _ => ?_
  show V.int (0 + (i : Int)) = V.int i
  rw [Int.zero_add]
/-! ### the law: the least place that each comes to -/
def lf (f : Int → Int) (n : Nat) : List V := (rng n).map fun i => V.int (f i)
theorem lf_len (f : Int → Int) (n : Nat) : (lf f n).length = n := by unfold lf; rw [List.length_map, rng_length]
theorem lf_get? (f : Int → Int) {n j : Nat} (h : j < n) : (lf f n)[j]? = some (.int (f j)) := by
  unfold lf rng
  rw [List.map_map, List.getElem?_map, List.getElem?_range h]
  rfl
theorem lf_at (f : Int → Int) {n : Nat} {i : Int} (h0 : 0 ≤ i) (h1 : i < n) : atI (lf f n) i = some (.int (f i)) := by
  have e : ((i.toNat : Nat) : Int) = i := by omega
  refine atI_of h0 ?_
  rw [lf_get? f (by omega), e]
theorem lf_set (f : Int → Int) {n : Nat} {i y : Int} (h0 : 0 ≤ i) (h1 : i < n) : (lf f n).set i.toNat (.int y) = lf (fun x => if x = i then y else f x) n := by
  refine List.ext_getElem? fun j => ?_
  rw [List.getElem?_set]
  by_cases hj : j < n
  · by_cases e : i.toNat = j
    · rw [if_pos e, if_pos (by rw [lf_len]; omega), lf_get? _ hj, if_pos (by omega)]
    · rw [if_neg e, lf_get? _ hj, lf_get? _ hj, if_neg (by omega)]
  · have e : i.toNat ≠ j := by omega
    rw [if_neg e, List.getElem?_eq_none (by rw [lf_len]; omega), List.getElem?_eq_none (by rw [lf_len]; omega)]
theorem ixN_of {n : Nat} {i : Int} (h0 : 0 ≤ i) (h1 : i < n) : ixN n i = some i.toNat := by
  unfold ixN
  rw [if_pos (by omega), if_pos (by omega)]
/-! ### the fixed choice, as it is told -/
def spFixed : Sp := fun vs H Q _ => ∃ (v : V) (n : Nat) (ts : List Tie), vs = [v] ∧ WebAt H v n ts ∧ WebOk n ts ∧
  (∀ ss r H', Told ts n ss → Cons ss ts → Same H H' → H' r = some (.tup (ss.map V.int)) → Q (.ref r) H') ∧ ∀ H', Odd ts n → Same H H' → Q .non H'
theorem valV_merge : ∀ {more kvs : List (Key × V)} {k : Key} {v : V}, valV (mergeK kvs more) k = some v → valV kvs k = some v ∨ (k, v) ∈ more
  | [], _, _, _, h => .inl h
  | p :: r, kvs, k, v, h => by
    have q := valV_merge (more := r) (kvs := putK kvs p.1 p.2) (k := k) (v := v) h
    rcases q with q | q
    · rw [valV_put] at q
      by_cases e : k = p.1
      · rw [if_pos e] at q
        obtain rfl := Option.some.inj q
        exact .inr (by rw [e]; simp)
      · rw [if_neg e] at q
        exact .inl q
    · exact .inr (List.mem_cons_of_mem _ q)
theorem told_of {ts : List Tie} {n : Nat} {ss : List Int} (hl : ss.length = n) (h : ∀ (i : Nat) (x : Int), ss[i]? = some x → ∃ m b, leader ts m ∧ RP ts m i b ∧ x = sideI b) : Told ts n ss := by
  refine ⟨hl, fun x hx => ?_, fun i h0 h1 => ?_⟩
  · obtain ⟨i, hi⟩ := List.getElem?_of_mem hx
    obtain ⟨m, b, _, _, rfl⟩ := h i x hi
    cases b
    · exact .inl rfl
    · exact .inr rfl
  · obtain ⟨h', e⟩ := sd_get (ss := ss) h0 (by rw [hl]; exact h1)
    obtain ⟨m, b, l, r, ex⟩ := h i.toNat _ (List.getElem?_eq_getElem h')
    refine ⟨m, l, ?_⟩
    have e2 : one? ss i = b := by
      unfold one?
      rw [e, ex]
      cases b <;> rfl
    rw [e2]
    rw [show ((i.toNat : Nat) : Int) = i from by omega] at r
    exact r
section
variable {P : Program} {w : World} {K : PySem.W.Frag} {mg : Str → Option Value} {base : Heap}
theorem ok_sides_of {f : Addr} {fd : FuncData} (F : Fun K "sides_of" "sides_of" s_sides_of f fd) (M : Free mg) (D1 : Df P w K mg base 1 "neighbours" ["web"] spNeighbours) (D2 : Df P w K mg base 1 "sides_from" ["start", "around"] spSidesFrom) (D3 : Df P w K mg base 2 "broken_by" ["web", "sides"] spBroken) : FnOk P w K mg base CX0 3 f fd ["web"] spFixed := by
  obtain ⟨f1, fd1, G1, g1, k1, b1⟩ := D1
  obtain ⟨f2, fd2, G2, g2, k2, b2⟩ := D2
  obtain ⟨f3, fd3, G3, g3, k3, b3⟩ := D3
  refine F.ok sc_sides_of (fun vs H Q E h => ?_) (fun cdv A outer sh H vs Q E hr h => ?_)
  · obtain ⟨v, n, ts, rfl, _⟩ := h
    rfl
  · obtain ⟨v, n, ts, rfl, hw, ok, q, qn⟩ := h
    have hu := room1 hr
    have hr1 : Room 1 _ := hr.mono (by decide : 1 ≤ 2)
    have hk : n ≤ 40 := by have := ok.hi; omega
    refine ⟨_, (pss_cons (ps_set (i := 1) sc_sides_of.nd rfl (.inl rfl) (pe_call G1 hr1 (by rfl) g1 k1 b1 .nil pass0 (pa_cons (pv 0) pa_nil)))
      (pss_cons (ps_set (i := 2) sc_sides_of.nd rfl (.inr rfl) pe_dnewK)
      (Evl.pss_cut (ps_for PassesOwn.never rfl (pi_range1 (by rfl) M.range (pa_cons (pe_ix ix_tup (pv 0) pe_int (fun _ _ => rfl)) pa_nil)) (pg_name (i := 3) sc_sides_of.nd rfl (.inl rfl))
        (pss_one (ps_if (pt_cmp (pc_dnotin hu (pv 3) (pv 2)))
          (pss_one (ps_expr (pe_bm PySem.F.plainAttrs_dict PySem.F.slot_dict_update PySem.F.type_dict_update mt_update (pv 2) (pa_cons (pe_call G2 hr1 (by rfl) g2 k2 b2 .nil pass0 (pa_cons (pv 3) (pa_cons (pv 1) pa_nil))) pa_nil))))
          pss_nil)))
      (pss_cons (ps_set (i := 4) sc_sides_of.nd rfl (.inl rfl) (pe_callTy call_tuple_of (by rfl) M.tuple (by decide +kernel) (pa_cons (pe_lc (own := [("place", 5)]) (g := gName 5) (tt := tYes) rfl sc_sides_of.nd (pi_range1 (by rfl) M.range (pa_cons (pe_ix ix_tup (pv 0) pe_int (fun _ _ => rfl)) pa_nil)) (blkOk_by (N := N_sides_of) (sc := defScope s_sides_of) (own := [("place", 5)]) (by decide +kernel)) (fun _ _ _ _ _ => (pg_name (i := 5) sc_sides_of.nd rfl (.inl rfl))) (fun _ _ _ _ _ => pts_nil) (fun _ _ _ _ _ => (pe_dget hu (pv 2) (pv 5) (fun _ _ => rfl)))) pa_nil)))
      (pss_cons (ps_if (pt_cmpR (op_neD hr.units) (pe_call G3 hr (by rfl) g3 k3 b3 .nil pass0 (pa_cons (pv 0) (pa_cons (pv 4) pa_nil))) (pe_tup pa_nil) (nomark _))
        (pss_one (ps_ret pe_non))
        pss_nil)
      (pss_one (ps_ret (pv 4)))))))), ?_⟩
    -- around, told
    refine ⟨v, rfl, v, n, ts, rfl, hw, ok, fun u H1 hA s1 pD nD => ?_⟩
    have nDH : H pD = none := s1.free nD
    have sA : Same H1 (upd H1 pD (.dK [])) := same_new nD
    have hw0 := hw
    obtain ⟨a, b, vs, rfl, ha, hb, hp⟩ := hw
    refine ⟨fun σ' H' => ∃ (y3 : Option V) (kvs : List (Key × V)), σ' = [some (.ref a), some u, some (.ref pD), y3, none, none] ∧ H' pD = some (.dK kvs) ∧ (∀ i : Nat, i < n → ∃ m b, leader ts m ∧ RP ts m i b ∧ valV kvs (Sum.inl (i : Int)) = some (.int (sideI b))) ∧ Same H1 H', ?_, ?_⟩
    · refine ⟨.ref a, rfl, a, _, 0, .int n, rfl, rfl, SqT.of (sA _ _ (s1 _ _ ha)), rfl, n, rfl, by omega, by omega, ?_⟩
      rw [Int.toNat_natCast]
      refine for_range (lo := 0) (n := n) (fun i σ' H' => ∃ (y3 : Option V) (kvs : List (Key × V)), σ' = [some (.ref a), some u, some (.ref pD), y3, none, none] ∧ H' pD = some (.dK kvs) ∧ kvs.length ≤ 40 * i ∧
        (∀ z, z ∈ kvs.map (·.1) ↔ ∃ y, z = Sum.inl y ∧ ∃ x, 0 ≤ x ∧ x < (i : Int) ∧ Rch ts x y) ∧ (∀ (y : Int) (v : V), valV kvs (Sum.inl y) = some v → ∃ m b, leader ts m ∧ RP ts m y b ∧ v = .int (sideI b)) ∧ Same H1 H') ?_ ?_ ?_
      · refine ⟨none, [], rfl, upd_same, by simp, fun z => ⟨fun h => by simp at h, ?_⟩, (fun y v h => by cases h), sA⟩
        rintro ⟨y, _, x, h1, h2, _⟩
        omega
      · rintro i σ' H2 hi ⟨y3, kvs, rfl, hD, hlen, hkeys, hvals, s2⟩
        rw [show (0 : Int) + (i : Nat) = i from by omega]
        have hir : 0 ≤ (i : Int) ∧ (i : Int) < n := by omega
        refine ⟨.int i, rfl, .ref pD, rfl, pD, _, rfl, DGet.k (k := Sum.inl (i : Int)) hD, _, rfl, ?_⟩
        have nx : ∀ y : Int, (∃ x, 0 ≤ x ∧ x < ((i + 1 : Nat) : Int) ∧ Rch ts x y) ↔ (∃ x, 0 ≤ x ∧ x < (i : Int) ∧ Rch ts x y) ∨ Rch ts i y := fun y => by
          constructor
          · rintro ⟨x, h1, h2, h3⟩
            by_cases e : x = i
            · subst e
              exact .inr h3
            · exact .inl ⟨x, h1, by omega, h3⟩
          · rintro (⟨x, h1, h2, h3⟩ | h)
            · exact ⟨x, h1, by omega, h3⟩
            · exact ⟨i, by omega, by omega, h⟩
        by_cases hin : (valV kvs (Sum.inl (i : Int))).isSome = true
        · rw [hin]
          obtain ⟨y, e, x, h1, h2, h3⟩ := (hkeys _).mp (valV_isSome.mp hin)
          cases e
          refine ⟨_, kvs, rfl, hD, by omega, fun z => ?_, hvals, s2⟩
          rw [hkeys]
          constructor
          · rintro ⟨y, e, h⟩
            exact ⟨y, e, (nx y).mpr (.inl h)⟩
          · rintro ⟨y, e, h⟩
            refine ⟨y, e, ?_⟩
            rcases (nx y).mp h with h | h
            · exact h
            · exact ⟨x, h1, h2, h3.trans h⟩
        · rw [Bool.not_eq_true] at hin
          rw [hin]
          have ld : leader ts (i : Int) := (lead_iff ok.ok hir).mpr fun ⟨x, h1, h2, h3⟩ => by
            have := valV_isSome.mpr ((hkeys (Sum.inl (i : Int))).mpr ⟨_, rfl, x, h1, h2, h3⟩)
            rw [hin] at this
            cases this
          refine ⟨.ref pD, rfl, .inr (.inr (.inl ⟨rfl, .inl ⟨_, hD⟩⟩)), .int i, rfl, u, rfl, u, n, i, ts, rfl, hA.same s2, ok, hir.1, hir.2, fun d ks H3 nd hd s3 so => ?_⟩
          have lks : ks.length ≤ n := by
            have q := pigeon n (ks.map (·.1)) so.nd fun x hx => Rch.rng ok.ok hir ((so.all x).mp hx)
            rw [List.length_map] at q
            exact q
          have hpd : pD ≠ d := ne_of_none hD nd
          refine ⟨pD, d, kvs, kvOf ks, rfl, rfl, s3 _ _ hD, hd, hpd, (by rw [kvOf_len, sizeLine_eq]; omega), ?_⟩
          refine ⟨_, mergeK kvs (kvOf ks), rfl, upd_same, ?_, fun z => ?_, fun y v hv => ?_, Same.mut (s2.trans s3) nD⟩
          · have := length_mergeK (kvOf ks) kvs
            rw [kvOf_len] at this
            omega
          · rw [mem_mergeK, hkeys, kvOf_keys]
            constructor
            · rintro (⟨y, e, h⟩ | h)
              · exact ⟨y, e, (nx y).mpr (.inl h)⟩
              · obtain ⟨y, hy, rfl⟩ := List.mem_map.mp h
                exact ⟨y, rfl, (nx y).mpr (.inr ((so.all y).mp hy))⟩
            · rintro ⟨y, rfl, h⟩
              rcases (nx y).mp h with h | h
              · exact .inl ⟨y, rfl, h⟩
              · exact .inr (List.mem_map.mpr ⟨y, (so.all y).mpr h, rfl⟩)
          · rcases valV_merge hv with h | h
            · exact hvals y v h
            · unfold kvOf at h
              obtain ⟨p, hp, e⟩ := List.mem_map.mp h
              cases e
              exact ⟨i, p.2, ld, so.rp p hp, rfl⟩
      · rintro σ' H2 ⟨y3, kvs, rfl, hD, hlen, hkeys, hvals, s2⟩
        refine ⟨_, kvs, rfl, hD, fun i hi => ?_, s2⟩
        obtain ⟨v, hv⟩ := Option.isSome_iff_exists.mp (valV_isSome.mpr ((hkeys (Sum.inl (i : Int))).mpr ⟨_, rfl, i, by omega, by omega, Rch.refl⟩))
        obtain ⟨m, b, l, r, rfl⟩ := hvals i v hv
        exact ⟨m, b, l, r, hv⟩
    rintro σ' H2 ⟨y3, kvs, rfl, hD, hvals, s2⟩
    have s12 := s1.trans s2
    -- sides
    refine ⟨.ref a, rfl, a, _, 0, .int n, rfl, rfl, SqT.of (s12 _ _ ha), rfl, n, rfl, by omega, by omega, fun Z nZ => ?_⟩
    rw [Int.toNat_natCast]
    refine lc_range (lo := 0) (n := n) (fun j H' => ∃ ss : List Int, H' Z = some (.lst (ss.map V.int)) ∧ ss.length = j ∧ (∀ (i : Nat) (x : Int), ss[i]? = some x → ∃ m b, leader ts m ∧ RP ts m i b ∧ x = sideI b) ∧ Same H2 H') ⟨[], upd_same, rfl, fun i x h => by simp at h, same_new nZ⟩ ?_ ?_
    · rintro j H3 hj ⟨ss, hZ, lj, hss, s3⟩
      rw [show (0 : Int) + (j : Nat) = j from by omega]
      obtain ⟨m, b, l, r, hv⟩ := hvals j hj
      refine ⟨rfl, .ref pD, rfl, .int j, rfl, pD, .int (sideI b), rfl, (by rw [← hv]; exact DGet.k (k := Sum.inl (j : Int)) (s3 _ _ hD)), _, hZ, by rw [List.length_map]; exact small1000 (by omega), ss ++ [sideI b], by rw [upd_same, List.map_append]; rfl, by rw [List.length_append, lj]; rfl, fun i x h => ?_, Same.mut s3 nZ⟩
      by_cases hi : i < ss.length
      · rw [List.getElem?_append_left hi] at h
        exact hss i x h
      · rw [List.getElem?_append_right (by omega)] at h
        have e : i = j := by
          have := (List.getElem?_eq_some_iff.mp h).1
          simp at this
          omega
        subst e
        rw [show i - ss.length = 0 from by omega] at h
        have hx : sideI b = x := Option.some.inj h
        exact ⟨m, b, l, r, hx.symm⟩
    · rintro H3 ⟨ss, hZ, lj, hss, s3⟩
      have told := told_of lj hss
      refine ⟨Z, _, rfl, .inl ⟨SqL.of hZ, fun t nt => ?_⟩⟩
      have s4 := (s12.trans s3).trans (same_new (o := .tup (ss.map V.int)) nt)
      have ht4 : (upd H3 t (.tup (ss.map V.int))) t = some (.tup (ss.map V.int)) := upd_same
      generalize upd H3 t (.tup (ss.map V.int)) = H4 at s4 ht4
      refine ⟨.ref a, rfl, .ref t, rfl, .ref a, t, n, ts, ss, rfl, hw0.tk (Same.tk s4), ok, ht4, by rw [lj], fun r H5 s5 h5 => ⟨Nat.zero_le _, fun z nz => ?_⟩⟩
      have s6 := same_new (o := .tup []) nz
      refine ⟨intsD (bad ss ts), intsD [], IntsV.dp ⟨r, rfl, s6 _ _ h5⟩, IntsV.dp ⟨z, rfl, upd_same⟩, shaped_intsD _, shaped_intsD _, _, rfl, ?_⟩
      rw [eqv_nil]
      have s46 := (s4.trans s5).trans s6
      have ht6 := s6 _ _ (s5 _ _ ht4)
      generalize upd H5 z (.tup []) = H6 at s46 ht6
      by_cases hbad : bad ss ts = []
      · rw [hbad]
        exact ⟨.ref t, rfl, q ss t H6 told (bad_nil.mp hbad) s46 ht6⟩
      · have hne : (bad ss ts).isEmpty = false := by
          cases e : bad ss ts with
          | nil => exact absurd e hbad
          | cons x y => rfl
        rw [hne]
        refine qn H6 ?_ s46
        obtain ⟨x, hx⟩ := List.exists_mem_of_ne_nil _ hbad
        unfold bad badTo at hx
        obtain ⟨h1, h2⟩ := List.mem_filter.mp hx
        exact told_odd ok.ok told (tieAt_mem h1) h2
end
/-! ### what is asked of rings -/
def wbelow (lim : Int) : V → Bool
  | .int i => decide (0 ≤ i) && decide (i < lim)
  | _ => false
def unl (lim : Int) : Option (List V) → Bool
  | some xs => xs.all (wbelow lim) && decide xs.Nodup
  | none => false
theorem ints_of {lim : Int} : ∀ {xs : List V}, xs.all (wbelow lim) = true → ∃ ns : List Int, xs = ns.map V.int ∧ ∀ n ∈ ns, 0 ≤ n ∧ n < lim
  | [], _ => ⟨[], rfl, fun n hn => by simp at hn⟩
  | x :: xs, h => by
    rw [List.all_cons, Bool.and_eq_true] at h
    obtain ⟨ns, e, h2⟩ := ints_of h.2
    cases x with
    | int i =>
      have h1 : (decide (0 ≤ i) && decide (i < lim)) = true := h.1
      rw [Bool.and_eq_true, decide_eq_true_iff, decide_eq_true_iff] at h1
      refine ⟨i :: ns, by rw [e]; rfl, fun n hn => ?_⟩
      rcases List.mem_cons.mp hn with z | z
      · rw [z]
        exact h1
      · exact h2 n z
    | _ => exact absurd (show false = true from h.1) Bool.false_ne_true
theorem nodup_ints {ns : List Int} : (ns.map V.int).Nodup ↔ ns.Nodup := by
  unfold List.Nodup
  rw [List.pairwise_map]
  exact ⟨fun h => h.imp fun {a b} g z => g (by rw [z]), fun h => h.imp fun {a b} g z => g (V.int.inj z)⟩
theorem room65 {k : Nat} {A : PySem.Around} (r : Room k A) : A.units + 65 < cLine := by have := r.un; omega
theorem eqv_two (x y u v : Int) : PyData.eqv (intsD [x, y]) (intsD [u, v]) = (decide (u = x) && decide (v = y)) := by
  show PyData.eqv (.tuple [.int x, .int y]) (.tuple [.int u, .int v]) = _
  rw [PyData.eqv, PyData.eqvAll, PyData.eqv, PyData.eqvAll, PyData.eqv, PyData.eqvAll, Bool.and_true]
  rw [Bool.eq_iff_iff, Bool.and_eq_true, Bool.and_eq_true, beq_iff_eq, beq_iff_eq, decide_eq_true_iff, decide_eq_true_iff]
  exact ⟨fun h => ⟨h.1.symm, h.2.symm⟩, fun h => ⟨h.1.symm, h.2.symm⟩⟩
def spBelow : Sp := fun vs H Q _ => ∃ lim v, vs = [.int lim, v] ∧ Kn H v ∧ Q (.bl (wbelow lim v)) H
def spUnlike (Ps : List Addr) : Sp := fun vs H Q _ => ∃ lim v, vs = [.int lim, v] ∧ Kn H v ∧ (∀ xs, parts H v = some xs → (∀ x ∈ xs, Kn H x) ∧ xs.length ≤ 1000) ∧ Tabs Ps H ∧ ∀ H', Kt Ps H H' → Q (.bl (unl lim (parts H v))) H'
def joinB (t : Tie) (a b : Int) : Bool := (decide (t.one = a) && decide (t.other = b)) || (decide (t.one = b) && decide (t.other = a))
def spJoins : Sp := fun vs H Q _ => ∃ (c : Addr) (a b : Int) (t : Tie), vs = [.ref c, .int a, .int b] ∧ H c = some (.tup [.int t.one, .int t.other, .str (kindS t.foe)]) ∧ ∀ H', Same H H' → Q (.bl (joinB t a b)) H'
section
variable {P : Program} {w : World} {K : PySem.W.Frag} {mg : Str → Option Value} {base : Heap}
theorem ok_is_whole_below {f : Addr} {fd : FuncData} (F : Fun K "is_whole_below" "is_whole_below" s_is_whole_below f fd) (D1 : Df P w K mg base 1 "is_whole" ["thing"] spWhole) : FnOk P w K mg base CX0 2 f fd ["limit", "thing"] spBelow := by
  obtain ⟨f1, fd1, G1, g1, k1, b1⟩ := D1
  refine F.ok sc_is_whole_below (fun vs H Q E h => ?_) (fun cdv A outer s H vs Q E hr h => ?_)
  · obtain ⟨lim, v, rfl, _⟩ := h
    rfl
  · obtain ⟨lim, v, rfl, hk, q⟩ := h
    refine ⟨_, (pss_one (ps_ret (pe_and (pe_call G1 hr (by rfl) g1 k1 b1 .nil pass0 (pa_cons (pv 1) pa_nil)) (pe_one (pe_chain op_le op_lt pe_int (pv 1) (pv 0)))))), ?_⟩
    refine ⟨v, rfl, v, rfl, hk, _, rfl, ?_⟩
    cases v with
    | int i =>
      refine ⟨.int i, rfl, 0, i, rfl, rfl, _, rfl, ?_⟩
      have e : wbelow lim (.int i) = (decide (0 ≤ i) && decide (i < lim)) := rfl
      rw [e] at q
      by_cases h0 : (0 : Int) ≤ i
      · rw [decide_eq_true h0] at q ⊢
        rw [Bool.true_and] at q
        exact ⟨.int lim, rfl, i, lim, rfl, rfl, q⟩
      · rw [decide_eq_false h0] at q ⊢
        exact q
    | _ => exact q
theorem ok_are_unlike {f c Pt : Addr} {fd : FuncData} {Ps : List Addr} (F : FunC K "are_unlike_below" "are_unlike_below" s_are_unlike_below f fd c) (TB : GxR.TabB base mg c Pt) (hPt : Pt ∈ Ps) (M : Free mg) (hall : mg "all" = none) (hset : mg "set" = none) (D1 : Df P w K mg base 2 "is_whole_below" ["limit", "thing"] spBelow) : FnOk P w K mg base CX0 4 f fd ["limit", "thing"] (spUnlike Ps) := by
  obtain ⟨f1, fd1, G1, g1, k1, b1⟩ := D1
  refine F.ok sc_are_unlike_below (fun vs H Q E h => ?_) (fun A outer s H vs Q E hr h => ?_)
  · obtain ⟨lim, v, rfl, _⟩ := h
    rfl
  · obtain ⟨lim, v, rfl, hk, hsub, hT, q⟩ := h
    refine ⟨_, (pss_cons (ps_if (pt_not (pt_val (pe_callB call_isi (by rfl) M.isinstance (by decide +kernel) (pa_cons (pv 1) (pa_cons (pe_bltn (v := .ty "tuple") (by rfl) M.tuple (by decide +kernel) rfl) pa_nil)))))
        (pss_one (ps_ret pe_bl))
        pss_nil)
      (pss_one (ps_ret (pe_and (pe_all (k := 2) (own := [("number", 2)]) (g := gName 2) hr TB rfl rfl sc_are_unlike_below.nd (by rfl) hall (pi_tup (pv 1)) (blkOk_by (N := N_are_unlike_below) (sc := defScope s_are_unlike_below) (own := [("number", 2)]) (by decide +kernel)) ⟨rfl, by decide +kernel, by decide +kernel⟩ (show (".0" : Str) ∉ N_are_unlike_below by decide +kernel)
        (fun _ _ _ _ _ _ _ => pg_name (i := 2) sc_are_unlike_below.nd rfl (.inl rfl)) (fun _ _ _ _ _ _ _ hr' => pe_call G1 hr' (by rfl) g1 k1 b1 .nil pass0 (pa_cons (pv 0) (pa_cons (pv 2) pa_nil)))) (pe_one (pe_cmpR op_eq (pe_lenSetT (by rfl) M.len (by rfl) hset (pv 1)) (pe_callB call_len_seq (by rfl) M.len PySem.boot_len (pa_cons (pv 1) pa_nil)) (nomark _))))))), ?_⟩
    obtain ⟨t1, h1, e1⟩ := kn_tup (K := K) hk
    refine ⟨v, rfl, v, _, t1, _, _, rfl, .ty "tuple", h1, e1, _, rfl, ?_⟩
    cases hi : isT H v with
    | false =>
      rw [parts_none hi] at q
      exact q _ (Kt.refl hT)
    | true =>
      obtain ⟨a, xs, rfl, ea⟩ := isT_at hi
      rw [parts_of' ea] at q
      obtain ⟨kn, few⟩ := hsub xs (parts_of' ea)
      refine ⟨.ref a, rfl, a, rfl, ⟨_, SqT.of ea⟩, hT Pt hPt, fun i m H' => i + m = xs.length ∧ Kt Ps H H' ∧ (xs.take i).all (wbelow lim) = true, fun H2 hH2 => ⟨xs.length, by omega, Kt.tabbed hT hPt hH2, rfl⟩, fun i m H' hw => ?_⟩
      obtain ⟨em, kt, hal⟩ := hw
      have ea' := kt.tup hT ea
      by_cases hi : i < xs.length
      · refine .inr ⟨⟨_, _, SqT.of ea', List.getElem?_eq_getElem hi⟩, fun H3 => Kt Ps H H3 ∧ (xs.take (i + 1)).all (wbelow lim) = true, fun H3 n3 => ⟨m - 1, by omega, by omega, n3.1, n3.2⟩, fun x H3 hy => ?_⟩
        obtain ⟨rfl, fy⟩ := hy
        have ex : xs[i]? = some x := fy _ (SqT.of ea')
        refine ⟨rfl, .int lim, rfl, x, rfl, lim, x, rfl, kt.kn hT (kn x (List.mem_of_getElem? ex)), _, rfl, ?_⟩
        have step : (xs.take (i + 1)).all (wbelow lim) = wbelow lim x := by
          rw [List.take_add_one, ex, List.all_append, hal]
          simp
        cases hb : wbelow lim x with
        | true => exact ⟨kt, step.trans hb⟩
        | false =>
          have no : xs.all (wbelow lim) = false := by
            rw [Bool.eq_false_iff]
            intro z
            rw [List.all_eq_true] at z
            rw [z x (List.mem_of_getElem? ex)] at hb
            cases hb
          refine ⟨_, rfl, ?_⟩
          have e : unl lim (some xs) = false := by
            show (xs.all (wbelow lim) && decide xs.Nodup) = false
            rw [no, Bool.false_and]
          rw [e] at q
          exact q _ kt
      · refine .inl ⟨⟨_, SqT.of ea', by omega⟩, _, rfl, ?_⟩
        rw [List.take_of_length_le (by omega)] at hal
        obtain ⟨ns, rfl, _⟩ := ints_of hal
        refine ⟨.ref a, rfl, a, ns, rfl, SqT.of ea', by rw [List.length_map] at few; omega, fun cnt hc => ⟨.ref a, rfl, a, _, rfl, .inr (SqT.of ea'), rfl, ?_⟩⟩
        have e : unl lim (some (ns.map V.int)) = decide (V.int (cnt : Int) = V.int ((ns.map V.int).length : Int)) := by
          show ((ns.map V.int).all (wbelow lim) && decide (ns.map V.int).Nodup) = _
          rw [hal, Bool.true_and, decide_eq_decide, nodup_ints, ← hc, List.length_map]
          constructor
          · intro z
            rw [z]
          · intro z
            have := V.int.inj z
            omega
        rw [← e]
        exact q _ kt
theorem ok_joins {f : Addr} {fd : FuncData} (F : Fun K "joins" "joins" s_joins f fd) : FnOk P w K mg base CX0 1 f fd ["tie", "one", "other"] spJoins := by
  refine F.ok sc_joins (fun vs H Q E h => ?_) (fun cdv A outer s H vs Q E hr h => ?_)
  · obtain ⟨c, a, b, t, rfl, _⟩ := h
    rfl
  · obtain ⟨c, a, b, t, rfl, hc, q⟩ := h
    have hu := room65 hr
    refine ⟨_, (pss_one (ps_ret (pe_cmpR (op_inTup hu) (pe_tup (pa_cons (pe_ix ix_tup (pv 0) pe_int (fun _ _ => rfl)) (pa_cons (pe_ix ix_tup (pv 0) pe_int (fun _ _ => rfl)) pa_nil))) (pe_tup (pa_cons (pe_tup (pa_cons (pv 1) (pa_cons (pv 2) pa_nil))) (pa_cons (pe_tup (pa_cons (pv 2) (pa_cons (pv 1) pa_nil))) pa_nil))) rfl))), ?_⟩
    refine ⟨.ref c, rfl, c, _, 0, _, rfl, rfl, SqT.of hc, rfl, .ref c, rfl, c, _, 1, _, rfl, rfl, SqT.of hc, rfl, by show 2 ≤ sizeLine; decide, fun p1 n1 => ?_⟩
    refine ⟨.int a, rfl, .int b, rfl, by show 2 ≤ sizeLine; decide, fun p2 n2 => ⟨.int b, rfl, .int a, rfl, by show 2 ≤ sizeLine; decide, fun p3 n3 => ⟨by show 2 ≤ sizeLine; decide, fun p4 n4 => ?_⟩⟩⟩
    have s4 := same_new (o := .tup [.ref p2, .ref p3]) n4
    have s3 := (same_new (o := .tup [.int b, .int a]) n3).trans s4
    have s2 := (same_new (o := .tup [.int a, .int b]) n2).trans s3
    have s1 := (same_new (o := .tup [.int t.one, .int t.other]) n1).trans s2
    refine ⟨intsD [t.one, t.other], [intsD [a, b], intsD [b, a]], IntsV.dp ⟨p1, rfl, s2 _ _ upd_same⟩, .tup (SqT.of upd_same) (.cons (IntsV.dp ⟨p2, rfl, s3 _ _ upd_same⟩) (.cons (IntsV.dp ⟨p3, rfl, s4 _ _ upd_same⟩) .nil)), shaped_intsD _, rfl, ?_⟩
    have e : ([intsD [a, b], intsD [b, a]].any fun z => PyData.eqv z (intsD [t.one, t.other])) = joinB t a b := by
      show (PyData.eqv (intsD [a, b]) (intsD [t.one, t.other]) || (PyData.eqv (intsD [b, a]) (intsD [t.one, t.other]) || false)) = joinB t a b
      rw [eqv_two, eqv_two, Bool.or_false]
      rfl
    rw [e]
    exact q _ s1
end
theorem tieAt_get {ts : List Tie} {i : Int} (h0 : 0 ≤ i) (h1 : i < ts.length) : ts[i.toNat]? = some (tieAt ts i) := by
  have h : i.toNat < ts.length := by omega
  unfold tieAt
  rw [List.getD_eq_getElem?_getD, List.getElem?_eq_getElem h]
  rfl
def toI : V → Int
  | .int i => i
  | _ => 0
theorem toI_map (ns : List Int) : (ns.map V.int).map toI = ns := by
  rw [List.map_map]
  exact List.map_id ns
/-- the ties join the places, each with the one behind it -/
def ringI (ts : List Tie) (ps es : List Int) : Bool := (List.range es.length).all fun k => joinB (tieAt ts (es.getD k 0)) (ps.getD k 0) (ps.getD ((k + 1) % ps.length) 0)
def ringP (n : Int) (ts : List Tie) : Option (List V) → Option (List V) → Bool
  | some ps, some es => unl n (some ps) && (unl ts.length (some es) && (decide (2 ≤ ps.length) && (decide (ps.length = es.length) && ringI ts (ps.map toI) (es.map toI))))
  | _, _ => false
def ringB (H : Hp) (n : Int) (ts : List Tie) (v : V) : Bool := match parts H v with
  | some [p, t] => ringP n ts (parts H p) (parts H t)
  | _ => false
def Part2 (H : Hp) (x : V) : Prop := Kn H x ∧ ∀ ys, parts H x = some ys → (∀ y ∈ ys, Kn H y) ∧ ys.length ≤ 1000
def Thing2 (H : Hp) (v : V) : Prop := Kn H v ∧ ∀ xs, parts H v = some xs → ∀ x ∈ xs, Part2 H x
theorem kt_parts {Ps : List Addr} {H H' : Hp} (k : Kt Ps H H') (t : Tabs Ps H) {v : V} (h : Kn H v) : parts H' v = parts H v := by
  cases v with
  | ref a =>
    unfold parts
    rcases h with ⟨xs, h⟩ | ⟨xs, h⟩ | ⟨xs, h⟩
    · simp only [h, k.lst t h]
    · simp only [h, k.tup t h]
    · simp only [h, k.dct t h]
  | _ => rfl
theorem Part2.kt {Ps : List Addr} {H H' : Hp} (k : Kt Ps H H') (t : Tabs Ps H) {v : V} (h : Part2 H v) : Part2 H' v :=
  ⟨k.kn t h.1, fun ys e => by
    rw [kt_parts k t h.1] at e
    obtain ⟨h1, h2⟩ := h.2 ys e
    exact ⟨fun y hy => k.kn t (h1 y hy), h2⟩⟩
def spRing (Ps : List Addr) : Sp := fun vs H Q _ => ∃ (wv : V) (n : Int) (ts : List Tie) (v : V), vs = [wv, v] ∧ WebAt H wv n ts ∧ WebOk n ts ∧ Thing2 H v ∧ Tabs Ps H ∧ ∀ H', Kt Ps H H' → Q (.bl (ringB H n ts v)) H'
theorem behind {ns : List Int} {k : Nat} (h2 : 2 ≤ ns.length) (hk : k < ns.length) : (ns.drop 1 ++ ns.take 1)[k]? = some (ns.getD ((k + 1) % ns.length) 0) := by
  by_cases e : k + 1 < ns.length
  · rw [List.getElem?_append_left (by rw [List.length_drop]; omega), List.getElem?_drop, Nat.mod_eq_of_lt e, show 1 + k = k + 1 from by omega, List.getD_eq_getElem?_getD, List.getElem?_eq_getElem e]
    rfl
  · have e2 : k + 1 = ns.length := by omega
    rw [List.getElem?_append_right (by rw [List.length_drop]; omega), List.length_drop, show k - (ns.length - 1) = 0 from by omega, e2, Nat.mod_self, List.getElem?_take_of_lt (by decide), List.getD_eq_getElem?_getD, List.getElem?_eq_getElem (by omega)]
    rfl
theorem cut1a {xs : List V} (h : 1 ≤ xs.length) : cutV xs (some 1) none = xs.drop 1 := by
  unfold cutV
  rw [HT.sIx_none, show (some (1 : Int)) = some ((1 : Nat) : Int) from rfl, HT.sIx_nat, Nat.min_eq_left h]
  exact List.take_of_length_le (by rw [List.length_drop]; omega)
theorem cut1b {xs : List V} (h : 1 ≤ xs.length) : cutV xs none (some 1) = xs.take 1 := by
  unfold cutV
  rw [HT.sIx_none, show (some (1 : Int)) = some ((1 : Nat) : Int) from rfl, HT.sIx_nat, Nat.min_eq_left h, List.drop_zero]
section
variable {P : Program} {w : World} {K : PySem.W.Frag} {mg : Str → Option Value} {base : Heap}
set_option maxHeartbeats 4000000 in
theorem ok_ring_holds {f c Pt : Addr} {fd : FuncData} {Ps : List Addr} (F : FunC K "ring_holds" "ring_holds" s_ring_holds f fd c) (TB : GxR.TabB base mg c Pt) (hPt : Pt ∈ Ps) (M : Free mg) (hall : mg "all" = none) (mz : mg "zip" = none) (D1 : Df P w K mg base 1 "is_tuple_of" ["length", "thing"] spTupleOf)
    (D2 : Df P w K mg base 4 "are_unlike_below" ["limit", "thing"] (spUnlike Ps)) (D3 : Df P w K mg base 1 "joins" ["tie", "one", "other"] spJoins) : FnOk P w K mg base CX0 5 f fd ["web", "thing"] (spRing Ps) := by
  obtain ⟨f1, fd1, G1, g1, k1, b1⟩ := D1
  obtain ⟨f2, fd2, G2, g2, k2, b2⟩ := D2
  obtain ⟨f3, fd3, G3, g3, k3, b3⟩ := D3
  refine F.ok sc_ring_holds (fun vs H Q E h => ?_) (fun A outer s H vs Q E hr h => ?_)
  · obtain ⟨wv, n, ts, v, rfl, _⟩ := h
    rfl
  · obtain ⟨wv, n, ts, v, rfl, ⟨wa, wb, us, rfl, hwa, hwb, hp⟩, ok, ⟨hk, hsub⟩, hT, q⟩ := h
    have hr1 : Room 1 _ := hr.mono (by decide : 1 ≤ 4)
    refine ⟨_, (pss_cons (ps_if (pt_not (pt_val (pe_call G1 hr1 (by rfl) g1 k1 b1 .nil pass0 (pa_cons pe_int (pa_cons (pv 1) pa_nil)))))
        (pss_one (ps_ret pe_bl))
        pss_nil)
      (pss_cons (ps_asg (pv 1) (pg_tup rfl (pgs_cons (pg_name (i := 2) sc_ring_holds.nd rfl (.inl rfl)) (pgs_cons (pg_name (i := 3) sc_ring_holds.nd rfl (.inl rfl)) pgs_nil))))
      (pss_cons (ps_if (PW.pt (pw_or (pt_not (pt_val (pe_call G2 hr (by rfl) g2 k2 b2 .nil pass0 (pa_cons (pe_ix ix_tup (pv 0) pe_int (fun _ _ => rfl)) (pa_cons (pv 2) pa_nil))))) (pw_or1 (pt_not (pt_val (pe_call G2 hr (by rfl) g2 k2 b2 .nil pass0 (pa_cons (pe_callB call_len_seq (by rfl) M.len PySem.boot_len (pa_cons (pe_ix ix_tup (pv 0) pe_int (fun _ _ => rfl)) pa_nil)) (pa_cons (pv 3) pa_nil))))))))
        (pss_one (ps_ret pe_bl))
        pss_nil)
      (pss_cons (ps_if (PW.pt (pw_or (pt_cmpR op_lt (pe_callB call_len_seq (by rfl) M.len PySem.boot_len (pa_cons (pv 2) pa_nil)) pe_int (nomark _)) (pw_or1 (pt_cmpR op_ne (pe_callB call_len_seq (by rfl) M.len PySem.boot_len (pa_cons (pv 2) pa_nil)) (pe_callB call_len_seq (by rfl) M.len PySem.boot_len (pa_cons (pv 3) pa_nil)) (nomark _)))))
        (pss_one (ps_ret pe_bl))
        pss_nil)
      (pss_cons (ps_set (i := 4) sc_ring_holds.nd rfl (.inl rfl) (pe_op op_catU (pe_slice sl_tupU (pv 2) (po_some pe_int) po_none) (pe_slice sl_tupU (pv 2) po_none (po_some pe_int))))
      (pss_one (ps_ret (pe_all (k := 3) (own := [("tie", 5), ("one", 6), ("other", 7)]) (g := gTup K 3 (gCons (gName 5) (gCons (gName 6) (gCons (gName 7) gNil)))) hr TB rfl rfl sc_ring_holds.nd (by rfl) hall (pi_zip3 (by rfl) mz (pa_cons (pv 3) (pa_cons (pv 2) (pa_cons (pv 4) pa_nil)))) (blkOk_by (N := N_ring_holds) (sc := defScope s_ring_holds) (own := [("tie", 5), ("one", 6), ("other", 7)]) (by decide +kernel)) ⟨rfl, by decide +kernel, by decide +kernel⟩ (show (".0" : Str) ∉ N_ring_holds by decide +kernel)
        (fun _ _ _ _ _ _ _ => pg_tup rfl (pgs_cons (pg_name (i := 5) sc_ring_holds.nd rfl (.inl rfl)) (pgs_cons (pg_name (i := 6) sc_ring_holds.nd rfl (.inl rfl)) (pgs_cons (pg_name (i := 7) sc_ring_holds.nd rfl (.inl rfl)) pgs_nil)))) (fun _ _ _ _ _ _ _ hr' => pe_call G3 (hr'.mono (by decide : 1 ≤ 3)) (by rfl) g3 k3 b3 .nil pass0 (pa_cons (pe_ix (r := rIxT K) ix_tup (pe_ix (r := rIxT K) ix_tup (pv 0) pe_int (fun _ _ => rfl)) (pv 5) (fun _ _ => rfl)) (pa_cons (pv 6) (pa_cons (pv 7) pa_nil)))))))))))), ?_⟩
    have hlen : us.length = ts.length := Paired.length hp
    have few := ok.few
    -- a pair
    refine ⟨v, rfl, 2, v, rfl, hk, _, rfl, ?_⟩
    cases hpv : parts H v with
    | none =>
      have e1 : lenIs H v 2 = false := by unfold lenIs; rw [hpv]
      have e2 : ringB H n ts v = false := by unfold ringB; rw [hpv]
      rw [e1]
      rw [e2] at q
      exact q _ (Kt.refl hT)
    | some xs =>
    obtain ⟨a, rfl, ea⟩ := parts_at hpv
    have e1 : lenIs H (.ref a) 2 = decide ((xs.length : Int) = 2) := by unfold lenIs; rw [hpv]
    rw [e1]
    match xs, hpv, ea, hsub xs hpv with
    | [], hpv, ea, _ =>
      have e2 : ringB H n ts (.ref a) = false := by unfold ringB; rw [hpv]
      rw [e2] at q
      exact q _ (Kt.refl hT)
    | [x], hpv, ea, _ =>
      have e2 : ringB H n ts (.ref a) = false := by unfold ringB; rw [hpv]
      rw [e2] at q
      exact q _ (Kt.refl hT)
    | x :: y :: z :: r, hpv, ea, _ =>
      have e2 : ringB H n ts (.ref a) = false := by unfold ringB; rw [hpv]
      rw [e2] at q
      rw [decide_eq_false (by simp only [List.length_cons]; omega)]
      exact q _ (Kt.refl hT)
    | [pv', tv], hpv, ea, hxs =>
    have e2 : ringB H n ts (.ref a) = ringP n ts (parts H pv') (parts H tv) := by unfold ringB; rw [hpv]
    rw [e2] at q
    have hP := hxs pv' (by simp)
    have hQ := hxs tv (by simp)
    clear e1 e2 hxs hsub
    refine ⟨.ref a, rfl, a, _, rfl, SqT.of ea, rfl, _, _, rfl, _, _, rfl, rfl, ?_⟩
    -- unlike places
    refine ⟨.ref wa, rfl, wa, _, 0, .int n, rfl, rfl, SqT.of hwa, rfl, pv', rfl, n, pv', rfl, hP.1, hP.2, hT, fun H1 k1' => ⟨_, rfl, ?_⟩⟩
    cases hu1 : unl n (parts H pv') with
    | false =>
      have e : ringP n ts (parts H pv') (parts H tv) = false := by
        cases h1 : parts H pv' with
        | none => rfl
        | some ps =>
          cases h2 : parts H tv with
          | none => rfl
          | some es =>
            rw [h1] at hu1
            show (unl n (some ps) && _) = false
            rw [hu1, Bool.false_and]
      rw [e] at q
      exact q _ k1'
    | true =>
    -- unlike ties
    have hwa1 := k1'.tup hT hwa
    have hwb1 := k1'.tup hT hwb
    have hQ1 := hQ.kt k1' hT
    refine ⟨.ref wa, rfl, wa, _, 1, .ref wb, rfl, rfl, SqT.of hwa1, rfl, wb, us, rfl, .inr (SqT.of hwb1), tv, rfl, _, tv, rfl, hQ1.1, hQ1.2, k1'.tab, fun H2 k2' => ⟨_, rfl, ?_⟩⟩
    rw [kt_parts k1' hT hQ.1, hlen]
    have k12 := k1'.trans k2'
    cases hu2 : unl ts.length (parts H tv) with
    | false =>
      have e : ringP n ts (parts H pv') (parts H tv) = false := by
        cases h1 : parts H pv' with
        | none => rfl
        | some ps =>
          cases h2 : parts H tv with
          | none => rfl
          | some es =>
            rw [h1] at hu1
            rw [h2] at hu2
            show (unl n (some ps) && (unl ts.length (some es) && _)) = false
            rw [hu2, Bool.false_and, Bool.and_false]
      rw [e] at q
      exact q _ k12
    | true =>
    cases h1 : parts H pv' with
    | none => rw [h1] at hu1; cases hu1
    | some ps =>
    cases h2 : parts H tv with
    | none => rw [h2] at hu2; cases hu2
    | some es =>
    rw [h1] at hu1
    rw [h2] at hu2
    rw [h1, h2] at q
    obtain ⟨pa, rfl, epa⟩ := parts_at h1
    obtain ⟨ta, rfl, eta⟩ := parts_at h2
    have epa2 := k12.tup hT epa
    have eta2 := k12.tup hT eta
    have er : ringP n ts (some ps) (some es) = (decide (2 ≤ ps.length) && (decide (ps.length = es.length) && ringI ts (ps.map toI) (es.map toI))) := by
      show (unl n (some ps) && (unl ts.length (some es) && _)) = _
      rw [hu1, hu2, Bool.true_and, Bool.true_and]
    rw [er] at q
    -- lengths
    refine ⟨.ref pa, rfl, pa, ps, rfl, .inr (SqT.of epa2), _, 2, rfl, rfl, _, rfl, ?_⟩
    by_cases l2 : 2 ≤ ps.length
    · rw [decide_eq_false (show ¬ ((ps.length : Int) < 2) by omega)]
      rw [decide_eq_true l2, Bool.true_and] at q
      refine ⟨.ref pa, rfl, pa, ps, rfl, .inr (SqT.of epa2), .ref ta, rfl, ta, es, rfl, .inr (SqT.of eta2), rfl, _, rfl, ?_⟩
      by_cases le : ps.length = es.length
      · rw [show decide (V.int (ps.length : Int) = V.int (es.length : Int)) = true from decide_eq_true (by rw [le])]
        rw [decide_eq_true le, Bool.true_and] at q
        have ha1 : ps.all (wbelow n) = true := (Bool.and_eq_true_iff.mp hu1).1
        have ha2 : es.all (wbelow ts.length) = true := (Bool.and_eq_true_iff.mp hu2).1
        obtain ⟨pn, rfl, hpn⟩ := ints_of ha1
        obtain ⟨en, rfl, hen⟩ := ints_of ha2
        rw [toI_map, toI_map] at q
        rw [List.length_map] at l2 le
        rw [List.length_map] at le
        have lps : pn.length ≤ 1000 := by have := (hP.2 _ h1).2; rw [List.length_map] at this; exact this
        -- followers
        refine ⟨.ref pa, rfl, 1, rfl, pa, _, rfl, epa2, fun r1 H3 s3 h3 => ⟨.ref pa, rfl, 1, rfl, pa, _, rfl, s3 _ _ epa2, fun r2 H4 s4 h4 => ⟨r1, r2, _, _, rfl, rfl, s4 _ _ h3, h4, ?_, fun r3 H5 s5 h5 => ?_⟩⟩⟩
        · have z1 := cutV_length (pn.map V.int) (some 1) none
          have z2 := cutV_length (pn.map V.int) none (some 1)
          rw [List.length_map] at z1 z2
          omega
        rw [cut1a (by rw [List.length_map]; omega), cut1b (by rw [List.length_map]; omega), ← List.map_drop, ← List.map_take, ← List.map_append] at h5
        have k5 := k12.trans (Kt.same k12.tab ((s3.trans s4).trans s5))
        have hwa5 := k5.tup hT hwa
        have hwb5 := k5.tup hT hwb
        have epa5 := k5.tup hT epa
        have eta5 := k5.tup hT eta
        have hp5 := ties_tk (k5.tk hT) hp
        clear s3 s4 s5 h3 h4 epa2 eta2 hwa1 hwb1
        have lfo : (pn.drop 1 ++ pn.take 1).length = pn.length := by rw [List.length_append, List.length_drop, List.length_take]; omega
        have nth : ∀ k : Nat, k < en.length → ∃ (cc : Addr), H5 cc = some (.tup [.int (tieAt ts (en.getD k 0)).one, .int (tieAt ts (en.getD k 0)).other, .str (kindS (tieAt ts (en.getD k 0)).foe)]) ∧ atI us (en.getD k 0) = some (.ref cc) := fun k hk => by
          have hm : en.getD k 0 ∈ en := by
            rw [List.getD_eq_getElem?_getD, List.getElem?_eq_getElem hk]
            exact List.getElem_mem hk
          obtain ⟨z0, z1⟩ := hen _ hm
          obtain ⟨u, eu, cc, rfl, hcc⟩ := Paired.at' hp5 (tieAt_get z0 z1)
          exact ⟨cc, hcc, atI_of z0 eu⟩
        refine ⟨.ref ta, rfl, .ref pa, rfl, .ref r3, rfl, ta, pa, r3, _, _, _, rfl, SqT.of eta5, SqT.of epa5, SqT.of h5, k5.tab Pt hPt, fun i m H' => i + m = en.length ∧ Kt Ps H5 H' ∧ (List.range i).all (fun k => joinB (tieAt ts (en.getD k 0)) (pn.getD k 0) (pn.getD ((k + 1) % pn.length) 0)) = true, fun H6 t6 => ⟨en.length, by omega, Kt.tabbed k5.tab hPt t6, rfl⟩, fun i m H6 hw => ?_⟩
        obtain ⟨em, k6, hal⟩ := hw
        have eta6 := k6.tup k5.tab eta5
        have epa6 := k6.tup k5.tab epa5
        have h6 := k6.tup k5.tab h5
        by_cases hi : i < en.length
        · refine .inr ⟨⟨_, _, _, ⟨SqT.of eta6, SqT.of epa6, SqT.of h6⟩, by rw [List.length_map]; exact hi, by rw [List.length_map, List.length_map]; exact le, by rw [List.length_map, List.length_map, lfo]; exact le⟩, fun H7 => Kt Ps H5 H7 ∧ (List.range (i + 1)).all (fun k => joinB (tieAt ts (en.getD k 0)) (pn.getD k 0) (pn.getD ((k + 1) % pn.length) 0)) = true, fun H7 n7 => ⟨m - 1, by omega, by omega, n7.1, n7.2⟩, fun x H7 hy => ?_⟩
          obtain ⟨T, x1, x2, x3, rfl, nT, rfl, y1, y2, y3⟩ := hy
          have ex1 : x1 = .int (en.getD i 0) := by
            have z := y1 _ (SqT.of eta6)
            rw [List.getElem?_map, List.getElem?_eq_getElem hi] at z
            rw [List.getD_eq_getElem?_getD, List.getElem?_eq_getElem hi]
            exact (Option.some.inj z).symm
          have ex2 : x2 = .int (pn.getD i 0) := by
            have z := y2 _ (SqT.of epa6)
            rw [List.getElem?_map, List.getElem?_eq_getElem (show i < pn.length by omega)] at z
            rw [List.getD_eq_getElem?_getD, List.getElem?_eq_getElem (show i < pn.length by omega)]
            exact (Option.some.inj z).symm
          have ex3 : x3 = .int (pn.getD ((i + 1) % pn.length) 0) := by
            have z := y3 _ (SqT.of h6)
            rw [List.getElem?_map, behind l2 (by omega)] at z
            exact (Option.some.inj z).symm
          subst ex1
          subst ex2
          subst ex3
          obtain ⟨cc, hcc, acc⟩ := nth i hi
          have k7 := k6.trans (Kt.same k6.tab (same_new (o := .tup [.int (en.getD i 0), .int (pn.getD i 0), .int (pn.getD ((i + 1) % pn.length) 0)]) nT))
          refine ⟨T, _, rfl, SqT.of upd_same, rfl, _, _, rfl, _, _, rfl, _, _, rfl, rfl, rfl, .ref wa, rfl, wa, _, 1, .ref wb, rfl, rfl, SqT.of (k7.tup k5.tab hwa5), rfl, .int (en.getD i 0), rfl, wb, us, _, .ref cc, rfl, rfl, SqT.of (k7.tup k5.tab hwb5), acc, .int (pn.getD i 0), rfl, .int (pn.getD ((i + 1) % pn.length) 0), rfl, cc, _, _, tieAt ts (en.getD i 0), rfl, k7.tup k5.tab hcc, fun H8 s8 => ⟨_, rfl, ?_⟩⟩
          have k8 := k7.trans (Kt.same k7.tab s8)
          cases hj : joinB (tieAt ts (en.getD i 0)) (pn.getD i 0) (pn.getD ((i + 1) % pn.length) 0) with
          | true =>
            refine ⟨k8, ?_⟩
            rw [List.range_succ, List.all_append, hal]
            simp only [List.all_cons, List.all_nil, hj, Bool.and_true]
          | false =>
            have no : ringI ts pn en = false := by
              unfold ringI
              rw [Bool.eq_false_iff]
              intro z
              rw [List.all_eq_true] at z
              rw [z i (List.mem_range.mpr hi)] at hj
              cases hj
            rw [no] at q
            exact q _ (k5.trans k8)
        · have ei : i = en.length := by omega
          refine .inl ⟨⟨_, _, _, ⟨SqT.of eta6, SqT.of epa6, SqT.of h6⟩, by rw [List.length_map, ei], by rw [List.length_map, ei]; exact le, by rw [List.length_map, lfo, ei]; exact le⟩, ?_⟩
          rw [ei] at hal
          have yes : ringI ts pn en = true := hal
          rw [yes] at q
          exact q _ (k5.trans k6)
      · rw [show decide (V.int (ps.length : Int) = V.int (es.length : Int)) = false from decide_eq_false (fun z => le (by have := V.int.inj z; omega))]
        rw [decide_eq_false le, Bool.false_and] at q
        exact q _ k12
    · rw [decide_eq_true (show ((ps.length : Int) < 2) by omega)]
      rw [decide_eq_false l2, Bool.false_and] at q
      exact q _ k12
end
def foesI (ts : List Tie) (es : List Int) : Nat := (es.filter fun e => (tieAt ts e).foe).length
theorem foesI_take (ts : List Tie) (es : List Int) {i : Nat} {e : Int} (h : es[i]? = some e) : (es.take (i + 1)).filter (fun e => (tieAt ts e).foe) = (es.take i).filter (fun e => (tieAt ts e).foe) ++ (if (tieAt ts e).foe = true then [e] else []) := by
  rw [List.take_add_one, h, List.filter_append]
  congr 1
  show List.filter _ [e] = _
  rw [List.filter_cons]
  rfl
def spFoes : Sp := fun vs H Q _ => ∃ (wv : V) (n : Int) (ts : List Tie) (a ta : Addr) (p : V) (es : List Int), vs = [wv, .ref a] ∧ WebAt H wv n ts ∧ H a = some (.tup [p, .ref ta]) ∧ H ta = some (.tup (es.map V.int)) ∧ (∀ e ∈ es, 0 ≤ e ∧ e < (ts.length : Int)) ∧ es.length ≤ 1000 ∧
  ∀ H', Same H H' → Q (.int (foesI ts es)) H'
/-- a ring with an odd number of foes -/
def oddB (H : Hp) (n : Int) (ts : List Tie) (v : V) : Bool := ringB H n ts v && (match parts H v with
  | some [_, t] => (match parts H t with
    | some es => decide (foesI ts (es.map toI) % 2 = 1)
    | none => false)
  | _ => false)
def spOdd (Ps : List Addr) : Sp := fun vs H Q _ => ∃ (wv : V) (n : Int) (ts : List Tie) (v : V), vs = [wv, v] ∧ WebAt H wv n ts ∧ WebOk n ts ∧ Thing2 H v ∧ Tabs Ps H ∧ ∀ H', Kt Ps H H' → Q (.bl (oddB H n ts v)) H'
/-- what a ring is: a pair of rows of numbers -/
theorem ring_is {H : Hp} {n : Int} {ts : List Tie} {v : V} (h : ringB H n ts v = true) : ∃ (a pa ta : Addr) (pn en : List Int), v = .ref a ∧ H a = some (.tup [.ref pa, .ref ta]) ∧ H pa = some (.tup (pn.map V.int)) ∧ H ta = some (.tup (en.map V.int)) ∧ (∀ p ∈ pn, 0 ≤ p ∧ p < n) ∧ (∀ e ∈ en, 0 ≤ e ∧ e < (ts.length : Int)) ∧ pn.Nodup ∧ en.Nodup ∧ 2 ≤ pn.length ∧ pn.length = en.length ∧ ringI ts pn en = true := by
  unfold ringB at h
  cases hpv : parts H v with
  | none => rw [hpv] at h; cases h
  | some xs =>
    rw [hpv] at h
    obtain ⟨a, rfl, ea⟩ := parts_at hpv
    match xs, h, ea with
    | [p, t], h, ea =>
      change ringP n ts (parts H p) (parts H t) = true at h
      cases h1 : parts H p with
      | none => rw [h1] at h; cases h
      | some ps =>
        cases h2 : parts H t with
        | none => rw [h1, h2] at h; cases h
        | some es =>
          rw [h1, h2] at h
          obtain ⟨pa, rfl, epa⟩ := parts_at h1
          obtain ⟨ta, rfl, eta⟩ := parts_at h2
          change (unl n (some ps) && (unl ts.length (some es) && (decide (2 ≤ ps.length) && (decide (ps.length = es.length) && ringI ts (ps.map toI) (es.map toI))))) = true at h
          simp only [Bool.and_eq_true, decide_eq_true_iff] at h
          obtain ⟨u1, u2, l2, le, hr⟩ := h
          have v1 : ps.all (wbelow n) = true ∧ decide ps.Nodup = true := Bool.and_eq_true_iff.mp u1
          have v2 : es.all (wbelow ts.length) = true ∧ decide es.Nodup = true := Bool.and_eq_true_iff.mp u2
          obtain ⟨pn, rfl, hpn⟩ := ints_of v1.1
          obtain ⟨en, rfl, hen⟩ := ints_of v2.1
          rw [toI_map, toI_map] at hr
          rw [List.length_map] at l2 le
          rw [List.length_map] at le
          exact ⟨a, pa, ta, pn, en, rfl, ea, epa, eta, hpn, hen, nodup_ints.mp (of_decide_eq_true v1.2), nodup_ints.mp (of_decide_eq_true v2.2), l2, le, hr⟩
section
variable {P : Program} {w : World} {K : PySem.W.Frag} {mg : Str → Option Value} {base : Heap}
theorem ok_foes_in {f : Addr} {fd : FuncData} (F : Fun K "foes_in" "foes_in" s_foes_in f fd) (M : Free mg) : FnOk P w K mg base CX0 1 f fd ["web", "ring"] spFoes := by
  refine F.ok sc_foes_in (fun vs H Q E h => ?_) (fun cdv A outer s H vs Q E hr h => ?_)
  · obtain ⟨wv, n, ts, a, ta, p, es, rfl, _⟩ := h
    rfl
  · obtain ⟨wv, n, ts, a, ta, p, es, rfl, ⟨wa, wb, us, rfl, hwa, hwb, hp⟩, ha, hta, hes, lm, q⟩ := h
    refine ⟨_, (pss_one (ps_ret (pe_callB call_len_seq (by rfl) M.len PySem.boot_len (pa_cons (pe_lc (own := [("tie", 2)]) (g := gName 2) (te := tVar 2) rfl sc_foes_in.nd (pi_tup (pe_ix ix_tup (pv 1) pe_int (fun _ _ => rfl))) (blkOk_by (N := N_foes_in) (sc := defScope s_foes_in) (own := [("tie", 2)]) (by decide +kernel)) (fun _ _ _ _ _ => (pg_name (i := 2) sc_foes_in.nd rfl (.inl rfl))) (fun _ _ _ _ _ => (pts_one (pt_cmpR op_eq (pe_ix (r := rIxT K) ix_tup (pe_ix (r := rIxT K) ix_tup (pe_ix (r := rIxT K) ix_tup (pv 0) pe_int (fun _ _ => rfl)) (pv 2) (fun _ _ => rfl)) pe_int (fun _ _ => rfl)) pe_str (nomark _)))) (fun _ _ _ _ _ => (pv 2))) pa_nil)))), ?_⟩
    refine ⟨.ref a, rfl, a, _, 1, .ref ta, rfl, rfl, SqT.of ha, rfl, ta, rfl, ⟨_, SqT.of hta⟩, fun Z nZ => ?_⟩
    refine lc_tup (xs := es.map V.int) (fun j H' => H' = upd H Z (.lst (((es.take j).filter fun e => (tieAt ts e).foe).map V.int))) rfl (fun j H' _ h => by rw [h]; exact SqT.of (same_new nZ _ _ hta)) ?_ ?_
    · rintro j x H' ex rfl
      rw [List.getElem?_map] at ex
      obtain ⟨e, he, rfl⟩ := Option.map_eq_some_iff.mp ex
      obtain ⟨z0, z1⟩ := hes e (List.mem_of_getElem? he)
      have hj := (List.getElem?_eq_some_iff.mp he).1
      have s1 := same_new (o := .lst (((es.take j).filter fun e => (tieAt ts e).foe).map V.int)) nZ
      obtain ⟨u, eu, cc, rfl, hcc⟩ := Paired.at' hp (tieAt_get z0 z1)
      refine ⟨rfl, .ref wa, rfl, wa, _, 1, .ref wb, rfl, rfl, SqT.of (s1 _ _ hwa), rfl, .int e, rfl, wb, us, e, .ref cc, rfl, rfl, SqT.of (s1 _ _ hwb), atI_of z0 eu, cc, _, 2, _, rfl, rfl, SqT.of (s1 _ _ hcc), rfl, rfl, _, rfl, ?_⟩
      rw [foesI_take ts es he, List.map_append]
      have lf : ((es.take j).filter fun e => (tieAt ts e).foe).length ≤ j := by
        have := List.length_filter_le (fun e => (tieAt ts e).foe) (es.take j)
        rw [List.length_take] at this
        omega
      cases hf : (tieAt ts e).foe with
      | true =>
        refine ⟨.int e, rfl, _, upd_same, by rw [List.length_map]; exact small1000 (by omega), ?_⟩
        funext b
        by_cases eb : b = Z
        · subst eb
          rw [upd_same, upd_same]
          rfl
        · rw [upd_ne eb, upd_ne eb, upd_ne eb]
      | false =>
        show upd H Z _ = upd H Z (.lst (((es.take j).filter fun e => (tieAt ts e).foe).map V.int ++ []))
        rw [List.append_nil]
    · rintro H' rfl
      rw [List.length_map, List.take_length]
      refine ⟨Z, _, rfl, .inl (SqL.of upd_same), ?_⟩
      rw [List.length_map]
      exact q _ (same_new nZ)
theorem ok_odd_ring {f : Addr} {fd : FuncData} {Ps : List Addr} (F : Fun K "odd_ring_holds" "odd_ring_holds" s_odd_ring_holds f fd) (D1 : Df P w K mg base 5 "ring_holds" ["web", "thing"] (spRing Ps)) (D2 : Df P w K mg base 1 "foes_in" ["web", "ring"] spFoes) : FnOk P w K mg base CX0 6 f fd ["web", "thing"] (spOdd Ps) := by
  obtain ⟨f1, fd1, G1, g1, k1, b1⟩ := D1
  obtain ⟨f2, fd2, G2, g2, k2, b2⟩ := D2
  refine F.ok sc_odd_ring_holds (fun vs H Q E h => ?_) (fun cdv A outer s H vs Q E hr h => ?_)
  · obtain ⟨wv, n, ts, v, rfl, _⟩ := h
    rfl
  · obtain ⟨wv, n, ts, v, rfl, hW, ok, hv, hT, q⟩ := h
    have hr1 : Room 1 _ := hr.mono (by decide : 1 ≤ 5)
    refine ⟨_, (pss_one (ps_ret (pe_and (pe_call G1 hr (by rfl) g1 k1 b1 .nil pass0 (pa_cons (pv 0) (pa_cons (pv 1) pa_nil))) (pe_one (pe_cmpR op_eq (pe_op op_mod (pe_call G2 hr1 (by rfl) g2 k2 b2 .nil pass0 (pa_cons (pv 0) (pa_cons (pv 1) pa_nil))) pe_int) pe_int (nomark _)))))), ?_⟩
    refine ⟨wv, rfl, v, rfl, wv, n, ts, v, rfl, hW, ok, hv, hT, fun H1 k => ⟨_, rfl, ?_⟩⟩
    cases hb : ringB H n ts v with
    | false =>
      have e : oddB H n ts v = false := by unfold oddB; rw [hb, Bool.false_and]
      rw [e] at q
      exact q _ k
    | true =>
      obtain ⟨a, pa, ta, pn, en, rfl, ea, epa, eta, _, hen, _, ndE, _, le, _⟩ := ring_is hb
      have lm : en.length ≤ 1000 := by
        have z := (hv.2 _ (parts_of' ea) (.ref ta) (by simp)).2 _ (parts_of' eta)
        have := z.2
        rw [List.length_map] at this
        exact this
      refine ⟨wv, rfl, .ref a, rfl, wv, n, ts, a, ta, .ref pa, en, rfl, hW.tk (k.tk hT), k.tup hT ea, k.tup hT eta, hen, lm, fun H2 s2 => ⟨_, 2, rfl, rfl, show (0 : Int) < 2 by decide, rfl, ?_⟩⟩
      have e : oddB H n ts (.ref a) = decide (V.int ((foesI ts en : Nat) % 2 : Int) = V.int 1) := by
        unfold oddB
        rw [hb, parts_of' ea]
        simp only [parts_of' eta, toI_map, Bool.true_and]
        rw [decide_eq_decide]
        constructor
        · intro z
          congr 1
          omega
        · intro z
          have := V.int.inj z
          omega
      rw [← e]
      exact q _ (k.trans (Kt.same k.tab s2))
end
/-! ### sorted(t), a tuple of fewer than 64 ints -/
def rSortT (K : PySem.W.Frag) : List V → Hp → VK → Prop := fun vs H Q => ∃ (a : Addr) (ns : List Int), vs = [V.ref a] ∧ SqT K H a (ns.map V.int) ∧ ns.length < 64 ∧
  ∀ (ys : List Int) (p : Addr), ys.Perm ns → ys.Pairwise (· ≤ ·) → H p = none → Q (.ref p) (upd H p (.lst (ys.map V.int)))
theorem cr_sortT {X : Cx} (hc : X.calm = true) : CallR X (.builtin "sorted") (rSortT X.K) := by
  intro pins s σ H vs us Q I rel want
  obtain ⟨a, ns, ex, hq, few, q⟩ := want
  subst ex
  obtain ⟨u, eu, rx⟩ := vals1 rel
  subst eu
  obtain rfl : u = Value.ref a := rx
  obtain ⟨its, rv, tup, small⟩ := I.tuple hq
  have len : its.length = ns.length := by rw [← rv.length, List.length_map]
  refine Calls.call_function_entry PyProof.Rows.kind_sorted PyProof.Rows.plain_sorted PyProof.Rows.entry_sorted (PyProof.Rows.args_sorted1 _) ?_
  unfold Builtin.«sorted»
  refine wpAny_bind (m := checkCount "sorted" 1 1 _) (wpAny_pure ?_)
  obtain ⟨o, ho, hcls, m, hd⟩ := tup
  refine wpAny_bind (wpAny_collect_seq a (.inr rfl) ho hcls hd (fun h' kp => ?_) (by rw [List.size_toArray, len, sizeLine_eq]; omega))
  have hS : IntsAre its.toArray.toList ns := by simpa using rv.ints
  have J : Inv X pins σ H { s with heap := h' } := I.kept (t' := s.toks) kp
  have hal : its.toArray.toList.length = ns.length := by simpa using len
  refine wpAny_bind (wpAny_newList ?_ (by rw [hal, sizeLine_eq]; omega))
  have new : (h'.push (seqObj "list" its.toArray.toList.toArray 0)).get? h'.objs.size = some (seqObj "list" its.toArray.toList.toArray 0) := Heap.get?_push_size _ rfl
  show wpAny _ _ _ _ _ { s with heap := h'.push (seqObj "list" its.toArray.toList.toArray 0) }
  refine wpAny_bind (wpAny_holding (wpAny_call_entry PyProof.Rows.slot_list_sort ⟨_, new, rfl⟩ PyProof.Rows.entry_list_sort
    (PyProof.Rows.list_sort_tree (s := { s with heap := h'.push (seqObj "list" its.toArray.toList.toArray 0) }) new hS (by rw [hal]; exact few) fun out ys o1 o2 o3 => ⟨_, rfl, ?_⟩) (PyProof.Rows.args_list_sort _)))
  obtain ⟨e', he'⟩ := PyProof.Rows.sortedHeap_at (vs := its.toArray.toList) (out := out) new
  have fits : (ys.map V.int).length ≤ sizeLine := by
    rw [List.length_map, o2.length_eq, sizeLine_eq]
    omega
  refine wpAny_pure ⟨_, rfl, .ref h'.objs.size, upd H h'.objs.size (.lst (ys.map V.int)), J.laid (t' := s.toks) (fun b u e => ?_) (Nat.le_refl _)
    (show ObjOk X.prog X.w _ _ _ (.lst (ys.map V.int)) from ⟨fits, out.toList, e', vals_of_ints o1, by rw [Array.toArray_toList]; exact he'⟩), rfl, q ys _ o2 o3 (J.hok.fresh (Nat.le_refl _))⟩
  have lb : b < h'.objs.size := Heap.lt_size e
  rw [PyProof.Rows.sortedHeap_old (Nat.ne_of_lt lb) (by rw [size_push']; exact Nat.lt_succ_of_lt lb)]
  exact Heap.get?_push_of_some _ e
/-! ### repr of data with dicts (and no lists) -/
mutual
inductive DpL (K : PySem.W.Frag) (H : Hp) : V → PyData → Prop
  | non : DpL K H .non .none
  | bl (b : Bool) : DpL K H (.bl b) (.bool b)
  | int (i : Int) : DpL K H (.int i) (.int i)
  | str (x : Str) : DpL K H (.str x) (.str x)
  | tup {a : Addr} {xs : List V} {ds : List PyData} : SqT K H a xs → DpLAll K H xs ds → DpL K H (.ref a) (.tuple ds)
  | d0 {a : Addr} : H a = some (.dK []) → DpL K H (.ref a) (.dict [])
  | d1 {a : Addr} {k : Int} {v : V} {d : PyData} : H a = some (.dK [(Sum.inl k, v)]) → DpL K H v d → DpL K H (.ref a) (.dict [(.int k, d)])
inductive DpLAll (K : PySem.W.Frag) (H : Hp) : List V → List PyData → Prop
  | nil : DpLAll K H [] []
  | cons {v : V} {vs : List V} {d : PyData} {ds : List PyData} : DpL K H v d → DpLAll K H vs ds → DpLAll K H (v :: vs) (d :: ds)
end
section
variable {X : Cx} {pins : List (Addr × Obj)} {σ : L2.St} {H : Hp} {s : Shared}
mutual
theorem DpL.reads (I : Inv X pins σ H s) : ∀ {v : V} {d : PyData}, DpL X.K H v d → ∀ {u : Value}, RelV v u → ∃ as, Reads s.heap u d as ∧ sysModules ∉ as
  | _, _, .non, _, r => by
    cases r
    exact ⟨_, Reads.none, by simp⟩
  | _, _, .bl b, _, r => by
    cases r
    exact ⟨_, Reads.bool _, by simp⟩
  | _, _, .int i, _, r => by
    obtain ⟨t, rfl⟩ := r
    exact ⟨_, Reads.int _ _, by simp⟩
  | _, _, .str x, _, r => by
    obtain ⟨t, rfl⟩ := r
    exact ⟨_, Reads.str _ _, by simp⟩
  | _, _, .tup hs ha, _, r => by
    cases r
    obtain ⟨its, rv, ⟨o, ho, hc, n, hd⟩, hlen⟩ := I.tuple hs
    obtain ⟨as, hr, hn⟩ := DpLAll.reads I ha rv
    exact ⟨as, Reads.tuple ho hc hd (by simpa using hr), hn⟩
  | _, _, .d0 (a := a) h, _, r => by
    cases r
    obtain ⟨hz, hne, vs, kv, o, es, ep, ho, ed, hd, ko, pr, nd⟩ := I.hok a _ h
    cases kv
    cases he : es.toList with
    | cons x y =>
      rw [he] at pr
      cases pr
    | nil =>
      refine ⟨_, Reads.dict (as := []) (bs := []) ho ed.1 hd (by rw [he]; exact .nil) (by rw [he]; exact .nil), ?_⟩
      intro hm
      simp at hm
      rw [← hm] at hne
      simp at hne
  | _, _, .d1 (a := a) (k := k) (v := v) h hv, _, r => by
    cases r
    obtain ⟨hz, hne, vs, kv, o, es, ep, ho, ed, hd, ko, pr, nd⟩ := I.hok a _ h
    cases kv with
    | cons q qs =>
      cases qs
      rename_i y
      obtain ⟨q1, q2⟩ := q
      cases he : es.toList with
      | nil =>
        rw [he] at pr
        cases pr
      | cons e0 er =>
        rw [he] at pr
        cases pr with
        | cons i1 i2 i3 =>
          cases i3
          obtain ⟨bs, hr, hn⟩ := DpL.reads I hv q2
          rw [← q1] at i1
          have i1' : keyIs (Sum.inl k) e0.key = true := i1
          rcases keyIs_shape i1' with ⟨i, t, ek, ev⟩ | ⟨x, t, ek, ev⟩
          · cases ek
            refine ⟨_, Reads.dict (as := [] ++ []) (bs := bs ++ []) ho ed.1 hd (by rw [he]; show ReadsAll s.heap [e0.key] [.int k] _; rw [ev]; exact .cons (.int _ _) .nil) (by rw [he]; show ReadsAll s.heap [e0.val] [_] _; rw [i2]; exact .cons hr .nil), ?_⟩
            intro hm
            simp at hm
            rcases hm with hm | hm
            · rw [← hm] at hne
              simp at hne
            · exact hn hm
          · cases ek
theorem DpLAll.reads (I : Inv X pins σ H s) : ∀ {vs : List V} {ds : List PyData}, DpLAll X.K H vs ds → ∀ {us : List Value}, Vals vs us → ∃ as, ReadsAll s.heap us ds as ∧ sysModules ∉ as
  | _, _, .nil, _, r => by
    cases r
    exact ⟨_, .nil, by simp⟩
  | _, _, .cons h1 h2, _, r => by
    cases r with
    | cons r1 r2 =>
      obtain ⟨as, q1, n1⟩ := DpL.reads I h1 r1
      obtain ⟨bs, q2, n2⟩ := DpLAll.reads I h2 r2
      exact ⟨_, .cons q1 q2, fun hm => (List.mem_append.mp hm).elim n1 n2⟩
end
/-- what repr tells -/
def RdX (K : PySem.W.Frag) (H : Hp) (v : V) (d : PyData) : Prop := (Dp K H v d ∧ d.hasDict = false) ∨ DpL K H v d
def rReprX (K : PySem.W.Frag) : List V → Hp → VK → Prop := fun xs H Q => ∃ a d, xs = [.ref a] ∧ RdX K H (.ref a) d ∧ d.showable = true ∧ d.depth ≤ 60 ∧ d.shown.length ≤ sizeLine ∧ Q (.str d.shown) H
theorem call_reprX (hG : X.A.guards = some []) (hu : X.A.units + 64 < cLine) : CallR X (.builtin "repr") (rReprX X.K) := by
  intro pins z σ H xs us Q I rel want
  obtain ⟨a, d, ex, hd, h1, h3, h4, q⟩ := want
  subst ex
  obtain ⟨u, eu, rx⟩ := vals1 rel
  subst eu
  have hr : ∃ as, Reads z.heap u d as ∧ (d.hasDict = true → sysModules ∉ as) := by
    rcases hd with ⟨hd, hn⟩ | hd
    · obtain ⟨as, rd⟩ := Dp.reads I d (.ref a) u hd rx
      exact ⟨as, rd, fun h => by rw [hn] at h; cases h⟩
    · obtain ⟨as, rd, hn⟩ := DpL.reads I hd rx
      exact ⟨as, rd, fun _ => hn⟩
  obtain ⟨as, rd, hsm⟩ := hr
  obtain rfl : u = Value.ref a := rx
  exact repr_of_reads' rd h1 hsm hG (by omega) (fun _ _ h => h) (fun h' t tk kp => ⟨.str d.shown, H, I.kept kp, ⟨t, rfl⟩, q⟩) h4
end
/-! ### such data stay -/
def KpD (K : PySem.W.Frag) (H H' : Hp) : Prop := (∀ a xs, SqT K H a xs → SqT K H' a xs) ∧ (∀ a xs, SqL K H a xs → SqL K H' a xs) ∧ ∀ a kvs, H a = some (.dK kvs) → H' a = some (.dK kvs)
section
variable {K : PySem.W.Frag} {H H' : Hp}
mutual
theorem Dp.kp (k : KpD K H H') : ∀ {v : V} {d : PyData}, Dp K H v d → Dp K H' v d
  | _, _, .non => .non
  | _, _, .bl b => .bl b
  | _, _, .int i => .int i
  | _, _, .str x => .str x
  | _, _, .lst hs ha => .lst (k.2.1 _ _ hs) (DpAll.kp k ha)
  | _, _, .tup hs ha => .tup (k.1 _ _ hs) (DpAll.kp k ha)
theorem DpAll.kp (k : KpD K H H') : ∀ {vs : List V} {ds : List PyData}, DpAll K H vs ds → DpAll K H' vs ds
  | _, _, .nil => .nil
  | _, _, .cons h t => .cons (Dp.kp k h) (DpAll.kp k t)
end
mutual
theorem DpL.kp (k : KpD K H H') : ∀ {v : V} {d : PyData}, DpL K H v d → DpL K H' v d
  | _, _, .non => .non
  | _, _, .bl b => .bl b
  | _, _, .int i => .int i
  | _, _, .str x => .str x
  | _, _, .tup hs ha => .tup (k.1 _ _ hs) (DpLAll.kp k ha)
  | _, _, .d0 h => .d0 (k.2.2 _ _ h)
  | _, _, .d1 h hv => .d1 (k.2.2 _ _ h) (DpL.kp k hv)
theorem DpLAll.kp (k : KpD K H H') : ∀ {vs : List V} {ds : List PyData}, DpLAll K H vs ds → DpLAll K H' vs ds
  | _, _, .nil => .nil
  | _, _, .cons h t => .cons (DpL.kp k h) (DpLAll.kp k t)
end
theorem RdX.kp (k : KpD K H H') {v : V} {d : PyData} (h : RdX K H v d) : RdX K H' v d := by
  rcases h with ⟨h, n⟩ | h
  · exact .inl ⟨Dp.kp k h, n⟩
  · exact .inr (DpL.kp k h)
theorem KpD.same (s : Same H H') : KpD K H H' := by
  refine ⟨fun a xs h => ?_, fun a xs h => s.seq h, fun a kvs h => s _ _ h⟩
  rcases h with (h | ⟨o, h⟩) | h
  · exact .inl (.inl (s _ _ h))
  · exact .inl (.inr ⟨o, s _ _ h⟩)
  · exact .inr h
theorem KpD.trans {H1 : Hp} (a : KpD K H H1) (b : KpD K H1 H') : KpD K H H' := ⟨fun x xs h => b.1 x xs (a.1 x xs h), fun x xs h => b.2.1 x xs (a.2.1 x xs h), fun x xs h => b.2.2 x xs (a.2.2 x xs h)⟩
end
/-! ### what can be told -/
structure FineX (k w : Nat) (d : PyData) : Prop where
  shw : d.showable = true
  lsh : d.leavesShort 80 = true
  dep : d.depth ≤ k
  wei : d.weight ≤ w
theorem FineX.mono {k k' w w' : Nat} {d : PyData} (h : FineX k w d) (hk : k ≤ k') (hw : w ≤ w') : FineX k' w' d := ⟨h.shw, h.lsh, Nat.le_trans h.dep hk, Nat.le_trans h.wei hw⟩
theorem FineX.int {i : Int} (h : i.natAbs < 10 ^ 70) : FineX 0 240 (.int i) := by
  have hl : i.natAbs ≠ 0 → i.natAbs.log2 < 233 := fun e => (Nat.log2_lt e).mpr (Nat.lt_of_lt_of_le h (by decide))
  have hl2 : i.natAbs.log2 < 1920 := by
    by_cases e : i.natAbs = 0
    · rw [e]; decide
    · have := hl e; omega
  refine ⟨by rw [PyData.showable]; exact decide_eq_true hl2, ?_, Nat.le_refl _, ?_⟩
  · rw [PyData.leavesShort]
    refine decide_eq_true ?_
    have e := int_text_length_le10 (k := 70) (by decide) h
    show (Str.ofString (toString i)).length ≤ 80
    rw [PySem.ofString_length]
    omega
  · rw [PyData.weight]
    split
    · omega
    · rename_i e
      have := hl (fun z => e (by simpa using z))
      omega
theorem FineX.non : FineX 0 0 .none := ⟨rfl, rfl, Nat.le_refl _, Nat.le_refl _⟩
theorem FineX.bool (b : Bool) : FineX 0 0 (.bool b) := ⟨rfl, rfl, Nat.le_refl _, Nat.le_refl _⟩
theorem FineX.str {x : Str} (h1 : (PyData.str x).leavesShort 80 = true) (h2 : x.cps.size ≤ 100) : FineX 0 100 (.str x) := ⟨rfl, h1, Nat.le_refl _, h2⟩
theorem finex_all {k w : Nat} : ∀ {xs : List PyData}, (∀ x ∈ xs, FineX k w x) → PyData.showableAll xs = true ∧ PyData.leavesShortAll 80 xs = true ∧ PyData.depthAll xs ≤ k ∧ PyData.weightAll xs ≤ xs.length * (w + 1)
  | [], _ => by simp [PyData.showableAll, PyData.leavesShortAll, PyData.depthAll, PyData.weightAll]
  | x :: xs, h => by
    obtain ⟨h1, h2, h3, h4⟩ := finex_all (xs := xs) fun y hy => h y (List.mem_cons_of_mem _ hy)
    obtain ⟨g1, g2, g3, g4⟩ := h x (by simp)
    refine ⟨by rw [PyData.showableAll, g1, h1]; rfl, by rw [PyData.leavesShortAll, g2, h2]; rfl, ?_, ?_⟩
    · rw [PyData.depthAll]
      omega
    · rw [PyData.weightAll, List.length_cons, Nat.succ_mul]
      omega
theorem FineX.tup {k w n : Nat} {xs : List PyData} (h : ∀ x ∈ xs, FineX k w x) (hn : xs.length ≤ n) : FineX (k + 1) (n * (w + 1)) (.tuple xs) := by
  obtain ⟨h1, h2, h3, h4⟩ := finex_all h
  refine ⟨by rw [PyData.showable]; exact h1, by rw [PyData.leavesShort]; exact h2, by rw [PyData.depth]; omega, ?_⟩
  rw [PyData.weight]
  exact Nat.le_trans h4 (Nat.mul_le_mul_right _ hn)
theorem FineX.lst {k w n : Nat} {xs : List PyData} (h : ∀ x ∈ xs, FineX k w x) (hn : xs.length ≤ n) : FineX (k + 1) (n * (w + 1)) (.list xs) := by
  obtain ⟨h1, h2, h3, h4⟩ := finex_all h
  refine ⟨by rw [PyData.showable]; exact h1, by rw [PyData.leavesShort]; exact h2, by rw [PyData.depth]; omega, ?_⟩
  rw [PyData.weight]
  exact Nat.le_trans h4 (Nat.mul_le_mul_right _ hn)
theorem FineX.d0 : FineX 1 0 (.dict []) := ⟨rfl, rfl, by decide, by decide⟩
theorem FineX.d1 {k w : Nat} {i : Int} {d : PyData} (hi : i.natAbs < 10 ^ 70) (h : FineX k w d) : FineX (k + 1) (w + 300) (.dict [(.int i, d)]) := by
  obtain ⟨g1, g2, g3, g4⟩ := FineX.int hi
  refine ⟨by simp only [PyData.showable, PyData.showableKv, Bool.and_true] at g1 ⊢; rw [Bool.and_eq_true]; exact ⟨g1, h.shw⟩, by simp only [PyData.leavesShort, PyData.leavesShortKv, Bool.and_true] at g2 ⊢; rw [Bool.and_eq_true]; exact ⟨g2, h.lsh⟩, ?_, ?_⟩
  · simp only [PyData.depth, PyData.depthKv]
    have := h.dep
    omega
  · simp only [PyData.weight, PyData.weightKv] at g4 ⊢
    have := h.wei
    omega
theorem FineX.len {k w : Nat} {d : PyData} (h : FineX k w d) (hw : w ≤ 200000) : d.shown.length ≤ sizeLine := by
  have := PyData.shown_le 80 (by decide) d h.lsh
  have h2 : (80 + 2) * d.weight ≤ 82 * 200000 := Nat.mul_le_mul (by decide) (Nat.le_trans h.wei hw)
  rw [sizeLine_eq]
  omega
theorem kind_okX (b : Bool) : (PyData.str (kindS b)).leavesShort 80 = true ∧ (kindS b).cps.size ≤ 100 := by cases b <;> decide +kernel
theorem small_int {i : Int} (h0 : -1000 ≤ i) (h1 : i < 1000) : FineX 0 10 (.int i) := by
  have h := FineX.int (i := i) (Nat.lt_of_lt_of_le (show i.natAbs < 1001 by omega) (by decide))
  refine ⟨h.shw, h.lsh, h.dep, ?_⟩
  rw [PyData.weight]
  split
  · omega
  · rename_i e
    have hn : i.natAbs < 1024 := by omega
    have := (Nat.log2_lt (show i.natAbs ≠ 0 from fun z => e (by simpa using z))).mpr (show i.natAbs < 2 ^ 10 by omega)
    omega
theorem FineX.tie {n : Int} {t : Tie} (h : TieOk n t) (hn : n ≤ 40) : FineX 1 303 (tieD t) := by
  obtain ⟨h1, h2, h3, h4, _⟩ := h
  refine (FineX.tup (k := 0) (w := 100) (n := 3) (fun x hx => ?_) (Nat.le_refl _)).mono (Nat.le_refl _) (by decide)
  simp only [List.mem_cons, List.not_mem_nil, or_false] at hx
  rcases hx with rfl | rfl | rfl
  · exact (small_int (by omega) (by omega)).mono (Nat.le_refl _) (by decide)
  · exact (small_int (by omega) (by omega)).mono (Nat.le_refl _) (by decide)
  · exact FineX.str (kind_okX _).1 (kind_okX _).2
theorem FineX.web {n : Int} {ts : List Tie} (h : WebOk n ts) : FineX 3 80000 (webD n ts) := by
  have h1 := h.lo
  have h2 := h.hi
  have ft : FineX 2 36480 (.tuple (ts.map tieD)) := (FineX.tup (k := 1) (w := 303) (n := 120) (fun x hx => by
    obtain ⟨t, ht, rfl⟩ := List.mem_map.mp hx
    exact FineX.tie (h.ok t ht) h2) (by rw [List.length_map]; exact h.few)).mono (Nat.le_refl _) (by decide)
  refine (FineX.tup (k := 2) (w := 36480) (n := 2) (fun x hx => ?_) (Nat.le_refl _)).mono (Nat.le_refl _) (by decide)
  simp only [List.mem_cons, List.not_mem_nil, or_false] at hx
  rcases hx with rfl | rfl
  · exact (small_int (by omega) (by omega)).mono (by decide) (by decide)
  · exact ft
theorem dpl_ties {K : PySem.W.Frag} {H : Hp} : ∀ {vs : List V} {ts : List Tie}, Paired (TieV H) vs ts → DpLAll K H vs (ts.map tieD)
  | _, _, .nil => .nil
  | _, _, .cons r t => by
    obtain ⟨a, rfl, e⟩ := r
    exact .cons (.tup (SqT.of e) (.cons (.int _) (.cons (.int _) (.cons (.str _) .nil)))) (dpl_ties t)
theorem WebAt.dpl {K : PySem.W.Frag} {H : Hp} {v : V} {n : Int} {ts : List Tie} (h : WebAt H v n ts) : DpL K H v (webD n ts) := by
  obtain ⟨a, b, vs, rfl, h1, h2, h3⟩ := h
  exact .tup (SqT.of h1) (.cons (.int _) (.cons (.tup (SqT.of h2) (dpl_ties h3)) .nil))
theorem web_nod (n : Int) (ts : List Tie) : (webD n ts).hasDict = false := by
  have h : ∀ ts : List Tie, PyData.hasDictAll (ts.map tieD) = false := fun ts => by
    induction ts with
    | nil => rfl
    | cons t ts ih => rw [List.map_cons, PyData.hasDictAll, ih]; rfl
  unfold webD
  simp only [PyData.hasDict, PyData.hasDictAll, h, Bool.or_false]
/-- a web beside a thing -/
theorem RdX.pair {K : PySem.W.Frag} {H : Hp} {r : Addr} {wv v : V} {n : Int} {ts : List Tie} {d : PyData} (hr : H r = some (.tup [wv, v])) (hw : WebAt H wv n ts) (h : RdX K H v d) : RdX K H (.ref r) (.tuple [webD n ts, d]) := by
  rcases h with ⟨h, hn⟩ | h
  · refine .inl ⟨.tup (SqT.of hr) (.cons hw.dp (.cons h .nil)), ?_⟩
    simp only [PyData.hasDict, PyData.hasDictAll, web_nod, hn, Bool.or_false]
  · exact .inr (.tup (SqT.of hr) (.cons hw.dpl (.cons h .nil)))
def Knw (H : Hp) (v : V) : Prop := Kn H v ∧ ∀ xs, parts H v = some xs → xs.length ≤ 1000 ∧ ∀ x ∈ xs, Kn H x
theorem Knw.part {H : Hp} {v : V} (h : Knw H v) : Part2 H v := ⟨h.1, fun ys e => ⟨(h.2 ys e).2, (h.2 ys e).1⟩⟩
/-! ### k08: what are sides -/
def sidesB (n : Int) : Option (List V) → Bool
  | some xs => decide ((xs.length : Int) = n) && xs.all (wbelow 2)
  | none => false
def holdB (n : Int) (ts : List Tie) : Option (List V) → Bool
  | some xs => sidesB n (some xs) && ts.all fun t => !brk (xs.map toI) t
  | none => false
theorem toI_ints (ss : List Int) : (ss.map V.int).map toI = ss := by
  rw [List.map_map]
  exact (List.map_congr_left (g := id) fun _ _ => rfl).trans (List.map_id ss)
theorem bad_all (ss : List Int) (ts : List Tie) : (bad ss ts).isEmpty = ts.all fun t => !brk ss t := by
  rw [Bool.eq_iff_iff, List.isEmpty_iff, bad_nil, List.all_eq_true]
  unfold Cons
  constructor
  · intro h t ht
    rw [h t ht]
    rfl
  · intro h t ht
    have := h t ht
    cases e : brk ss t with
    | false => rfl
    | true => rw [e] at this; cases this
def spIsSidesX (Ps : List Addr) : Sp := fun vs H Q _ => ∃ (wv : V) (n : Int) (ts : List Tie) (v : V), vs = [wv, v] ∧ WebAt H wv n ts ∧ WebOk n ts ∧ Knw H v ∧ Tabs Ps H ∧ ∀ H', Kt Ps H H' → Q (.bl (sidesB n (parts H v))) H'
def spSidesHold (Ps : List Addr) : Sp := fun vs H Q _ => ∃ (wv : V) (n : Int) (ts : List Tie) (v : V), vs = [wv, v] ∧ WebAt H wv n ts ∧ WebOk n ts ∧ Knw H v ∧ Tabs Ps H ∧ ∀ H', Kt Ps H H' → Q (.bl (holdB n ts (parts H v))) H'
def spSameB : Sp := fun vs H Q _ => ∃ b : Bool, vs = [.bl b, .bl b] ∧ Q (.bl true) H
def spLIsSides : Sp := fun vs H Q _ => ∃ (wv : V) (n : Int) (ts : List Tie) (v : V), vs = [wv, v] ∧ WebAt H wv n ts ∧ Knw H v ∧ Q (.bl (sidesB n (parts H v))) H
def spLHold : Sp := fun vs H Q _ => ∃ (wv : V) (n : Int) (ts : List Tie) (v : V), vs = [wv, v] ∧ WebAt H wv n ts ∧ WebOk n ts ∧ Knw H v ∧ Q (.bl (holdB n ts (parts H v))) H
section
variable {P : Program} {w : World} {K : PySem.W.Frag} {mg : Str → Option Value} {base : Heap}
theorem ok_is_sides {f c Pt : Addr} {fd : FuncData} {Ps : List Addr} (F : FunC K "is_sides" "is_sides" s_is_sides f fd c) (TB : GxR.TabB base mg c Pt) (hPt : Pt ∈ Ps) (hall : mg "all" = none) (D_is_tuple_of : Df P w K mg base 1 "is_tuple_of" ["length", "thing"] spTupleOf) (D1 : Df P w K mg base 2 "is_whole_below" ["limit", "thing"] spBelow) : FnOk P w K mg base CX0 4 f fd ["web", "thing"] (spIsSidesX Ps) := by
  obtain ⟨f1, fd1, G1, g1, k1, b1⟩ := D1
  obtain ⟨f_is_tuple_of, fd_is_tuple_of, G_is_tuple_of, g_is_tuple_of, k_is_tuple_of, b_is_tuple_of⟩ := D_is_tuple_of
  refine F.ok sc_is_sides (fun vs H Q E h => ?_) (fun A outer s H vs Q E hr h => ?_)
  · obtain ⟨wv, n, ts, v, rfl, _⟩ := h
    rfl
  · obtain ⟨wv, n, ts, v, rfl, ⟨wa, wb, us, rfl, hwa, hwb, hp⟩, ok, ⟨kv, kp⟩, hT, q⟩ := h
    refine ⟨_, (pss_cons (ps_if (pt_not (pt_val (pe_call G_is_tuple_of (hr.mono (by decide)) (by rfl) g_is_tuple_of k_is_tuple_of b_is_tuple_of .nil pass0 (pa_cons (pe_ix ix_tup (pv 0) pe_int (fun _ _ => rfl)) (pa_cons (pv 1) pa_nil)))))
        (pss_one (ps_ret pe_bl))
        pss_nil)
      (pss_one (ps_ret (pe_all (k := 2) (own := [("side", 2)]) (g := gName 2) hr TB rfl rfl sc_is_sides.nd (by rfl) hall (pi_tup (pv 1)) (blkOk_by (N := N_is_sides) (sc := defScope s_is_sides) (own := [("side", 2)]) (by decide +kernel)) ⟨rfl, by decide +kernel, by decide +kernel⟩ (show (".0" : Str) ∉ N_is_sides by decide +kernel)
        (fun _ _ _ _ _ _ _ => pg_name (i := 2) sc_is_sides.nd rfl (.inl rfl)) (fun _ _ _ _ _ _ _ hr' => pe_call G1 hr' (by rfl) g1 k1 b1 .nil pass0 (pa_cons pe_int (pa_cons (pv 2) pa_nil))))))), ?_⟩
    refine ⟨.ref wa, rfl, wa, _, 0, .int n, rfl, rfl, SqT.of hwa, rfl, v, rfl, n, v, rfl, kv, _, rfl, ?_⟩
    cases hpt : parts H v with
    | none =>
      have e0 : lenIs H v n = false := by
        unfold lenIs
        rw [hpt]
      rw [e0]
      rw [hpt] at q
      exact q _ (Kt.refl hT)
    | some xs =>
      have e0 : lenIs H v n = decide ((xs.length : Int) = n) := by
        unfold lenIs
        rw [hpt]
      rw [e0]
      rw [hpt] at q
      obtain ⟨few, kx⟩ := kp xs hpt
      by_cases hl : (xs.length : Int) = n
      · have e1 : sidesB n (some xs) = xs.all (wbelow 2) := by
          show (decide ((xs.length : Int) = n) && xs.all (wbelow 2)) = _
          rw [decide_eq_true hl, Bool.true_and]
        rw [e1] at q
        rw [decide_eq_true hl]
        obtain ⟨a, rfl, ha⟩ : ∃ a, v = .ref a ∧ H a = some (.tup xs) := by
          cases v with
          | ref a =>
            rcases kv with ⟨ys, h⟩ | ⟨ys, h⟩ | ⟨ys, h⟩
            · rw [parts_none (by unfold isT; simp only [h])] at hpt; cases hpt
            · rw [parts_of' h] at hpt; cases hpt; exact ⟨a, rfl, h⟩
            · rw [parts_none (by unfold isT; simp only [h])] at hpt; cases hpt
          | _ => rw [parts_none rfl] at hpt; cases hpt
        refine ⟨.ref a, rfl, a, rfl, ⟨_, SqT.of ha⟩, hT Pt hPt, fun i m H' => i + m = xs.length ∧ Kt Ps H H' ∧ (xs.take i).all (wbelow 2) = true, fun H2 hH2 => ⟨xs.length, by omega, Kt.tabbed hT hPt hH2, rfl⟩, fun i m H' hw => ?_⟩
        obtain ⟨em, kt, hal⟩ := hw
        have ha' := kt.tup hT ha
        by_cases hi : i < xs.length
        · refine .inr ⟨⟨_, _, SqT.of ha', List.getElem?_eq_getElem hi⟩, fun H3 => Kt Ps H H3 ∧ (xs.take (i + 1)).all (wbelow 2) = true, fun H3 n3 => ⟨m - 1, by omega, by omega, n3.1, n3.2⟩, fun x H3 hy => ?_⟩
          obtain ⟨rfl, fy⟩ := hy
          have ex : xs[i]? = some x := fy _ (SqT.of ha')
          refine ⟨rfl, x, rfl, 2, x, rfl, kt.kn hT (kx x (List.mem_of_getElem? ex)), _, rfl, ?_⟩
          have step : (xs.take (i + 1)).all (wbelow 2) = wbelow 2 x := by
            rw [List.take_add_one, ex, List.all_append, hal]
            simp
          cases hb : wbelow 2 x with
          | true => exact ⟨kt, step.trans hb⟩
          | false =>
            have no : xs.all (wbelow 2) = false := by
              rw [Bool.eq_false_iff]
              intro z
              rw [List.all_eq_true] at z
              rw [z x (List.mem_of_getElem? ex)] at hb
              cases hb
            rw [no] at q
            exact q _ kt
        · refine .inl ⟨⟨_, SqT.of ha', by omega⟩, ?_⟩
          rw [List.take_of_length_le (by omega)] at hal
          rw [hal] at q
          exact q _ kt
      · have e1 : sidesB n (some xs) = false := by
          show (decide ((xs.length : Int) = n) && xs.all (wbelow 2)) = _
          rw [decide_eq_false hl, Bool.false_and]
        rw [e1] at q
        rw [decide_eq_false hl]
        exact q _ (Kt.refl hT)
theorem sides_at {H : Hp} {v : V} {n : Int} (kv : Kn H v) (h : sidesB n (parts H v) = true) : ∃ (a : Addr) (ss : List Int), v = .ref a ∧ H a = some (.tup (ss.map V.int)) ∧ (ss.length : Int) = n ∧ parts H v = some (ss.map V.int) := by
  cases hpt : parts H v with
  | none => rw [hpt] at h; cases h
  | some xs =>
    rw [hpt] at h
    have h' : (decide ((xs.length : Int) = n) && xs.all (wbelow 2)) = true := h
    rw [Bool.and_eq_true, decide_eq_true_iff] at h'
    obtain ⟨ss, rfl, _⟩ := ints_of h'.2
    rw [List.length_map] at h'
    cases v with
    | ref a =>
      rcases kv with ⟨ys, h⟩ | ⟨ys, h⟩ | ⟨ys, h⟩
      · rw [parts_none (by unfold isT; simp only [h])] at hpt; cases hpt
      · have hpt' := hpt
        rw [parts_of' h] at hpt'
        cases hpt'
        exact ⟨a, ss, rfl, h, h'.1, rfl⟩
      · rw [parts_none (by unfold isT; simp only [h])] at hpt; cases hpt
    | _ => rw [parts_none rfl] at hpt; cases hpt
theorem hold_not {H : Hp} {v : V} {n : Int} {ts : List Tie} (h : sidesB n (parts H v) = false) : holdB n ts (parts H v) = false := by
  cases hpt : parts H v with
  | none => rfl
  | some xs =>
    rw [hpt] at h
    show (sidesB n (some xs) && _) = false
    rw [h, Bool.false_and]
theorem hold_yes {H : Hp} {v : V} {n : Int} {ts : List Tie} {ss : List Int} (h : sidesB n (parts H v) = true) (e : parts H v = some (ss.map V.int)) : holdB n ts (parts H v) = ts.all fun t => !brk ss t := by
  rw [e] at h ⊢
  show (sidesB n (some (ss.map V.int)) && ts.all fun t => !brk ((ss.map V.int).map toI) t) = _
  rw [h, Bool.true_and, toI_ints]
theorem ok_sides_hold {f : Addr} {fd : FuncData} {Ps : List Addr} (F : Fun K "sides_hold" "sides_hold" s_sides_hold f fd) (D_is_sides : Df P w K mg base 4 "is_sides" ["web", "thing"] (spIsSidesX Ps)) (D_broken_by : Df P w K mg base 2 "broken_by" ["web", "sides"] spBroken) : FnOk P w K mg base CX0 5 f fd ["web", "thing"] (spSidesHold Ps) := by
  obtain ⟨f_is_sides, fd_is_sides, G_is_sides, g_is_sides, k_is_sides, b_is_sides⟩ := D_is_sides
  obtain ⟨f_broken_by, fd_broken_by, G_broken_by, g_broken_by, k_broken_by, b_broken_by⟩ := D_broken_by
  refine F.ok sc_sides_hold (fun vs H Q E h => ?_) (fun cdv A outer s H vs Q E hr h => ?_)
  · obtain ⟨wv, n, ts, v, rfl, _⟩ := h
    rfl
  · obtain ⟨wv, n, ts, v, rfl, hW, ok, kn, hT, q⟩ := h
    refine ⟨_, (pss_one (ps_ret (pe_and (pe_call G_is_sides (hr.mono (by decide)) (by rfl) g_is_sides k_is_sides b_is_sides .nil pass0 (pa_cons (pv 0) (pa_cons (pv 1) pa_nil))) (pe_one (pe_cmpR (op_eqD hr.units) (pe_call G_broken_by (hr.mono (by decide)) (by rfl) g_broken_by k_broken_by b_broken_by .nil pass0 (pa_cons (pv 0) (pa_cons (pv 1) pa_nil))) (pe_tup pa_nil) (nomark _)))))), ?_⟩
    refine ⟨wv, rfl, v, rfl, wv, n, ts, v, rfl, hW, ok, kn, hT, fun H1 k1 => ⟨_, rfl, ?_⟩⟩
    cases hb : sidesB n (parts H v) with
    | false =>
      rw [hold_not hb] at q
      exact q _ k1
    | true =>
      obtain ⟨a, ss, rfl, ha, hl, ep⟩ := sides_at kn.1 hb
      rw [hold_yes hb ep, ← bad_all] at q
      refine ⟨wv, rfl, .ref a, rfl, wv, a, n, ts, ss, rfl, hW.tk (k1.tk hT), ok, k1.tup hT ha, hl, fun r H2 s2 h2 => ⟨Nat.zero_le _, fun e ne => ?_⟩⟩
      have k2 := k1.trans (Kt.same k1.tab (s2.trans (same_new (o := .tup []) ne)))
      refine ⟨intsD (bad ss ts), intsD [], IntsV.dp ⟨r, rfl, same_new ne _ _ h2⟩, IntsV.dp ⟨e, rfl, upd_same⟩, shaped_intsD _, shaped_intsD _, ?_⟩
      rw [eqv_nil]
      exact q _ k2
theorem ok_l_same {f : Addr} {fd : FuncData} (F : Fun K "_law_same" "_law_same" s_l_same f fd) (M : Free mg) : FnOk P w K mg base CX0 1 f fd ["_law_found", "_law_due"] spSameB := by
  refine F.ok sc_l_same (fun vs H Q E h => ?_) (fun cdv A outer s H vs Q E hr h => ?_)
  · obtain ⟨b, rfl, _⟩ := h
    rfl
  · obtain ⟨b, rfl, q⟩ := h
    refine ⟨_, (pss_one (ps_ret (pe_and (pe_callB call_isi (by rfl) M.isinstance (by decide +kernel) (pa_cons (pv 0) (pa_cons (pe_bltn (v := .ty "bool") (by rfl) M.bool (by decide +kernel) rfl) pa_nil))) (pe_one (pe_cmpR op_eq (pv 0) (pv 1) (nomark _)))))), ?_⟩
    obtain ⟨t3, h3, e3⟩ := kn_bool (K := K) (H := H) (v := .bl b) trivial
    refine ⟨.bl b, rfl, .bl b, _, t3, _, _, rfl, .ty "bool", h3, e3, _, rfl, .bl b, rfl, .bl b, rfl, rfl, ?_⟩
    rw [decide_eq_true rfl]
    exact q
end
/-! ### the law: other webs -/
theorem cut_take {xs : List V} {k : Nat} (h : k ≤ xs.length) : cutV xs none (some (k : Int)) = xs.take k := by
  unfold cutV
  rw [HT.sIx_none, HT.sIx_nat, Nat.min_eq_left h, List.drop_zero]
  rfl
theorem cut_drop {xs : List V} {k : Nat} (h : k ≤ xs.length) : cutV xs (some (k : Int)) none = xs.drop k := by
  unfold cutV
  rw [HT.sIx_none, HT.sIx_nat, Nat.min_eq_left h]
  exact List.take_of_length_le (by rw [List.length_drop]; omega)
/-! ### stems (mathematics) -/
theorem Rch.mono {ts ts' : List Tie} (h : ∀ t ∈ ts, t ∈ ts') {a b : Int} (r : Rch ts a b) : Rch ts' a b :=
  r.ind (fun x => Rch ts' a x) .refl fun x y k hx ad => by
    obtain ⟨t, ht, e⟩ := ad
    exact hx.trans (Rch.adj (k := k) ⟨t, h t ht, e⟩)
theorem rch_pq {ts : List Tie} {t : Tie} {p q : Int} (h : (p = t.one ∧ q = t.other) ∨ (p = t.other ∧ q = t.one)) : Rch (ts ++ [t]) p q := by
  refine Rch.adj (k := t.foe) ⟨t, List.mem_append_right _ (by simp), rfl, ?_⟩
  rcases h with ⟨h1, h2⟩ | ⟨h1, h2⟩
  · exact .inl ⟨h1.symm, h2.symm⟩
  · exact .inr ⟨h2.symm, h1.symm⟩
theorem rch_snoc {ts : List Tie} {t : Tie} {p q : Int} (h : (p = t.one ∧ q = t.other) ∨ (p = t.other ∧ q = t.one)) {a b : Int} : Rch (ts ++ [t]) a b ↔ Rch ts a b ∨ (Rch ts a p ∧ Rch ts q b) ∨ (Rch ts a q ∧ Rch ts p b) := by
  have up : ∀ {x y : Int}, Rch ts x y → Rch (ts ++ [t]) x y := fun r => r.mono fun t ht => List.mem_append_left _ ht
  constructor
  · intro r
    refine r.ind (fun x => Rch ts a x ∨ (Rch ts a p ∧ Rch ts q x) ∨ (Rch ts a q ∧ Rch ts p x)) (.inl .refl) fun x y k hx ad => ?_
    obtain ⟨t', ht, e1, e2⟩ := ad
    rcases List.mem_append.mp ht with ht | ht
    · have st : Rch ts x y := Rch.adj (k := k) ⟨t', ht, e1, e2⟩
      rcases hx with h1 | ⟨h1, h2⟩ | ⟨h1, h2⟩
      · exact .inl (h1.trans st)
      · exact .inr (.inl ⟨h1, h2.trans st⟩)
      · exact .inr (.inr ⟨h1, h2.trans st⟩)
    · rw [List.mem_singleton] at ht
      subst ht
      have xy : (x = p ∧ y = q) ∨ (x = q ∧ y = p) := by
        rcases e2 with ⟨e2, e3⟩ | ⟨e2, e3⟩ <;> rcases h with ⟨h1, h2⟩ | ⟨h1, h2⟩
        · exact .inl ⟨by omega, by omega⟩
        · exact .inr ⟨by omega, by omega⟩
        · exact .inr ⟨by omega, by omega⟩
        · exact .inl ⟨by omega, by omega⟩
      rcases xy with ⟨rfl, rfl⟩ | ⟨rfl, rfl⟩
      · rcases hx with h1 | ⟨h1, h2⟩ | ⟨h1, h2⟩
        · exact .inr (.inl ⟨h1, .refl⟩)
        · exact .inr (.inl ⟨h1, .refl⟩)
        · exact .inl h1
      · rcases hx with h1 | ⟨h1, h2⟩ | ⟨h1, h2⟩
        · exact .inr (.inr ⟨h1, .refl⟩)
        · exact .inl h1
        · exact .inr (.inr ⟨h1, .refl⟩)
  · rintro (h1 | ⟨h1, h2⟩ | ⟨h1, h2⟩)
    · exact up h1
    · exact (up h1).trans ((rch_pq h).trans (up h2))
    · exact (up h1).trans ((rch_pq h).symm.trans (up h2))
theorem rch_nil {a b : Int} (h : Rch [] a b) : a = b := h.ind (fun x => a = x) rfl fun x y k _ ad => by
  obtain ⟨t, ht, _⟩ := ad
  simp at ht
def tieN (ts : List Tie) (k : Nat) : Tie := ts.getD k ⟨0, 0, false⟩
theorem tieN_of {ts : List Tie} {k : Nat} {t : Tie} (h : ts[k]? = some t) : tieN ts k = t := by
  unfold tieN
  rw [List.getD_eq_getElem?_getD, h]
  rfl
open Classical in
noncomputable def stemB (ts : List Tie) (k : Nat) : Bool := decide (¬ Rch (ts.take k) (tieN ts k).one (tieN ts k).other)
noncomputable def stemsTo (ts : List Tie) (k : Nat) : List Int := (rng k).filter fun i => stemB ts i.toNat
theorem stemsTo_succ (ts : List Tie) (k : Nat) : stemsTo ts (k + 1) = stemsTo ts k ++ (if stemB ts k = true then [(k : Int)] else []) := by
  unfold stemsTo
  rw [rng_succ, List.filter_append, List.filter_cons, Int.toNat_natCast]
  rfl
theorem stemsTo_len (ts : List Tie) (k : Nat) : (stemsTo ts k).length ≤ k := by
  unfold stemsTo
  have := List.length_filter_le (fun i => stemB ts i.toNat) (rng k)
  rw [rng_length] at this
  exact this
open Classical in
theorem stem_iff {ts : List Tie} {k : Nat} {t : Tie} (h : ts[k]? = some t) : stemB ts k = true ↔ ¬ Rch (ts.take k) t.one t.other := by
  unfold stemB
  rw [tieN_of h]
  exact decide_eq_true_iff
theorem take_snoc {α : Type} {ts : List α} {k : Nat} {t : α} (h : ts[k]? = some t) : ts.take (k + 1) = ts.take k ++ [t] := by
  rw [List.take_add_one, h]
  rfl
/-- labels: alike just where ties lead -/
def Lab (ts : List Tie) (n : Nat) (g : Int → Int) : Prop := ∀ i j : Int, 0 ≤ i → i < n → 0 ≤ j → j < n → (g i = g j ↔ Rch ts i j)
def mrg (g : Int → Int) (old new : Int) : Int → Int := fun x => if g x = old then new else g x
theorem lab_nil (n : Nat) : Lab [] n (fun i => i) := fun i j _ _ _ _ => ⟨fun h => by rw [show i = j from h]; exact .refl, fun h => rch_nil h⟩
theorem lab_same {ts : List Tie} {n : Nat} {g : Int → Int} {t : Tie} (h : Lab ts n g) (ok : TieOk n t) (e : g t.one = g t.other) : Lab (ts ++ [t]) n g := fun i j i0 i1 j0 j1 => by
  obtain ⟨o1, o2, o3, o4, _⟩ := ok
  have r : Rch ts t.one t.other := (h _ _ o1 o2 o3 o4).mp e
  rw [rch_snoc (.inl ⟨rfl, rfl⟩), h i j i0 i1 j0 j1]
  constructor
  · exact .inl
  · rintro (h1 | ⟨h1, h2⟩ | ⟨h1, h2⟩)
    · exact h1
    · exact h1.trans (r.trans h2)
    · exact h1.trans (r.symm.trans h2)
theorem lab_step {ts : List Tie} {n : Nat} {g : Int → Int} {t : Tie} {p q : Int} (h : Lab ts n g) (ok : TieOk n t) (e : (p = t.one ∧ q = t.other) ∨ (p = t.other ∧ q = t.one)) : Lab (ts ++ [t]) n (mrg g (g p) (g q)) := fun i j i0 i1 j0 j1 => by
  have pr : (0 ≤ p ∧ p < n) ∧ (0 ≤ q ∧ q < n) := by
    obtain ⟨o1, o2, o3, o4, _⟩ := ok
    rcases e with ⟨rfl, rfl⟩ | ⟨rfl, rfl⟩
    · exact ⟨⟨o1, o2⟩, o3, o4⟩
    · exact ⟨⟨o3, o4⟩, o1, o2⟩
  obtain ⟨⟨p0, p1⟩, q0, q1⟩ := pr
  rw [rch_snoc e]
  unfold mrg
  have ip := h i p i0 i1 p0 p1
  have jp := h j p j0 j1 p0 p1
  have iq := h i q i0 i1 q0 q1
  have jq := h j q j0 j1 q0 q1
  have ij := h i j i0 i1 j0 j1
  by_cases hi : g i = g p <;> by_cases hj : g j = g p
  · rw [if_pos hi, if_pos hj]
    exact ⟨fun _ => .inl (ij.mp (hi.trans hj.symm)), fun _ => rfl⟩
  · rw [if_pos hi, if_neg hj]
    constructor
    · intro z
      exact .inr (.inl ⟨ip.mp hi, (jq.mp z.symm).symm⟩)
    · rintro (z | ⟨_, z⟩ | ⟨_, z⟩)
      · exact absurd ((ij.mpr z).symm.trans hi) hj
      · exact (jq.mpr z.symm).symm
      · exact absurd (jp.mpr z.symm) hj
  · rw [if_neg hi, if_pos hj]
    constructor
    · intro z
      exact .inr (.inr ⟨iq.mp z, (jp.mp hj).symm⟩)
    · rintro (z | ⟨z, _⟩ | ⟨z, _⟩)
      · exact absurd ((ij.mpr z).trans hj) hi
      · exact absurd (ip.mpr z) hi
      · exact iq.mpr z
  · rw [if_neg hi, if_neg hj]
    constructor
    · intro z
      exact .inl (ij.mp z)
    · rintro (z | ⟨z, _⟩ | ⟨_, z⟩)
      · exact ij.mpr z
      · exact absurd (ip.mpr z) hi
      · exact absurd (jp.mpr z.symm) hj
/-- heads: labels that are places of their own; how many -/
structure Heads (ts : List Tie) (n i : Nat) (g : Int → Int) : Prop where
  lab : Lab (ts.take i) n g
  rng : ∀ x : Int, 0 ≤ x → x < n → 0 ≤ g x ∧ g x < n
  idem : ∀ x : Int, 0 ≤ x → x < n → g (g x) = g x
  cnt : ((FF.rng n).filter fun x => decide (g x = x)).length + (stemsTo ts i).length = n
theorem heads_nil (ts : List Tie) (n : Nat) : Heads ts n 0 (fun i => i) := by
  refine ⟨by rw [List.take_zero]; exact lab_nil n, fun x h0 h1 => ⟨h0, h1⟩, fun x _ _ => rfl, ?_⟩
  have e : ((FF.rng n).filter fun x => decide (x = x)) = FF.rng n := by
    rw [List.filter_eq_self]
    intro x _
    exact decide_eq_true rfl
  show ((FF.rng n).filter fun x => decide (x = x)).length + 0 = n
  rw [e, rng_length, Nat.add_zero]
theorem filter_drop {p q : Int → Bool} {h : Int} : ∀ {l : List Int}, l.Nodup → h ∈ l → p h = true → (∀ x ∈ l, q x = (p x && decide (x ≠ h))) → (l.filter q).length + 1 = (l.filter p).length
  | x :: l, nd, hm, hp, hq => by
    rw [List.nodup_cons] at nd
    have hx := hq x (by simp)
    rw [List.filter_cons, List.filter_cons, hx]
    by_cases e : x = h
    · subst e
      have same : l.filter q = l.filter p := List.filter_congr fun y hy => by
        rw [hq y (List.mem_cons_of_mem _ hy), decide_eq_true (show y ≠ x from fun z => nd.1 (by rw [← z]; exact hy)), Bool.and_true]
      rw [same, hp]
      simp
    · have hm' : h ∈ l := (List.mem_cons.mp hm).elim (fun z => absurd z.symm e) id
      have ih := filter_drop (l := l) nd.2 hm' hp fun y hy => hq y (List.mem_cons_of_mem _ hy)
      rw [decide_eq_true (show x ≠ h from e), Bool.and_true]
      cases p x
      · simpa using ih
      · simp
        omega
theorem heads_same {ts : List Tie} {n i : Nat} {g : Int → Int} {t : Tie} (h : Heads ts n i g) (et : ts[i]? = some t) (ok : TieOk n t) (e : g t.one = g t.other) : Heads ts n (i + 1) g := by
  refine ⟨by rw [take_snoc et]; exact lab_same h.lab ok e, h.rng, h.idem, ?_⟩
  have no : ¬ stemB ts i = true := fun z => (stem_iff et).mp z ((h.lab _ _ ok.1 ok.2.1 ok.2.2.1 ok.2.2.2.1).mp e)
  rw [stemsTo_succ, if_neg no, List.append_nil]
  exact h.cnt
theorem heads_step {ts : List Tie} {n i : Nat} {g : Int → Int} {t : Tie} {p q : Int} (h : Heads ts n i g) (et : ts[i]? = some t) (ok : TieOk n t) (e : (p = t.one ∧ q = t.other) ∨ (p = t.other ∧ q = t.one)) (ne : g p ≠ g q) : Heads ts n (i + 1) (mrg g (g p) (g q)) := by
  have pr : (0 ≤ p ∧ p < n) ∧ (0 ≤ q ∧ q < n) := by
    obtain ⟨o1, o2, o3, o4, _⟩ := ok
    rcases e with ⟨rfl, rfl⟩ | ⟨rfl, rfl⟩
    · exact ⟨⟨o1, o2⟩, o3, o4⟩
    · exact ⟨⟨o3, o4⟩, o1, o2⟩
  obtain ⟨⟨p0, p1⟩, q0, q1⟩ := pr
  have gp := h.rng p p0 p1
  have gq := h.rng q q0 q1
  have ip := h.idem p p0 p1
  have iq := h.idem q q0 q1
  refine ⟨by rw [take_snoc et]; exact lab_step h.lab ok e, fun x x0 x1 => ?_, fun x x0 x1 => ?_, ?_⟩
  · unfold mrg
    split
    · exact gq
    · exact h.rng x x0 x1
  · have ix := h.idem x x0 x1
    by_cases hx : g x = g p
    · have e1 : mrg g (g p) (g q) x = g q := if_pos hx
      rw [e1]
      show (if g (g q) = g p then g q else g (g q)) = g q
      rw [iq, if_neg (Ne.symm ne)]
    · have e1 : mrg g (g p) (g q) x = g x := if_neg hx
      rw [e1]
      show (if g (g x) = g p then g q else g (g x)) = g x
      rw [ix, if_neg hx]
  · have yes : stemB ts i = true := (stem_iff et).mpr fun z => by
      have hl := (h.lab _ _ ok.1 ok.2.1 ok.2.2.1 ok.2.2.2.1).mpr z
      rcases e with ⟨rfl, rfl⟩ | ⟨rfl, rfl⟩
      · exact ne hl
      · exact ne hl.symm
    have drop := filter_drop (p := fun x => decide (g x = x)) (q := fun x => decide (mrg g (g p) (g q) x = x)) (h := g p) (l := FF.rng n) ((rng_rising n).imp fun h => by omega) (mem_rng.mpr gp) (decide_eq_true ip) (fun x hx => ?_)
    · rw [stemsTo_succ, if_pos yes, List.length_append]
      have := h.cnt
      simp only [List.length_cons, List.length_nil]
      omega
    · have xr := mem_rng.mp hx
      rw [Bool.eq_iff_iff, Bool.and_eq_true, decide_eq_true_iff, decide_eq_true_iff, decide_eq_true_iff]
      show (if g x = g p then g q else g x) = x ↔ _
      by_cases hx : g x = g p
      · rw [if_pos hx]
        constructor
        · intro z
          exact absurd (by rw [← z, iq] at hx; exact hx.symm) ne
        · rintro ⟨z1, z2⟩
          exact absurd (z1.symm.trans hx) z2
      · rw [if_neg hx]
        exact ⟨fun z => ⟨z, fun y => hx (by rw [y]; exact ip)⟩, fun z => z.1⟩
/-- stems are told by the places of the ties alone -/
theorem rch_frames : ∀ {ts us : List Tie}, ts.length = us.length → (∀ (i : Nat) t u, ts[i]? = some t → us[i]? = some u → (u.one = t.one ∧ u.other = t.other) ∨ (u.one = t.other ∧ u.other = t.one)) → ∀ {a b : Int}, Rch ts a b → Rch us a b := by
  intro ts us hl h a b r
  refine r.ind (fun x => Rch us a x) .refl fun x y k hx ad => ?_
  obtain ⟨t, ht, _, e⟩ := ad
  obtain ⟨i, hi, rfl⟩ := List.getElem_of_mem ht
  have hu : us[i]? = some us[i] := List.getElem?_eq_getElem (by omega)
  have w := h i _ _ (List.getElem?_eq_getElem hi) hu
  refine hx.trans (Rch.adj (k := us[i].foe) ⟨us[i], List.getElem_mem _, rfl, ?_⟩)
  rcases w with ⟨w1, w2⟩ | ⟨w1, w2⟩ <;> rcases e with ⟨e1, e2⟩ | ⟨e1, e2⟩
  · exact .inl ⟨by omega, by omega⟩
  · exact .inr ⟨by omega, by omega⟩
  · exact .inr ⟨by omega, by omega⟩
  · exact .inl ⟨by omega, by omega⟩
def Framed (ts us : List Tie) : Prop := ts.length = us.length ∧ ∀ (i : Nat) t u, ts[i]? = some t → us[i]? = some u → (u.one = t.one ∧ u.other = t.other) ∨ (u.one = t.other ∧ u.other = t.one)
theorem Framed.symm {ts us : List Tie} (h : Framed ts us) : Framed us ts := ⟨h.1.symm, fun i u t e1 e2 => by
  rcases h.2 i t u e2 e1 with ⟨w1, w2⟩ | ⟨w1, w2⟩
  · exact .inl ⟨w1.symm, w2.symm⟩
  · exact .inr ⟨w2.symm, w1.symm⟩⟩
theorem Framed.take {ts us : List Tie} (h : Framed ts us) (k : Nat) : Framed (ts.take k) (us.take k) := by
  refine ⟨by rw [List.length_take, List.length_take, h.1], fun i t u e1 e2 => ?_⟩
  by_cases hk : i < k
  · rw [List.getElem?_take_of_lt hk] at e1 e2
    exact h.2 i t u e1 e2
  · rw [List.getElem?_take] at e1
    rw [if_neg hk] at e1
    cases e1
theorem Framed.map {ts : List Tie} {f : Tie → Tie} (h : ∀ t ∈ ts, ((f t).one = t.one ∧ (f t).other = t.other) ∨ ((f t).one = t.other ∧ (f t).other = t.one)) : Framed ts (ts.map f) := by
  refine ⟨by rw [List.length_map], fun i t u e1 e2 => ?_⟩
  rw [List.getElem?_map, e1] at e2
  cases e2
  exact h t (List.mem_of_getElem? e1)
theorem stems_framed {ts us : List Tie} (h : Framed ts us) : stemsTo us us.length = stemsTo ts ts.length := by
  unfold stemsTo
  rw [← h.1]
  refine List.filter_congr fun i hi => ?_
  have ir := mem_rng.mp hi
  have e1 : ts[i.toNat]? = some ts[i.toNat] := List.getElem?_eq_getElem (by omega)
  have l := h.1
  have e2 : us[i.toNat]? = some us[i.toNat] := List.getElem?_eq_getElem (by omega)
  have ht := h.take i.toNat
  rw [Bool.eq_iff_iff, stem_iff e1, stem_iff e2]
  have both : ∀ a b : Int, Rch (ts.take i.toNat) a b ↔ Rch (us.take i.toNat) a b := fun a b => ⟨fun r => rch_frames ht.1 ht.2 r, fun r => rch_frames ht.symm.1 ht.symm.2 r⟩
  rcases h.2 _ _ _ e1 e2 with ⟨w1, w2⟩ | ⟨w1, w2⟩
  · rw [w1, w2, both]
  · rw [w1, w2, both]
    exact ⟨fun z y => z y.symm, fun z y => z y.symm⟩
theorem stemsTo_rising (ts : List Tie) (k : Nat) : (stemsTo ts k).Pairwise (· < ·) := (rng_rising k).filter _
theorem stemsTo_mem {ts : List Tie} {k : Nat} {i : Int} : i ∈ stemsTo ts k ↔ (0 ≤ i ∧ i < k) ∧ stemB ts i.toNat = true := by
  unfold stemsTo
  rw [List.mem_filter, mem_rng]
theorem stems_own (ts : List Tie) : stemsTo ((stemsTo ts ts.length).map fun i => tieN ts i.toNat) (stemsTo ts ts.length).length = rng (stemsTo ts ts.length).length := by
  generalize hS : stemsTo ts ts.length = S
  unfold stemsTo
  rw [List.filter_eq_self]
  intro j hj
  have jr := mem_rng.mp hj
  have hjl : j.toNat < S.length := by omega
  have ej : (S.map fun i => tieN ts i.toNat)[j.toNat]? = some (tieN ts S[j.toNat].toNat) := by
    rw [List.getElem?_map, List.getElem?_eq_getElem hjl]
    rfl
  have hm : S[j.toNat] ∈ stemsTo ts ts.length := by rw [hS]; exact List.getElem_mem _
  obtain ⟨⟨m0, m1⟩, mb⟩ := stemsTo_mem.mp hm
  have et : ts[S[j.toNat].toNat]? = some (tieN ts S[j.toNat].toNat) := by
    have h : S[j.toNat].toNat < ts.length := by omega
    rw [List.getElem?_eq_getElem h, tieN_of (List.getElem?_eq_getElem h)]
  rw [stem_iff ej]
  rw [stem_iff et] at mb
  refine fun r => mb (r.mono fun t ht => ?_)
  rw [← List.map_take, List.mem_map] at ht
  obtain ⟨x, hx, rfl⟩ := ht
  obtain ⟨a, ha, rfl⟩ := List.getElem_of_mem hx
  rw [List.length_take] at ha
  rw [List.getElem_take]
  have hx' : S[a] ∈ stemsTo ts ts.length := by rw [hS]; exact List.getElem_mem _
  obtain ⟨⟨x0, x1⟩, _⟩ := stemsTo_mem.mp hx'
  have rise : S.Pairwise (· < ·) := by rw [← hS]; exact stemsTo_rising _ _
  have lt : S[a] < S[j.toNat] := List.pairwise_iff_getElem.mp rise a j.toNat (by omega) hjl (by omega)
  have h : S[a].toNat < ts.length := by omega
  rw [tieN_of (List.getElem?_eq_getElem h)]
  rw [List.mem_iff_getElem]
  exact ⟨S[a].toNat, by rw [List.length_take]; omega, by rw [List.getElem_take]⟩
/-! ### neighbours, and what a walk has come to (mathematics) -/
/-! ### ties around places, by their numbers (mathematics) -/
def Jn (t : Tie) (a b : Int) : Prop := (t.one = a ∧ t.other = b) ∨ (t.one = b ∧ t.other = a)
theorem Jn.symm {t : Tie} {a b : Int} (h : Jn t a b) : Jn t b a := h.elim .inr .inl
abbrev Nu := Int × Int
def n1 (ts : List Tie) (m : Int) (p : Int) : List Nu := (if p = (tieN ts m.toNat).one then [((tieN ts m.toNat).other, m)] else []) ++ (if p = (tieN ts m.toNat).other then [((tieN ts m.toNat).one, m)] else [])
def nN (ts : List Tie) (ns : List Int) (p : Int) : List Nu := ns.flatMap fun m => n1 ts m p
theorem nN_snoc (ts : List Tie) (ns : List Int) (m p : Int) : nN ts (ns ++ [m]) p = nN ts ns p ++ n1 ts m p := by
  unfold nN
  rw [List.flatMap_append]
  simp
theorem n1_len (ts : List Tie) (m p : Int) : (n1 ts m p).length ≤ 2 := by
  unfold n1
  rw [List.length_append]
  split <;> split <;> simp
theorem nN_len (ts : List Tie) (ns : List Int) (p : Int) : (nN ts ns p).length ≤ 2 * ns.length := by
  induction ns with
  | nil => simp [nN]
  | cons m ns ih =>
    have h := n1_len ts m p
    unfold nN at ih ⊢
    rw [List.flatMap_cons, List.length_append, List.length_cons]
    omega
theorem mem_nN {ts : List Tie} {ns : List Int} {p : Int} {q : Nu} : q ∈ nN ts ns p ↔ q.2 ∈ ns ∧ Jn (tieN ts q.2.toNat) p q.1 := by
  unfold nN n1 Jn
  rw [List.mem_flatMap]
  constructor
  · rintro ⟨m, hm, h⟩
    rcases List.mem_append.mp h with h | h
    · split at h
      · rename_i e
        rw [List.mem_singleton] at h
        subst h
        exact ⟨hm, .inl ⟨e.symm, rfl⟩⟩
      · simp at h
    · split at h
      · rename_i e
        rw [List.mem_singleton] at h
        subst h
        exact ⟨hm, .inr ⟨rfl, e.symm⟩⟩
      · simp at h
  · rintro ⟨hm, h⟩
    refine ⟨q.2, hm, List.mem_append.mpr ?_⟩
    obtain ⟨q1, q2⟩ := q
    simp only at h
    rcases h with ⟨h1, h2⟩ | ⟨h1, h2⟩
    · left
      rw [if_pos h1.symm, List.mem_singleton, ← h2]
    · right
      rw [if_pos h2.symm, List.mem_singleton, ← h1]
def NuV (H : Hp) (v : V) (q : Nu) : Prop := ∃ a, v = .ref a ∧ H a = some (.tup [.int q.1, .int q.2])
theorem NuV.tk {H H' : Hp} (k : Tk H H') {v : V} {p : Nu} (h : NuV H v p) : NuV H' v p := by
  obtain ⟨a, rfl, e⟩ := h
  exact ⟨a, rfl, k _ _ e⟩
theorem nus_tk {H H' : Hp} (k : Tk H H') {vs : List V} {qs : List Nu} (h : Paired (NuV H) vs qs) : Paired (NuV H') vs qs := Paired.mono (fun _ _ x => x.tk k) h
def aKv (As : List (Int × Addr)) : List (Key × V) := As.map fun p => (Sum.inl p.1, V.ref p.2)
theorem aKv_none {z : Int} : ∀ {As : List (Int × Addr)}, z ∉ As.map (·.1) → valV (aKv As) (Sum.inl z) = none
  | [], _ => rfl
  | p :: As, h => by
    rw [List.map_cons, List.mem_cons, not_or] at h
    have e := aKv_none (As := As) h.2
    have h1 := h.1
    unfold aKv at e ⊢
    rw [List.map_cons, valV_neg (fun z => h1 (Sum.inl.inj z).symm)]
    exact e
theorem aKv_some {z : Int} {a : Addr} : ∀ {As : List (Int × Addr)}, (As.map (·.1)).Nodup → (z, a) ∈ As → valV (aKv As) (Sum.inl z) = some (.ref a)
  | p :: As, nd, h => by
    rw [List.map_cons, List.nodup_cons] at nd
    rcases List.mem_cons.mp h with e | e
    · subst e
      unfold aKv
      rw [List.map_cons, valV_pos rfl]
    · have q := aKv_some (As := As) nd.2 e
      have ne : p.1 ≠ z := fun y => nd.1 (by rw [y]; exact List.mem_map.mpr ⟨_, e, rfl⟩)
      unfold aKv at q ⊢
      rw [List.map_cons, valV_neg (fun y => ne (Sum.inl.inj y))]
      exact q
theorem aKv_put {As : List (Int × Addr)} {z : Int} {a : Addr} (h : z ∉ As.map (·.1)) : putK (aKv As) (Sum.inl z) (.ref a) = aKv (As ++ [(z, a)]) := by
  unfold putK
  rw [if_neg]
  · unfold aKv
    rw [List.map_append]
    rfl
  · intro g
    rw [List.any_eq_true] at g
    obtain ⟨kv, h1, h2⟩ := g
    unfold aKv at h1
    rw [List.mem_map] at h1
    obtain ⟨p, hp, rfl⟩ := h1
    exact h (List.mem_map.mpr ⟨p, hp, Sum.inl.inj (of_decide_eq_true h2)⟩)
theorem aKv_len (As : List (Int × Addr)) : (aKv As).length = As.length := by unfold aKv; rw [List.length_map]
theorem aKv_cases (As : List (Int × Addr)) (z : Int) (nd : (As.map (·.1)).Nodup) : (z ∉ As.map (·.1) ∧ valV (aKv As) (Sum.inl z) = none) ∨ ∃ a, (z, a) ∈ As ∧ valV (aKv As) (Sum.inl z) = some (.ref a) := by
  by_cases h : z ∈ As.map (·.1)
  · obtain ⟨p, hp, rfl⟩ := List.mem_map.mp h
    exact .inr ⟨p.2, hp, aKv_some nd hp⟩
  · exact .inl ⟨h, aKv_none h⟩
/-- a dict of lists of (place, number) -/
structure Aro (H : Hp) (D : Addr) (As : List (Int × Addr)) (N : Int → List Nu) : Prop where
  at' : H D = some (.dK (aKv As))
  nd : (As.map (·.1)).Nodup
  nd2 : (As.map (·.2)).Nodup
  each : ∀ p ∈ As, ∃ vs, H p.2 = some (.lst vs) ∧ Paired (NuV H) vs (N p.1)
  no : ∀ q, q ∉ As.map (·.1) → N q = []
theorem Aro.same {H H' : Hp} {D : Addr} {As : List (Int × Addr)} {N : Int → List Nu} (h : Aro H D As N) (s : Same H H') : Aro H' D As N :=
  ⟨s _ _ h.at', h.nd, h.nd2, fun p hp => by
    obtain ⟨vs, h1, h2⟩ := h.each p hp
    exact ⟨vs, s _ _ h1, nus_tk (Same.tk s) h2⟩, h.no⟩
theorem Aro.out {H : Hp} {D : Addr} {As : List (Int × Addr)} {N : Int → List Nu} (h : Aro H D As N) {p : Int × Addr} (hp : p ∈ As) : p.2 ≠ D := by
  obtain ⟨vs, h1, _⟩ := h.each p hp
  exact ne_of h1 h.at' (by intro z; cases z)
/-- a place more, with nothing yet -/
theorem Aro.more {H : Hp} {D a : Addr} {As : List (Int × Addr)} {N : Int → List Nu} {z : Int} (h : Aro H D As N) (hz : z ∉ As.map (·.1)) (ha : H a = some (.lst [])) (hn : a ∉ As.map (·.2)) : Aro (upd H D (.dK (aKv (As ++ [(z, a)])))) D (As ++ [(z, a)]) N := by
  have haD : a ≠ D := ne_of ha h.at' (by intro z; cases z)
  have k : Tk H (upd H D (.dK (aKv (As ++ [(z, a)])))) := fun b xs e => by
    rw [upd_ne (ne_of e h.at' (by intro z; cases z))]
    exact e
  refine ⟨upd_same, ?_, ?_, fun p hp => ?_, fun q hq => ?_⟩
  · rw [List.map_append, List.nodup_append]
    refine ⟨h.nd, by simp, fun x hx y hy e => ?_⟩
    simp only [List.map_cons, List.map_nil, List.mem_singleton] at hy
    subst hy
    subst e
    exact hz hx
  · rw [List.map_append, List.nodup_append]
    refine ⟨h.nd2, by simp, fun x hx y hy e => ?_⟩
    simp only [List.map_cons, List.map_nil, List.mem_singleton] at hy
    subst hy
    subst e
    exact hn hx
  · rcases List.mem_append.mp hp with hp | hp
    · obtain ⟨vs, h1, h2⟩ := h.each p hp
      exact ⟨vs, by rw [upd_ne (h.out hp)]; exact h1, nus_tk k h2⟩
    · rw [List.mem_singleton] at hp
      subst hp
      refine ⟨[], by rw [upd_ne haD]; exact ha, ?_⟩
      rw [show N (z, a).1 = [] from h.no z hz]
      exact .nil
  · rw [List.map_append, List.mem_append, not_or] at hq
    exact h.no q hq.1
theorem Aro.put {H : Hp} {D a c : Addr} {As : List (Int × Addr)} {N : Int → List Nu} {z : Int} {vs : List V} {q : Nu} (h : Aro H D As N) (hz : (z, a) ∈ As) (hv : H a = some (.lst vs)) (hc : NuV H (.ref c) q) : Aro (upd H a (.lst (vs ++ [.ref c]))) D As (fun p => N p ++ if p = z then [q] else []) := by
  have k : Tk H (upd H a (.lst (vs ++ [.ref c]))) := tk_lst hv
  refine ⟨by rw [upd_ne (Ne.symm (h.out hz))]; exact h.at', h.nd, h.nd2, fun p hp => ?_, fun y hy => ?_⟩
  · obtain ⟨us, h1, h2⟩ := h.each p hp
    by_cases e : p.1 = z
    · have e2 : p.2 = a := by
        obtain ⟨i, hi, rfl⟩ := List.getElem_of_mem hp
        obtain ⟨j, hj, ej⟩ := List.getElem_of_mem hz
        have w : i = j := by
          have e3 : (As.map (·.1))[i]? = (As.map (·.1))[j]? := by
            rw [List.getElem?_map, List.getElem?_map, List.getElem?_eq_getElem hi, List.getElem?_eq_getElem hj, ej]
            exact congrArg some e
          exact (List.getElem?_inj (by rw [List.length_map]; exact hi) h.nd).mp e3
        subst w
        rw [ej]
      rw [e2] at h1 ⊢
      rw [hv] at h1
      cases h1
      refine ⟨_, upd_same, ?_⟩
      rw [if_pos e]
      exact Paired.snoc (nus_tk k h2) (hc.tk k)
    · have e2 : p.2 ≠ a := fun y => e (by
        obtain ⟨i, hi, rfl⟩ := List.getElem_of_mem hp
        obtain ⟨j, hj, ej⟩ := List.getElem_of_mem hz
        have w : i = j := by
          have e3 : (As.map (·.2))[i]? = (As.map (·.2))[j]? := by
            rw [List.getElem?_map, List.getElem?_map, List.getElem?_eq_getElem hi, List.getElem?_eq_getElem hj, ej]
            exact congrArg some y
          exact (List.getElem?_inj (by rw [List.length_map]; exact hi) h.nd2).mp e3
        subst w
        rw [ej])
      refine ⟨us, by rw [upd_ne e2]; exact h1, ?_⟩
      rw [if_neg e, List.append_nil]
      exact nus_tk k h2
  · have ne : y ≠ z := fun e => hy (by rw [e]; exact List.mem_map.mpr ⟨_, hz, rfl⟩)
    rw [h.no y hy, if_neg ne]
    rfl
def AroAt (H : Hp) (v : V) (N : Int → List Nu) : Prop := ∃ D As, v = .ref D ∧ Aro H D As N
def spAround : Sp := fun vs H Q _ => ∃ (v : V) (b : Addr) (n : Int) (ts : List Tie) (ns : List Int), vs = [v, .ref b] ∧ WebAt H v n ts ∧ ts.length ≤ 300 ∧ H b = some (.tup (ns.map V.int)) ∧ ns.length ≤ 300 ∧ (∀ m ∈ ns, 0 ≤ m ∧ m < (ts.length : Int)) ∧
  ∀ u H', Same H H' → AroAt H' u (nN ts ns) → Q u H'
section
variable {P : Program} {w : World} {K : PySem.W.Frag} {mg : Str → Option Value} {base : Heap}
end
/-! ### ways: what is walked, level by level (mathematics) -/
abbrev We := Int × Nat × Option (Int × Int)
def weL (e : We) : List V := match e.2.2 with
  | none => [.int (e.2.1 : Nat), .non, .non]
  | some f => [.int (e.2.1 : Nat), .int f.1, .int f.2]
/-- the walk, exactly, level by level -/
def stp (p : Int) (L : Nat) (st : List We × List Int) (q : Nu) : List We × List Int := if q.1 ∈ st.1.map (·.1) then st else (st.1 ++ [(q.1, L + 1, some (p, q.2))], st.2 ++ [q.1])
def lvl (N : Int → List Nu) (L : Nat) (st : List We × List Int) : List We × List Int := st.2.foldl (fun st p => (N p).foldl (stp p L) st) (st.1, [])
def Bst (N : Int → List Nu) (s : Int) : Nat → List We × List Int
  | 0 => ([(s, 0, none)], [s])
  | L + 1 => lvl N L (Bst N s L)
def Wlk (N : Int → List Nu) (s : Int) (ws : List We) : Prop := ∃ L, Bst N s L = (ws, [])
theorem Bst.stay {N : Int → List Nu} {s : Int} {ws : List We} {L : Nat} (h : Bst N s L = (ws, [])) : ∀ k, Bst N s (L + k) = (ws, [])
  | 0 => h
  | k + 1 => by
    show lvl N (L + k) (Bst N s (L + k)) = _
    rw [Bst.stay h k]
    rfl
theorem Wlk.one {N : Int → List Nu} {s : Int} {ws ws' : List We} (a : Wlk N s ws) (b : Wlk N s ws') : ws = ws' := by
  obtain ⟨L, h⟩ := a
  obtain ⟨L', h'⟩ := b
  rcases Nat.le_total L L' with e | e
  · obtain ⟨k, rfl⟩ := Nat.exists_eq_add_of_le e
    rw [Bst.stay h k] at h'
    exact (Prod.mk.inj h').1
  · obtain ⟨k, rfl⟩ := Nat.exists_eq_add_of_le e
    rw [Bst.stay h' k] at h
    exact (Prod.mk.inj h).1.symm
structure WF (N : Int → List Nu) (s : Int) (ws : List We) : Prop where
  nd : (ws.map (·.1)).Nodup
  root : (s, 0, none) ∈ ws
  non : ∀ y k, (y, k, none) ∈ ws → y = s ∧ k = 0
  par : ∀ y k p m, (y, k, some (p, m)) ∈ ws → ∃ j f, (p, j, f) ∈ ws ∧ k = j + 1 ∧ (y, m) ∈ N p
  cl : ∀ e ∈ ws, ∀ q ∈ N e.1, ∃ k f, (q.1, k, f) ∈ ws ∧ k ≤ e.2.1 + 1
  ex : Wlk N s ws
structure BF (N : Int → List Nu) (s : Int) (ws : List We) (L : Nat) (todo fol : List Int) : Prop where
  nd : (ws.map (·.1)).Nodup
  root : (s, 0, none) ∈ ws
  non : ∀ y k, (y, k, none) ∈ ws → y = s ∧ k = 0
  par : ∀ y k p m, (y, k, some (p, m)) ∈ ws → ∃ j f, (p, j, f) ∈ ws ∧ k = j + 1 ∧ (y, m) ∈ N p
  lv : ∀ e ∈ ws, e.2.1 ≤ L + 1
  td : ∀ x ∈ todo, ∃ f, (x, L, f) ∈ ws
  dn : ∀ e ∈ ws, e.2.1 ≤ L → e.1 ∈ todo ∨ ∀ q ∈ N e.1, ∃ k f, (q.1, k, f) ∈ ws ∧ k ≤ e.2.1 + 1
  f1 : ∀ x ∈ fol, ∃ f, (x, L + 1, f) ∈ ws
  f2 : ∀ e ∈ ws, e.2.1 = L + 1 → e.1 ∈ fol
  fl : fol.length ≤ ws.length
theorem we_one {ws : List We} (nd : (ws.map (·.1)).Nodup) {x : Int} {k j : Nat} {f g : Option (Int × Int)} (h : (x, k, f) ∈ ws) (h' : (x, j, g) ∈ ws) : k = j ∧ f = g := by
  induction ws with
  | nil => cases h
  | cons e ws ih =>
    rw [List.map_cons, List.nodup_cons] at nd
    rcases List.mem_cons.mp h with a | a <;> rcases List.mem_cons.mp h' with b | b
    · rw [← a] at b
      cases b
      exact ⟨rfl, rfl⟩
    · exact absurd (List.mem_map.mpr ⟨_, b, rfl⟩) (by rw [← a] at nd; exact nd.1)
    · exact absurd (List.mem_map.mpr ⟨_, a, rfl⟩) (by rw [← b] at nd; exact nd.1)
    · exact ih nd.2 a b
theorem we_key {ws : List We} {x : Int} (h : x ∈ ws.map (·.1)) : ∃ k f, (x, k, f) ∈ ws := by
  obtain ⟨⟨y, k, f⟩, he, e⟩ := List.mem_map.mp h
  have e : y = x := e
  subst e
  exact ⟨k, f, he⟩
theorem WF.rg {N : Int → List Nu} {s : Int} {ws : List We} {n : Int} (h : WF N s ws) (hs : 0 ≤ s ∧ s < n) (hN : ∀ x q, q ∈ N x → 0 ≤ q.1 ∧ q.1 < n) {x : Int} (hx : x ∈ ws.map (·.1)) : 0 ≤ x ∧ x < n := by
  obtain ⟨k, f, he⟩ := we_key hx
  cases f with
  | none =>
    rw [(h.non _ _ he).1]
    exact hs
  | some pm =>
    obtain ⟨p, m⟩ := pm
    obtain ⟨j, g, _, _, hm⟩ := h.par _ _ _ _ he
    exact hN p _ hm
theorem BF.rg {N : Int → List Nu} {s : Int} {ws : List We} {L : Nat} {todo fol : List Int} {n : Int} (h : BF N s ws L todo fol) (hs : 0 ≤ s ∧ s < n) (hN : ∀ x q, q ∈ N x → 0 ≤ q.1 ∧ q.1 < n) (x : Int) (hx : x ∈ ws.map (·.1)) : 0 ≤ x ∧ x < n := by
  obtain ⟨k, f, he⟩ := we_key hx
  cases f with
  | none =>
    rw [(h.non _ _ he).1]
    exact hs
  | some pm =>
    obtain ⟨p, m⟩ := pm
    obtain ⟨j, g, _, _, hm⟩ := h.par _ _ _ _ he
    exact hN p _ hm
theorem BF.few {N : Int → List Nu} {s : Int} {ws : List We} {L : Nat} {todo fol : List Int} {n : Nat} (h : BF N s ws L todo fol) (hs : 0 ≤ s ∧ s < n) (hN : ∀ x q, q ∈ N x → 0 ≤ q.1 ∧ q.1 < n) : ws.length ≤ n := by
  have := pigeon n _ h.nd (h.rg hs hN)
  rw [List.length_map] at this
  exact this
theorem BF.start (N : Int → List Nu) (s : Int) : BF N s [(s, 0, none)] 0 [s] [] :=
  ⟨by simp, by simp, fun y k h => by simp at h; exact ⟨h.1, h.2⟩, fun y k p m h => by simp at h, fun e h => by rw [List.mem_singleton.mp h]; simp, fun x h => ⟨none, by rw [List.mem_singleton.mp h]; simp⟩, fun e h _ => .inl (by rw [List.mem_singleton.mp h]; simp), fun x h => by simp at h, fun e h z => by rw [List.mem_singleton.mp h] at z; simp at z, by simp⟩
theorem BF.stop {N : Int → List Nu} {s : Int} {ws : List We} {L : Nat} (h : BF N s ws L [] []) (hx : Wlk N s ws) : WF N s ws :=
  ⟨h.nd, h.root, h.non, h.par, fun e he => by
    have h1 := h.lv e he
    have h2 : e.2.1 ≤ L := by
      by_cases z : e.2.1 = L + 1
      · exact absurd (h.f2 e he z) (by simp)
      · omega
    exact (h.dn e he h2).resolve_left (by simp), hx⟩
theorem BF.next {N : Int → List Nu} {s : Int} {ws : List We} {L : Nat} {fol : List Int} (h : BF N s ws L [] fol) : BF N s ws (L + 1) fol [] :=
  ⟨h.nd, h.root, h.non, h.par, fun e he => by have := h.lv e he; omega, h.f1, fun e he hl => by
    by_cases z : e.2.1 = L + 1
    · exact .inl (h.f2 e he z)
    · exact .inr ((h.dn e he (by omega)).resolve_left (by simp)), fun x hx => by simp at hx, fun e he z => by have := h.lv e he; omega, by simp⟩
theorem BF.push {N : Int → List Nu} {s p y m : Int} {ws : List We} {L : Nat} {todo fol : List Int} {f : Option (Int × Int)} (h : BF N s ws L todo fol) (hp : (p, L, f) ∈ ws) (hm : (y, m) ∈ N p) (hy : y ∉ ws.map (·.1)) : BF N s (ws ++ [(y, L + 1, some (p, m))]) L todo (fol ++ [y]) := by
  have sub : ∀ {e : We}, e ∈ ws → e ∈ ws ++ [(y, L + 1, some (p, m))] := fun he => List.mem_append_left _ he
  have cs : ∀ {e : We}, e ∈ ws ++ [(y, L + 1, some (p, m))] → e ∈ ws ∨ e = (y, L + 1, some (p, m)) := fun he => by
    rcases List.mem_append.mp he with z | z
    · exact .inl z
    · exact .inr (List.mem_singleton.mp z)
  refine ⟨?_, sub h.root, fun z k hz => ?_, fun z k p' m' hz => ?_, fun e he => ?_, fun x hx => ?_, fun e he hl => ?_, fun x hx => ?_, fun e he z => ?_, ?_⟩
  · rw [List.map_append, List.nodup_append]
    refine ⟨h.nd, by simp, fun x hx z hz e => ?_⟩
    have : z = y := by simpa using hz
    subst this
    subst e
    exact hy hx
  · rcases cs hz with z1 | z1
    · exact h.non _ _ z1
    · cases z1
  · rcases cs hz with z1 | z1
    · obtain ⟨j, g, h1, h2, h3⟩ := h.par _ _ _ _ z1
      exact ⟨j, g, sub h1, h2, h3⟩
    · cases z1
      exact ⟨L, f, sub hp, rfl, hm⟩
  · rcases cs he with z1 | z1
    · exact h.lv e z1
    · rw [z1]
      exact Nat.le_refl _
  · obtain ⟨g, hg⟩ := h.td x hx
    exact ⟨g, sub hg⟩
  · rcases cs he with z1 | z1
    · rcases h.dn e z1 hl with a | a
      · exact .inl a
      · refine .inr fun q hq => ?_
        obtain ⟨k, g, h1, h2⟩ := a q hq
        exact ⟨k, g, sub h1, h2⟩
    · rw [z1] at hl
      simp at hl
      omega
  · rcases List.mem_append.mp hx with z | z
    · obtain ⟨g, hg⟩ := h.f1 x z
      exact ⟨g, sub hg⟩
    · rw [List.mem_singleton.mp z]
      exact ⟨some (p, m), List.mem_append_right _ (by simp)⟩
  · rcases cs he with z1 | z1
    · exact List.mem_append_left _ (h.f2 e z1 z)
    · rw [z1]
      exact List.mem_append_right _ (by simp)
  · rw [List.length_append, List.length_append]
    have := h.fl
    simp
    omega
theorem BF.done {N : Int → List Nu} {s p : Int} {ws : List We} {L : Nat} {todo fol : List Int} {f : Option (Int × Int)} (h : BF N s ws L (p :: todo) fol) (hp : (p, L, f) ∈ ws) (hd : ∀ q ∈ N p, ∃ k f, (q.1, k, f) ∈ ws ∧ k ≤ L + 1) : BF N s ws L todo fol :=
  ⟨h.nd, h.root, h.non, h.par, h.lv, fun x hx => h.td x (List.mem_cons_of_mem _ hx), fun e he hl => by
    rcases h.dn e he hl with a | a
    · rcases List.mem_cons.mp a with b | b
      · obtain ⟨x, k, g⟩ := e
        have b : x = p := b
        subst b
        have := (we_one h.nd he hp).1
        subst this
        exact .inr hd
      · exact .inl b
    · exact .inr a, h.f1, h.f2, h.fl⟩
/-! ### as it lies in the heap -/
def WeV (H : Hp) (kv : Key × V) (e : We) : Prop := kv.1 = Sum.inl e.1 ∧ ∃ a, kv.2 = .ref a ∧ H a = some (.tup (weL e))
theorem WeV.tk {H H' : Hp} (k : Tk H H') {kv : Key × V} {e : We} (h : WeV H kv e) : WeV H' kv e := by
  obtain ⟨h1, a, h2, h3⟩ := h
  exact ⟨h1, a, h2, k _ _ h3⟩
theorem wes_tk {H H' : Hp} (k : Tk H H') {kvs : List (Key × V)} {ws : List We} (h : Paired (WeV H) kvs ws) : Paired (WeV H') kvs ws := Paired.mono (fun _ _ x => x.tk k) h
theorem wes_none {H : Hp} {x : Int} : ∀ {kvs : List (Key × V)} {ws : List We}, Paired (WeV H) kvs ws → x ∉ ws.map (·.1) → valV kvs (Sum.inl x) = none
  | _, _, .nil, _ => rfl
  | kv :: kvs, e :: ws, .cons h t, hx => by
    rw [List.map_cons, List.mem_cons, not_or] at hx
    obtain ⟨k, v⟩ := kv
    have h1 : k = Sum.inl e.1 := h.1
    rw [valV_neg (fun z => hx.1 (by rw [h1] at z; exact (Sum.inl.inj z).symm))]
    exact wes_none t hx.2
theorem wes_some {H : Hp} {x : Int} {k : Nat} {f : Option (Int × Int)} : ∀ {kvs : List (Key × V)} {ws : List We}, Paired (WeV H) kvs ws → (ws.map (·.1)).Nodup → (x, k, f) ∈ ws → ∃ a, valV kvs (Sum.inl x) = some (.ref a) ∧ H a = some (.tup (weL (x, k, f)))
  | _, _, .nil, _, hx => by cases hx
  | kv :: kvs, e :: ws, .cons h t, nd, hx => by
    rw [List.map_cons, List.nodup_cons] at nd
    obtain ⟨k', v⟩ := kv
    have h1 : k' = Sum.inl e.1 := h.1
    obtain ⟨a, h2, h3⟩ := h.2
    have h2 : v = .ref a := h2
    rcases List.mem_cons.mp hx with z | z
    · subst z
      exact ⟨a, by rw [valV_pos h1, h2], h3⟩
    · have ne : e.1 ≠ x := fun y => nd.1 (by rw [y]; exact List.mem_map.mpr ⟨_, z, rfl⟩)
      rw [valV_neg (fun y => ne (by rw [h1] at y; exact Sum.inl.inj y))]
      exact wes_some t nd.2 z
theorem putK_new {k : Key} {v : V} : ∀ {kvs : List (Key × V)}, valV kvs k = none → putK kvs k v = kvs ++ [(k, v)] := fun {kvs} h => by
  unfold putK
  rw [if_neg]
  intro g
  rw [List.any_eq_true] at g
  obtain ⟨kv, h1, h2⟩ := g
  have h2 := of_decide_eq_true h2
  induction kvs with
  | nil => cases h1
  | cons x kvs ih =>
    obtain ⟨k', v'⟩ := x
    by_cases e : k' = k
    · rw [valV_pos e] at h
      cases h
    · rw [valV_neg e] at h
      rcases List.mem_cons.mp h1 with z | z
      · rw [z] at h2
        exact e h2
      · exact ih h z
def WalkAt (H : Hp) (D : Addr) (ws : List We) : Prop := ∃ kvs, H D = some (.dK kvs) ∧ Paired (WeV H) kvs ws
theorem WalkAt.same {H H' : Hp} {D : Addr} {ws : List We} (h : WalkAt H D ws) (s : Same H H') : WalkAt H' D ws := by
  obtain ⟨kvs, h1, h2⟩ := h
  exact ⟨kvs, s _ _ h1, wes_tk (Same.tk s) h2⟩
/-- a list or a tuple, walked -/
def iSeq (K : PySem.W.Frag) (tl : TE) : TI := fun σ H R => tl σ H fun x H1 => ∃ a, x = .ref a ∧ (((∃ xs, SqL K H1 a xs) ∧ R (Itl K a) H1) ∨ ((∃ xs, SqT K H1 a xs) ∧ R (Itt K a) H1))
theorem pi_seq {X : Cx} {tg l : Expr} {tl : TE} (hl : PE X l tl) : PI X tg l (iSeq X.K tl) := by
  refine ⟨fun pins s σ H R I h => ?_⟩
  refine thn (hl.run pins s σ H _ I h) fun v s1 ⟨x, H1, I1, r1, q1⟩ => ?_
  obtain ⟨a, e, q1⟩ := q1
  subst e
  cases r1
  rcases q1 with ⟨⟨xs, hq⟩, q⟩ | ⟨⟨xs, hq⟩, q⟩
  · obtain ⟨its, rv, p, hz⟩ := I1.list hq
    refine wpAny_pyIter_list p.isList ?_
    refine ⟨s1.heap.objs.size, [s1.heap.objs.size], _, _, H1, rfl, I1.kept (t' := s1.toks) fun b o e => Heap.get?_push_of_some _ e, turn_list a _, ⟨_, Heap.get?_push_size _ rfl, rfl, rfl⟩, fun b hb => ?_, q⟩
    have e : b = s1.heap.objs.size := by simpa using hb
    subst e
    exact I1.fpOk (Nat.le_refl _) (I1.hok.fresh (Nat.le_refl _))
  · obtain ⟨its, rv, p, hz⟩ := I1.tuple hq
    refine wpAny_pyIter_tuple (show s1.heap.IsTuple a its.toArray from p) ?_
    refine ⟨s1.heap.objs.size, [s1.heap.objs.size], _, _, H1, rfl, I1.kept (t' := s1.toks) fun b o e => Heap.get?_push_of_some _ e, turn_tuple a _, ⟨_, Heap.get?_push_size _ rfl, rfl, rfl⟩, fun b hb => ?_, q⟩
    have e : b = s1.heap.objs.size := by simpa using hb
    subst e
    exact I1.fpOk (Nat.le_refl _) (I1.hok.fresh (Nat.le_refl _))
def spWalkFrom : Sp := fun vs H Q _ => ∃ (u : V) (n : Nat) (s : Int) (N : Int → List Nu), vs = [.int s, u] ∧ AroAt H u N ∧ 0 ≤ s ∧ s < n ∧ n ≤ 100 ∧ (∀ x q, q ∈ N x → 0 ≤ q.1 ∧ q.1 < n) ∧ ∀ D ws H', Same H H' → WalkAt H' D ws → WF N s ws → ws.length ≤ n → Q (.ref D) H'
section
variable {P : Program} {w : World} {K : PySem.W.Frag} {mg : Str → Option Value} {base : Heap}
end
/-! ### the way back -/
inductive Way (N : Int → List Nu) (e : Int) : Int → List Int → List Int → Prop
  | one : Way N e e [e] []
  | cons {c p m : Int} {qs ns : List Int} : Way N e c qs ns → (c, m) ∈ N p → p ∉ qs → Way N e p (p :: qs) (m :: ns)
theorem Way.len {N : Int → List Nu} {e c : Int} {qs ns : List Int} (h : Way N e c qs ns) : qs.length = ns.length + 1 := by
  induction h with
  | one => rfl
  | cons _ _ _ ih => rw [List.length_cons, List.length_cons, ih]
theorem Way.nodup {N : Int → List Nu} {e c : Int} {qs ns : List Int} (h : Way N e c qs ns) : qs.Nodup := by
  induction h with
  | one => simp
  | cons _ _ hp ih => exact List.nodup_cons.mpr ⟨hp, ih⟩
/-- the way back, by the walk alone -/
inductive Bk (ws : List We) : Int → List Int → List Int → Prop
  | stop {c : Int} {k : Nat} : (c, k, none) ∈ ws → Bk ws c [c] []
  | step {c p m : Int} {k : Nat} {qs ns : List Int} : (c, k, some (p, m)) ∈ ws → Bk ws p qs ns → Bk ws c (c :: qs) (m :: ns)
theorem Bk.one {ws : List We} (nd : (ws.map (·.1)).Nodup) {c : Int} {qs ns : List Int} (a : Bk ws c qs ns) : ∀ {qs' ns' : List Int}, Bk ws c qs' ns' → qs = qs' ∧ ns = ns' := by
  induction a with
  | stop h =>
    intro qs' ns' b
    cases b with
    | stop _ => exact ⟨rfl, rfl⟩
    | step h' _ => cases (we_one nd h h').2
  | step h t ih =>
    intro qs' ns' b
    cases b with
    | stop h' => cases (we_one nd h h').2
    | step h' t' =>
      cases (we_one nd h h').2
      obtain ⟨e1, e2⟩ := ih t'
      rw [e1, e2]
      exact ⟨rfl, rfl⟩
/-- the way that is told, and no other -/
def Exa (N : Int → List Nu) (s e : Int) (qs ns : List Int) : Prop := ∃ ws, WF N s ws ∧ Bk ws e qs.reverse ns.reverse
theorem Exa.one {N : Int → List Nu} {s e : Int} {qs ns qs' ns' : List Int} (a : Exa N s e qs ns) (b : Exa N s e qs' ns') : qs = qs' ∧ ns = ns' := by
  obtain ⟨ws, h1, h2⟩ := a
  obtain ⟨ws', h1', h2'⟩ := b
  obtain rfl := h1.ex.one h1'.ex
  obtain ⟨e1, e2⟩ := h2.one h1.nd h2'
  exact ⟨List.reverse_inj.mp e1, List.reverse_inj.mp e2⟩
def spWayTo : Sp := fun vs H Q _ => ∃ (e s : Int) (D : Addr) (ws : List We) (N : Int → List Nu) (k : Nat) (f : Option (Int × Int)), vs = [.int e, .ref D] ∧ WalkAt H D ws ∧ WF N s ws ∧ (e, k, f) ∈ ws ∧ k ≤ 200 ∧ ∀ r a b qs ns H', Same H H' → H' r = some (.tup [.ref a, .ref b]) → H' a = some (.tup (qs.map V.int)) → H' b = some (.tup (ns.map V.int)) → Way N e s qs ns → Exa N s e qs ns → ns.length = k → Q (.ref r) H'
section
variable {P : Program} {w : World} {K : PySem.W.Frag} {mg : Str → Option Value} {base : Heap}
end
/-! ### ways, place by place (mathematics) -/
theorem Way.head {N : Int → List Nu} {e s : Int} {qs ns : List Int} (h : Way N e s qs ns) : qs[0]? = some s := by cases h <;> rfl
theorem Way.each {N : Int → List Nu} {e s : Int} {qs ns : List Int} (h : Way N e s qs ns) : ∀ k : Nat, k < ns.length → ∃ x y m, qs[k]? = some x ∧ qs[k + 1]? = some y ∧ ns[k]? = some m ∧ (y, m) ∈ N x := by
  induction h with
  | one => exact fun k hk => absurd hk (by simp)
  | cons w hm _ ih =>
    intro k hk
    cases k with
    | zero => exact ⟨_, _, _, rfl, by simpa using w.head, rfl, hm⟩
    | succ k =>
      obtain ⟨x, y, m, h1, h2, h3, h4⟩ := ih k (by simpa using hk)
      exact ⟨x, y, m, by simpa using h1, by simpa using h2, by simpa using h3, h4⟩
theorem jn_two {t : Tie} {a b c d : Int} (h : Jn t a b) (g : Jn t c d) : (a = c ∧ b = d) ∨ (a = d ∧ b = c) := by
  rcases h with ⟨h1, h2⟩ | ⟨h1, h2⟩ <;> rcases g with ⟨g1, g2⟩ | ⟨g1, g2⟩ <;> omega
/-! ### ways along stems: never two (mathematics) -/
theorem Way.mono {N N' : Int → List Nu} {e c : Int} {qs ns : List Int} (h : Way N e c qs ns) (f : ∀ p q, q ∈ N p → q.2 ∈ ns → q ∈ N' p) : Way N' e c qs ns := by
  induction h with
  | one => exact .one
  | cons h m no ih =>
    exact .cons (ih fun p q hq hn => f p q hq (List.mem_cons_of_mem _ hn)) (f _ _ m (List.mem_cons_self ..)) no
theorem Way.hd {N : Int → List Nu} {e c : Int} {qs ns : List Int} (h : Way N e c qs ns) : ∃ r, qs = c :: r := by
  cases h with
  | one => exact ⟨[], rfl⟩
  | cons _ _ _ => exact ⟨_, rfl⟩
theorem Way.start {N : Int → List Nu} {e c : Int} {qs ns : List Int} (h : Way N e c qs ns) : c ∈ qs := by
  obtain ⟨r, rfl⟩ := h.hd
  exact List.mem_cons_self ..
theorem Way.fin {N : Int → List Nu} {e c : Int} {qs ns : List Int} (h : Way N e c qs ns) : e ∈ qs := by
  induction h with
  | one => simp
  | cons _ _ _ ih => exact List.mem_cons_of_mem _ ih
theorem way_rch {ts : List Tie} {k : Nat} (hk : k ≤ ts.length) {e c : Int} {qs ns : List Int} (h : Way (nN ts (stemsTo ts k)) e c qs ns) : Rch (ts.take k) c e := by
  induction h with
  | one => exact .refl
  | cons h m no ih =>
    rename_i c' p m' qs' ns'
    obtain ⟨h1, h2⟩ := mem_nN.mp m
    obtain ⟨⟨m0, m1⟩, _⟩ := stemsTo_mem.mp h1
    have el : m'.toNat < ts.length := by omega
    have et := List.getElem?_eq_getElem el
    have eN := tieN_of et
    refine Rch.trans (Rch.adj (k := (tieN ts m'.toNat).foe) ⟨tieN ts m'.toNat, ?_, rfl, h2⟩) ih
    rw [eN]
    exact List.mem_take_iff_getElem.mpr ⟨m'.toNat, by omega, rfl⟩
theorem jn_ends {t : Tie} {a b : Int} (h : Jn t a b) : (a = t.one ∧ b = t.other) ∨ (a = t.other ∧ b = t.one) := h.elim (fun x => .inl ⟨x.1.symm, x.2.symm⟩) fun x => .inr ⟨x.2.symm, x.1.symm⟩
theorem nN_app {ts : List Tie} {S : List Int} {k p : Int} {q : Nu} : q ∈ nN ts (S ++ [k]) p ↔ q ∈ nN ts S p ∨ (q.2 = k ∧ Jn (tieN ts q.2.toNat) p q.1) := by
  rw [mem_nN, mem_nN, List.mem_append, List.mem_singleton]
  constructor
  · rintro ⟨h | h, j⟩
    · exact .inl ⟨h, j⟩
    · exact .inr ⟨h, j⟩
  · rintro (⟨h, j⟩ | ⟨h, j⟩)
    · exact ⟨.inl h, j⟩
    · exact ⟨.inr h, j⟩
/-- a way over one tie more: without it, or once over it -/
theorem way_split {ts : List Tie} {S : List Int} {k : Int} {e c : Int} {qs ns : List Int} (h : Way (nN ts (S ++ [k])) e c qs ns) : Way (nN ts S) e c qs ns ∨
    ∃ (x y : Int) (q1 n1 q2 n2 : List Int), Way (nN ts S) x c q1 n1 ∧ Jn (tieN ts k.toNat) x y ∧ Way (nN ts S) e y q2 n2 ∧ qs = q1 ++ q2 ∧ ns = n1 ++ k :: n2 := by
  induction h with
  | one => exact .inl .one
  | cons h m no ih =>
    rename_i c' p m' qs' ns'
    rcases nN_app.mp m with m | ⟨em, j⟩
    · rcases ih with w | ⟨x, y, q1, n1, q2, n2, w1, jx, w2, rfl, rfl⟩
      · exact .inl (.cons w m no)
      · exact .inr ⟨x, y, p :: q1, m' :: n1, q2, n2, .cons w1 m (fun z => no (List.mem_append_left _ z)), jx, w2, rfl, rfl⟩
    · simp only at em j
      subst em
      rcases ih with w | ⟨x, y, q1, n1, q2, n2, w1, jx, w2, rfl, rfl⟩
      · exact .inr ⟨p, c', [p], [], qs', ns', .one, j, w, rfl, rfl⟩
      · exfalso
        rcases jn_two j jx with ⟨h1, h2⟩ | ⟨h1, h2⟩
        · exact no (by rw [h1]; exact List.mem_append_left _ w1.fin)
        · exact no (by rw [h1]; exact List.mem_append_right _ w2.start)
/-- there are no two ways along stems -/
theorem way_one {ts : List Tie} : ∀ {k : Nat}, k ≤ ts.length → ∀ {e c : Int} {qs ns qs' ns' : List Int}, Way (nN ts (stemsTo ts k)) e c qs ns → Way (nN ts (stemsTo ts k)) e c qs' ns' → qs = qs' ∧ ns = ns'
  | 0, _, e, c, qs, ns, qs', ns', a, b => by
    have e0 : stemsTo ts 0 = [] := rfl
    rw [e0] at a b
    have no : ∀ {q : Nu} {p : Int}, q ∉ nN ts [] p := fun {q p} h => by
      have := (mem_nN.mp h).1
      cases this
    cases a with
    | one =>
      cases b with
      | one => exact ⟨rfl, rfl⟩
      | cons _ m _ => exact (no m).elim
    | cons _ m _ => exact (no m).elim
  | k + 1, hk, e, c, qs, ns, qs', ns', a, b => by
    have ih := @way_one ts k (by omega)
    rw [stemsTo_succ] at a b
    by_cases hs : stemB ts k = true
    · rw [if_pos hs] at a b
      have et := List.getElem?_eq_getElem (show k < ts.length by omega)
      have no := (stem_iff et).mp hs
      have eN := tieN_of et
      have jno : ∀ {x y : Int}, Jn (tieN ts ((k : Int)).toNat) x y → ¬ Rch (ts.take k) x y := fun {x y} j r => by
        rw [Int.toNat_natCast, eN] at j
        rcases jn_ends j with ⟨h1, h2⟩ | ⟨h1, h2⟩
        · exact no (by rw [← h1, ← h2]; exact r)
        · exact no (by rw [← h1, ← h2]; exact r.symm)
      have rc : ∀ {e c : Int} {qs ns : List Int}, Way (nN ts (stemsTo ts k)) e c qs ns → Rch (ts.take k) c e := fun w => way_rch (by omega) w
      rcases way_split a with a | ⟨x, y, q1, n1, q2, n2, a1, ja, a2, rfl, rfl⟩
      · rcases way_split b with b | ⟨x', y', q1', n1', q2', n2', b1, jb, b2, rfl, rfl⟩
        · exact ih a b
        · exact (jno jb ((rc b1).symm.trans ((rc a).trans (rc b2).symm))).elim
      · rcases way_split b with b | ⟨x', y', q1', n1', q2', n2', b1, jb, b2, rfl, rfl⟩
        · exact (jno ja ((rc a1).symm.trans ((rc b).trans (rc a2).symm))).elim
        · rcases jn_two ja jb with ⟨rfl, rfl⟩ | ⟨rfl, rfl⟩
          · obtain ⟨h1, h2⟩ := ih a1 b1
            obtain ⟨h3, h4⟩ := ih a2 b2
            rw [h1, h2, h3, h4]
            exact ⟨rfl, rfl⟩
          · exact (jno ja ((rc a1).symm.trans (rc b1))).elim
    · rw [if_neg hs, List.append_nil] at a b
      exact ih a b
/-! ### forests: ways joined, cut, turned (mathematics) -/
/-- a forest: ties with two ends each, and never two ways -/
structure Fst (N : Int → List Nu) : Prop where
  sym : ∀ {x : Int} {q : Nu}, q ∈ N x → (x, q.2) ∈ N q.1
  ends : ∀ {x x' y y' m : Int}, (y, m) ∈ N x → (y', m) ∈ N x' → (x = x' ∧ y = y') ∨ (x = y' ∧ y = x')
  irr : ∀ {x : Int} {q : Nu}, q ∈ N x → q.1 ≠ x
  one : ∀ {e c : Int} {qs ns qs' ns' : List Int}, Way N e c qs ns → Way N e c qs' ns' → qs = qs' ∧ ns = ns'
theorem fst_stems {ts : List Tie} {n : Int} (ok : ∀ t ∈ ts, TieOk n t) : Fst (nN ts (stemsTo ts ts.length)) := by
  refine ⟨fun {x q} h => ?_, fun {x x' y y' m} h g => ?_, fun {x q} h => ?_, fun a b => way_one (Nat.le_refl _) a b⟩
  · obtain ⟨h1, h2⟩ := mem_nN.mp h
    exact mem_nN.mpr ⟨h1, h2.symm⟩
  · exact jn_two (mem_nN.mp h).2 (mem_nN.mp g).2
  · obtain ⟨h1, h2⟩ := mem_nN.mp h
    obtain ⟨⟨m0, m1⟩, _⟩ := stemsTo_mem.mp h1
    have et := List.getElem?_eq_getElem (show q.2.toNat < ts.length by omega)
    have o := ok _ (List.mem_of_getElem? et)
    rw [tieN_of et] at h2
    obtain ⟨o1, o2, o3, o4, o5⟩ := o
    intro z
    rcases h2 with ⟨a, b⟩ | ⟨a, b⟩
    · exact o5 (by rw [a, b, z])
    · exact o5 (by rw [a, b, z])
theorem Way.join {N : Int → List Nu} {e y x c m : Int} {q1 n1 q2 n2 : List Int} (a : Way N x c q1 n1) (b : Way N e y q2 n2) (h : (y, m) ∈ N x) (no : ∀ z ∈ q1, z ∉ q2) : Way N e c (q1 ++ q2) (n1 ++ m :: n2) := by
  induction a with
  | one => exact .cons b h (no _ (by simp))
  | cons a k hn ih =>
    refine .cons (ih fun z hz => no z (List.mem_cons_of_mem _ hz)) k fun z => ?_
    rcases List.mem_append.mp z with z | z
    · exact hn z
    · exact no _ (List.mem_cons_self ..) z
theorem Way.snoc {N : Int → List Nu} {e c e' m : Int} {qs ns : List Int} (h : Way N e c qs ns) (k : (e', m) ∈ N e) (no : e' ∉ qs) : Way N e' c (qs ++ [e']) (ns ++ [m]) :=
  h.join .one k fun z hz y => no (by rw [List.mem_singleton.mp y] at hz; exact hz)
theorem Way.rev {N : Int → List Nu} (F : Fst N) {e c : Int} {qs ns : List Int} (h : Way N e c qs ns) : Way N c e qs.reverse ns.reverse := by
  induction h with
  | one => exact .one
  | cons h k no ih =>
    rw [List.reverse_cons, List.reverse_cons]
    exact ih.snoc (F.sym k) (fun z => no (List.mem_reverse.mp z))
/-- a way cut at a place -/
theorem Way.at {N : Int → List Nu} {e c z : Int} {qs ns : List Int} (h : Way N e c qs ns) (hz : z ∈ qs) : ∃ q1 n1 q2 n2, qs = q1 ++ q2 ∧ ns = n1 ++ n2 ∧ Way N e z q2 n2 ∧ Way N z c (q1 ++ [z]) n1 := by
  induction h with
  | one =>
    rw [List.mem_singleton.mp hz]
    exact ⟨[], [], _, _, rfl, rfl, .one, .one⟩
  | cons h k no ih =>
    rename_i c' p m' qs' ns'
    by_cases e1 : z = p
    · subst e1
      exact ⟨[], [], _, _, rfl, rfl, .cons h k no, .one⟩
    · have hz' : z ∈ qs' := (List.mem_cons.mp hz).resolve_left e1
      obtain ⟨q1, n1, q2, n2, rfl, rfl, w1, w2⟩ := ih hz'
      refine ⟨p :: q1, m' :: n1, q2, n2, rfl, rfl, w1, .cons w2 k fun y => ?_⟩
      rcases List.mem_append.mp y with y | y
      · exact no (List.mem_append_left _ y)
      · rw [List.mem_singleton.mp y] at e1
        exact e1 rfl
/-- between two places of a way: a way along it -/
theorem Way.sub {N : Int → List Nu} (F : Fst N) {e c u v : Int} {qs ns : List Int} (h : Way N e c qs ns) (hu : u ∈ qs) (hv : v ∈ qs) : ∃ ps ms, Way N v u ps ms ∧ (∀ z ∈ ps, z ∈ qs) ∧ ∀ m ∈ ms, m ∈ ns := by
  obtain ⟨q1, n1, q2, n2, rfl, rfl, w1, w2⟩ := h.at hu
  have uq : u ∈ q1 ++ q2 := List.mem_append_right _ w1.start
  have in1 : ∀ z ∈ q1 ++ [u], z ∈ q1 ++ q2 := fun z hz => by
    rcases List.mem_append.mp hz with y | y
    · exact List.mem_append_left _ y
    · rw [List.mem_singleton.mp y]; exact uq
  rcases List.mem_append.mp hv with hv | hv
  · obtain ⟨p1, k1, p2, k2, e1, e2, x1, x2⟩ := w2.at (List.mem_append_left [u] hv)
    refine ⟨_, _, x1.rev F, fun z hz => in1 z ?_, fun m hm => List.mem_append_left _ ?_⟩
    · rw [e1]; exact List.mem_append_right _ (List.mem_reverse.mp hz)
    · rw [e2]; exact List.mem_append_right _ (List.mem_reverse.mp hm)
  · obtain ⟨p1, k1, p2, k2, e1, e2, x1, x2⟩ := w1.at hv
    refine ⟨_, _, x2, fun z hz => List.mem_append_right _ ?_, fun m hm => List.mem_append_right _ ?_⟩
    · rw [e1]
      rcases List.mem_append.mp hz with y | y
      · exact List.mem_append_left _ y
      · rw [List.mem_singleton.mp y]; exact List.mem_append_right _ x1.start
    · rw [e2]; exact List.mem_append_left _ hm
/-- the ties of a way stand between its places -/
theorem Way.tie {N : Int → List Nu} {e c : Int} {qs ns : List Int} (h : Way N e c qs ns) {m : Int} (hm : m ∈ ns) : ∃ x y, (y, m) ∈ N x ∧ x ∈ qs ∧ y ∈ qs := by
  induction h with
  | one => cases hm
  | cons h k no ih =>
    rcases List.mem_cons.mp hm with rfl | hm
    · exact ⟨_, _, k, List.mem_cons_self .., List.mem_cons_of_mem _ h.start⟩
    · obtain ⟨x, y, h1, h2, h3⟩ := ih hm
      exact ⟨x, y, h1, List.mem_cons_of_mem _ h2, List.mem_cons_of_mem _ h3⟩
/-- a tie that touches a place which is not on the way is none of its ties -/
theorem Way.off {N : Int → List Nu} (F : Fst N) {e c p q m : Int} {qs ns : List Int} (h : Way N e c qs ns) (k : (q, m) ∈ N p) (no : p ∉ qs) : m ∉ ns := fun hm => by
  obtain ⟨x, y, h1, h2, h3⟩ := h.tie hm
  rcases F.ends k h1 with ⟨a, b⟩ | ⟨a, b⟩
  · exact no (by rw [a]; exact h2)
  · exact no (by rw [a]; exact h3)
/-- between its ends a way has two ties at each place -/
theorem Way.mid {N : Int → List Nu} (F : Fst N) {e c z : Int} {qs ns : List Int} (h : Way N e c qs ns) (hz : z ∈ qs) (ne : z ≠ e) (nc : z ≠ c) : ∃ m1 m2 y1 y2, m1 ≠ m2 ∧ m1 ∈ ns ∧ m2 ∈ ns ∧ (y1, m1) ∈ N z ∧ (y2, m2) ∈ N z := by
  obtain ⟨q1, n1, q2, n2, rfl, rfl, w1, w2⟩ := h.at hz
  have nd := h.nodup
  cases w1 with
  | one => exact absurd rfl ne
  | cons w1 k1 no1 =>
    rename_i y2 m2 q2' n2'
    have w3 := w2.rev F
    rw [List.reverse_append] at w3
    generalize hr : n1.reverse = r at w3
    generalize hq : [z].reverse ++ q1.reverse = s at w3
    cases w3 with
    | one => exact absurd rfl nc
    | cons w3 k3 no3 =>
      rename_i y1 m1 q1' n1'
      refine ⟨m1, m2, y1, y2, fun em => ?_, ?_, ?_, k3, k1⟩
      · subst em
        have ey : y1 = y2 := by
          rcases F.ends k3 k1 with ⟨_, b⟩ | ⟨a, b⟩
          · exact b
          · exact b.trans a
        subst ey
        have h1 : y1 ∈ q1 := by
          have hq : z :: q1.reverse = z :: q1' := hq
          have hq := (List.cons.inj hq).2
          have := w3.start
          rw [← hq] at this
          exact List.mem_reverse.mp this
        have h2 : y1 ∈ z :: q2' := List.mem_cons_of_mem _ w1.start
        rw [List.nodup_append] at nd
        exact nd.2.2 y1 h1 y1 h2 rfl
      · refine List.mem_append_left _ (List.mem_reverse.mp ?_)
        rw [hr]
        exact List.mem_cons_self ..
      · exact List.mem_append_right _ (List.mem_cons_self ..)
/-! ### forests: loose ties peeled (mathematics) -/
structure Lfs (N : Int → List Nu) (ns : List Int) (L : Int → List Int) : Prop where
  nd : ∀ p, (L p).Nodup
  mem : ∀ p m, m ∈ L p → ∃ q, (q, m) ∈ N p
  two : ∀ p q m, m ∈ L p → (q, m) ∈ N p → m ∈ L q
  keep : ∀ p q m, m ∈ ns → (q, m) ∈ N p → m ∈ L p
def peel (L : Int → List Int) (p q m : Int) : Int → List Int := fun x => if x = p then [] else if x = q then (L q).erase m else L x
theorem Lfs.peel {N : Int → List Nu} (F : Fst N) {e c p q m : Int} {qs ns : List Int} {L : Int → List Int} (W : Way N e c qs ns) (h : Lfs N ns L) (hp : L p = [m]) (ne : p ≠ e) (nc : p ≠ c) (k : (q, m) ∈ N p) : Lfs N ns (peel L p q m) := by
  have pq : p ∉ qs := fun hz => by
    obtain ⟨m1, m2, y1, y2, h1, h2, h3, h4, h5⟩ := W.mid F hz ne nc
    have a := h.keep _ _ _ h2 h4
    have b := h.keep _ _ _ h3 h5
    rw [hp] at a b
    exact h1 ((List.mem_singleton.mp a).trans (List.mem_singleton.mp b).symm)
  have mn : m ∉ ns := W.off F k pq
  refine ⟨fun x => ?_, fun x m' hm => ?_, fun x y m' hm hy => ?_, fun x y m' hm hy => ?_⟩
  · unfold FF.peel
    split
    · exact List.nodup_nil
    · split
      · exact (h.nd q).erase m
      · exact h.nd x
  · unfold FF.peel at hm
    split at hm
    · cases hm
    · split at hm
      · rename_i e1
        subst e1
        exact h.mem _ _ (List.mem_of_mem_erase hm)
      · exact h.mem _ _ hm
  · have both : m' ≠ m ∧ m' ∈ L x := by
      unfold FF.peel at hm
      split at hm
      · cases hm
      · rename_i xp
        split at hm
        · rename_i xq
          subst xq
          have := ((h.nd x).mem_erase_iff).mp hm
          exact this
        · rename_i xq
          refine ⟨fun em => ?_, hm⟩
          subst em
          rcases F.ends hy k with ⟨a, b⟩ | ⟨a, b⟩
          · exact xp a
          · exact xq a
    have my := h.two _ _ _ both.2 hy
    unfold FF.peel
    split
    · rename_i e1
      rw [e1, hp] at my
      exact absurd (List.mem_singleton.mp my) both.1
    · split
      · rename_i e1
        rw [e1] at my
        exact (List.mem_erase_of_ne both.1).mpr my
      · exact my
  · have nm : m' ≠ m := fun z => mn (by rw [← z]; exact hm)
    have mx := h.keep _ _ _ hm hy
    unfold FF.peel
    split
    · rename_i e1
      rw [e1, hp] at mx
      exact absurd (List.mem_singleton.mp mx) nm
    · split
      · rename_i e1
        rw [e1] at mx
        exact (List.mem_erase_of_ne nm).mpr mx
      · exact mx
/-- with no loose tie left but at the ends, what is left at the way's places is the way -/
theorem Lfs.only {N : Int → List Nu} (F : Fst N) {e c : Int} {qs ns : List Int} {L : Int → List Int} (W : Way N e c qs ns) (h : Lfs N ns L) (done : ∀ p, p ≠ e → p ≠ c → (L p).length ≠ 1) {n : Nat} (rg : ∀ p q, q ∈ N p → 0 ≤ p ∧ p < n) {p m : Int} (hp : p ∈ qs) (hm : m ∈ L p) : m ∈ ns := by
  refine Classical.byContradiction fun no => ?_
  have grow : ∀ k : Nat, ∃ d ps ms m', Way N p d ps (m' :: ms) ∧ ms.length = k ∧ d ∉ qs ∧ m' ∈ L d := fun k => by
    induction k with
    | zero =>
      obtain ⟨d, kd⟩ := h.mem _ _ hm
      have nd := F.irr kd
      have w : Way N p d [d, p] [m] := .cons .one (F.sym kd) (by simpa using nd)
      refine ⟨d, [d, p], [], m, w, rfl, fun hd => ?_, h.two _ _ _ hm kd⟩
      obtain ⟨ps, ms, w', _, h2⟩ := W.sub F hd hp
      obtain ⟨_, e2⟩ := F.one w w'
      exact no (h2 m (by rw [← e2]; simp))
    | succ k ih =>
      obtain ⟨d, ps, ms, m', w, lm, dq, hd⟩ := ih
      have l1 := done d (fun z => dq (by rw [z]; exact W.fin)) (fun z => dq (by rw [z]; exact W.start))
      obtain ⟨m2, h2, ne⟩ : ∃ m2, m2 ∈ L d ∧ m2 ≠ m' := by
        refine Classical.byContradiction fun z => ?_
        have all : ∀ x ∈ L d, x = m' := fun x hx => Classical.byContradiction fun y => z ⟨x, hx, y⟩
        have nd := h.nd d
        cases hL : L d with
        | nil => rw [hL] at hd; cases hd
        | cons a r =>
          cases r with
          | nil => rw [hL] at l1; exact l1 rfl
          | cons b r =>
            rw [hL] at nd all
            have e1 := all a (by simp)
            have e2 := all b (by simp)
            rw [e1, e2] at nd
            simp at nd
      obtain ⟨d2, kd⟩ := h.mem _ _ h2
      have nd := F.irr kd
      have d2p : d2 ∉ ps := fun z => by
        obtain ⟨q1, n1, q2, n2, e1, e2, w1, w2⟩ := w.at z
        have w3 : Way N d2 d [d, d2] [m2] := .cons .one kd (by simpa using Ne.symm nd)
        obtain ⟨_, e3⟩ := F.one w2 w3
        rw [e3] at e2
        have := (List.cons.inj e2).1
        exact ne this.symm
      refine ⟨d2, d2 :: ps, m' :: ms, m2, .cons w (F.sym kd) d2p, by rw [List.length_cons, lm], fun hd2 => ?_, h.two _ _ _ h2 kd⟩
      obtain ⟨ps', ms', w', h3, _⟩ := W.sub F hd2 hp
      obtain ⟨e1, _⟩ := F.one (Way.cons w (F.sym kd) d2p) w'
      exact dq (h3 d (by rw [← e1]; exact List.mem_cons_of_mem _ w.start))
  obtain ⟨d, ps, ms, m', w, lm, _, _⟩ := grow n
  have in' : ∀ x ∈ ps, 0 ≤ x ∧ x < (n : Int) := by
    obtain ⟨q, kq⟩ := h.mem _ _ hm
    have rp := rg _ _ kq
    intro x hx
    obtain ⟨q1, n1, q2, n2, e1, e2, w1, w2⟩ := w.at hx
    cases w1 with
    | one => exact rp
    | cons _ k _ => exact rg _ _ k
  have few := pigeon n ps w.nodup in'
  have ll := w.len
  rw [List.length_cons, lm] at ll
  omega
/-! ### forests: the way told by what is left (mathematics) -/
theorem Way.tied {N : Int → List Nu} (F : Fst N) {e c : Int} {qs ns : List Int} (W : Way N e c qs ns) {i j : Nat} {m x y : Int} (hi : ns[i]? = some m) (hx : qs[j]? = some x) (k : (y, m) ∈ N x) : i = j ∨ i + 1 = j := by
  have il := (List.getElem?_eq_some_iff.mp hi).1
  obtain ⟨x', y', m', h1, h2, h3, h4⟩ := W.each i il
  rw [hi] at h3
  cases h3
  have nd := W.nodup
  rcases F.ends k h4 with ⟨a, _⟩ | ⟨a, _⟩
  · subst a
    exact .inl ((List.getElem?_inj (List.getElem?_eq_some_iff.mp h1).1 nd).mp (h1.trans hx.symm))
  · subst a
    exact .inr ((List.getElem?_inj (List.getElem?_eq_some_iff.mp h2).1 nd).mp (h2.trans hx.symm))
theorem Way.ties_nd {N : Int → List Nu} (F : Fst N) {e c : Int} {qs ns : List Int} (W : Way N e c qs ns) {i j : Nat} {m : Int} (hi : ns[i]? = some m) (hj : ns[j]? = some m) : i = j := by
  have il := (List.getElem?_eq_some_iff.mp hi).1
  have jl := (List.getElem?_eq_some_iff.mp hj).1
  obtain ⟨x, y, m', h1, h2, h3, h4⟩ := W.each i il
  rw [hi] at h3
  cases h3
  obtain ⟨x', y', m', g1, g2, g3, g4⟩ := W.each j jl
  rw [hj] at g3
  cases g3
  have a := W.tied F hi g1 g4
  have b := W.tied F hj h1 h4
  omega
/-- the next tie of the way is what is left at its place but for those that were walked -/
theorem Lfs.next {N : Int → List Nu} (F : Fst N) {e c : Int} {qs ns : List Int} {L : Int → List Int} (W : Way N e c qs ns) (h : Lfs N ns L) (only : ∀ p ∈ qs, ∀ m ∈ L p, m ∈ ns) {j : Nat} {x m : Int} (hx : qs[j]? = some x) (hm : ns[j]? = some m) :
    ∃ r, (L x).filter (fun z => !decide (z ∈ ns.take j)) = m :: r := by
  obtain ⟨x', y, m', h1, h2, h3, h4⟩ := W.each j (List.getElem?_eq_some_iff.mp hm).1
  rw [hx] at h1
  cases h1
  rw [hm] at h3
  cases h3
  have mL := h.keep _ _ _ (List.mem_of_getElem? hm) h4
  have out : m ∉ ns.take j := fun z => by
    obtain ⟨i, hi⟩ := List.getElem?_of_mem z
    have il := (List.getElem?_eq_some_iff.mp hi).1
    rw [List.length_take] at il
    rw [List.getElem?_take_of_lt (by omega)] at hi
    have := W.ties_nd F hi hm
    omega
  have inF : m ∈ (L x).filter (fun z => !decide (z ∈ ns.take j)) := List.mem_filter.mpr ⟨mL, by rw [decide_eq_false out]; rfl⟩
  cases hf : (L x).filter (fun z => !decide (z ∈ ns.take j)) with
  | nil => rw [hf] at inF; cases inF
  | cons a r =>
    refine ⟨r, ?_⟩
    have ha : a ∈ (L x).filter (fun z => !decide (z ∈ ns.take j)) := by rw [hf]; exact List.mem_cons_self ..
    obtain ⟨aL, an⟩ := List.mem_filter.mp ha
    have an : a ∉ ns.take j := fun z => by
      rw [decide_eq_true z] at an
      cases an
    obtain ⟨i, hi⟩ := List.getElem?_of_mem (only x (List.mem_of_getElem? hx) a aL)
    obtain ⟨q, kq⟩ := h.mem _ _ aL
    rcases W.tied F hi hx kq with e1 | e1
    · subst e1
      rw [hm] at hi
      cases hi
      rfl
    · exfalso
      refine an (List.mem_of_getElem? (i := i) ?_)
      rw [List.getElem?_take_of_lt (by omega)]
      exact hi
/-- where ties lead, stems lead -/
theorem way_ex {ts : List Tie} {n : Int} (ok : ∀ t ∈ ts, TieOk n t) : ∀ {k : Nat}, k ≤ ts.length → ∀ {a b : Int}, Rch (ts.take k) a b → ∃ qs ns, Way (nN ts (stemsTo ts k)) b a qs ns
  | 0, _, a, b, r => by
    have e0 : ts.take 0 = [] := rfl
    rw [e0] at r
    rw [rch_nil r]
    exact ⟨_, _, .one⟩
  | k + 1, hk, a, b, r => by
    have et := List.getElem?_eq_getElem (show k < ts.length by omega)
    have eN := tieN_of et
    have ih := fun {a b} => @way_ex ts n ok k (by omega) a b
    rw [take_snoc et] at r
    have up : ∀ {a b : Int} {qs ns : List Int}, Way (nN ts (stemsTo ts k)) b a qs ns → Way (nN ts (stemsTo ts (k + 1))) b a qs ns := fun w => w.mono fun p q hq _ => by
      rw [stemsTo_succ]
      split
      · exact nN_app.mpr (.inl hq)
      · rw [List.append_nil]; exact hq
    have rc : ∀ {e c : Int} {qs ns : List Int}, Way (nN ts (stemsTo ts k)) e c qs ns → ∀ z ∈ qs, Rch (ts.take k) c z := fun {e c qs ns} w z hz => by
      obtain ⟨q1, n1, q2, n2, e1, e2, w1, w2⟩ := w.at hz
      exact way_rch (by omega) w2
    by_cases hs : stemB ts k = true
    · have no := (stem_iff et).mp hs
      have two : ∀ {p q : Int}, ((p = ts[k].one ∧ q = ts[k].other) ∨ (p = ts[k].other ∧ q = ts[k].one)) → Rch (ts.take k) a p → Rch (ts.take k) q b → ∃ qs ns, Way (nN ts (stemsTo ts (k + 1))) b a qs ns := fun {p q} j r1 r2 => by
        obtain ⟨q1, n1, w1⟩ := ih r1
        obtain ⟨q2, n2, w2⟩ := ih r2
        have npq : ¬ Rch (ts.take k) p q := by
          rcases j with ⟨h1, h2⟩ | ⟨h1, h2⟩
          · rw [h1, h2]; exact no
          · rw [h1, h2]; exact fun z => no z.symm
        refine ⟨_, _, (up w1).join (m := (k : Int)) (up w2) ?_ fun z h1 h2 => ?_⟩
        · rw [stemsTo_succ, if_pos hs]
          refine nN_app.mpr (.inr ⟨rfl, ?_⟩)
          show Jn (tieN ts ((k : Int)).toNat) p q
          rw [Int.toNat_natCast, eN]
          rcases j with ⟨h1, h2⟩ | ⟨h1, h2⟩
          · exact .inl ⟨h1.symm, h2.symm⟩
          · exact .inr ⟨h2.symm, h1.symm⟩
        · have a1 := rc w1 z h1
          have a2 := rc w2 z h2
          exact npq (r1.symm.trans (a1.trans a2.symm))
      rcases (rch_snoc (p := ts[k].one) (q := ts[k].other) (.inl ⟨rfl, rfl⟩)).mp r with r | ⟨r1, r2⟩ | ⟨r1, r2⟩
      · obtain ⟨qs, ns, w⟩ := ih r
        exact ⟨qs, ns, up w⟩
      · exact two (.inl ⟨rfl, rfl⟩) r1 r2
      · exact two (.inr ⟨rfl, rfl⟩) r1 r2
    · have yes : Rch (ts.take k) ts[k].one ts[k].other := Classical.byContradiction fun z => hs ((stem_iff et).mpr z)
      have r' : Rch (ts.take k) a b := by
        rcases (rch_snoc (p := ts[k].one) (q := ts[k].other) (.inl ⟨rfl, rfl⟩)).mp r with r | ⟨r1, r2⟩ | ⟨r1, r2⟩
        · exact r
        · exact r1.trans (yes.trans r2)
        · exact r1.trans (yes.symm.trans r2)
      obtain ⟨qs, ns, w⟩ := ih r'
      exact ⟨qs, ns, up w⟩
/-- the ties of stems at each place, at first -/
def touch (ts : List Tie) (S : List Int) (p : Int) : List Int := S.filter fun m => decide ((tieN ts m.toNat).one = p ∨ (tieN ts m.toNat).other = p)
theorem touch_lfs {ts : List Tie} {S ns : List Int} {e c : Int} {qs : List Int} (nd : S.Nodup) (W : Way (nN ts S) e c qs ns) : Lfs (nN ts S) ns (touch ts S) := by
  have mk : ∀ {p q m : Int}, m ∈ S → Jn (tieN ts m.toNat) p q → m ∈ touch ts S p := fun {p q m} h j => by
    refine List.mem_filter.mpr ⟨h, decide_eq_true ?_⟩
    rcases j with ⟨a, _⟩ | ⟨_, b⟩
    · exact .inl a
    · exact .inr b
  refine ⟨fun p => nd.sublist List.filter_sublist, fun p m h => ?_, fun p q m h k => ?_, fun p q m h k => ?_⟩
  · obtain ⟨h1, h2⟩ := List.mem_filter.mp h
    rcases of_decide_eq_true h2 with a | a
    · exact ⟨(tieN ts m.toNat).other, mem_nN.mpr ⟨h1, .inl ⟨a, rfl⟩⟩⟩
    · exact ⟨(tieN ts m.toNat).one, mem_nN.mpr ⟨h1, .inr ⟨rfl, a⟩⟩⟩
  · obtain ⟨h1, h2⟩ := mem_nN.mp k
    exact mk h1 h2.symm
  · obtain ⟨h1, h2⟩ := mem_nN.mp k
    exact mk h1 h2
theorem stems_in {n : Int} {ts : List Tie} (ok : ∀ t ∈ ts, TieOk n t) {x : Int} {q : Nu} (h : q ∈ nN ts (stemsTo ts ts.length) x) : (0 ≤ x ∧ x < n) ∧ (0 ≤ q.1 ∧ q.1 < n) := by
  obtain ⟨h1, h2⟩ := mem_nN.mp h
  obtain ⟨⟨m0, m1⟩, _⟩ := stemsTo_mem.mp h1
  have et := List.getElem?_eq_getElem (show q.2.toNat < ts.length by omega)
  obtain ⟨o1, o2, o3, o4, _⟩ := ok _ (List.mem_of_getElem? et)
  rw [tieN_of et] at h2
  rcases h2 with ⟨a, b⟩ | ⟨a, b⟩ <;> omega
theorem tie_reach {ts : List Tie} {k : Nat} {t : Tie} (h : ts[k]? = some t) : Rch (ts.take ts.length) t.one t.other := by
  rw [List.take_length]
  exact Rch.adj (k := t.foe) ⟨t, List.mem_of_getElem? h, rfl, .inl ⟨rfl, rfl⟩⟩
/-! ### colours (mathematics) -/
def flipT (t : Tie) : Tie := ⟨t.one, t.other, !t.foe⟩
def HoldsS (c : Int → Bool) (ts : List Tie) (S : List Int) : Prop := ∀ m ∈ S, (c (tieN ts m.toNat).one ^^ c (tieN ts m.toNat).other) = (tieN ts m.toNat).foe
open Classical in
/-- stems can be coloured -/
theorem forest_col {ts : List Tie} : ∀ {k : Nat}, k ≤ ts.length → ∃ c : Int → Bool, HoldsS c ts (stemsTo ts k)
  | 0, _ => ⟨fun _ => false, fun m hm => by cases hm⟩
  | k + 1, hk => by
    obtain ⟨c, h⟩ := forest_col (ts := ts) (k := k) (by omega)
    rw [stemsTo_succ]
    by_cases hb : stemB ts k = true
    · rw [if_pos hb]
      have et := List.getElem?_eq_getElem (show k < ts.length by omega)
      have no := (stem_iff et).mp hb
      have eN := tieN_of et
      generalize ts[k]'(by omega) = t at et no eN
      refine ⟨fun x => c x ^^ ((t.foe ^^ (c t.one ^^ c t.other)) && decide (Rch (ts.take k) t.one x)), fun m hm => ?_⟩
      rcases List.mem_append.mp hm with hm | hm
      · have e := h m hm
        obtain ⟨⟨m0, m1⟩, _⟩ := stemsTo_mem.mp hm
        have em := List.getElem?_eq_getElem (show m.toNat < ts.length by omega)
        have ad : Adj (ts.take k) (tieN ts m.toNat).one (tieN ts m.toNat).other (tieN ts m.toNat).foe := ⟨tieN ts m.toNat, by
          rw [tieN_of em]
          exact List.mem_take_iff_getElem.mpr ⟨m.toNat, by omega, rfl⟩, rfl, .inl ⟨rfl, rfl⟩⟩
        have same : decide (Rch (ts.take k) t.one (tieN ts m.toNat).one) = decide (Rch (ts.take k) t.one (tieN ts m.toNat).other) := by
          rw [decide_eq_decide]
          exact ⟨fun r => r.trans (Rch.adj ad), fun r => r.trans (Rch.adj ad.symm)⟩
        rw [← e]
        simp only [same]
        cases c (tieN ts m.toNat).one <;> cases c (tieN ts m.toNat).other <;> cases ((t.foe ^^ (c t.one ^^ c t.other)) && decide (Rch (ts.take k) t.one (tieN ts m.toNat).other)) <;> rfl
      · rw [List.mem_singleton] at hm
        subst hm
        rw [Int.toNat_natCast, eN]
        simp only
        rw [decide_eq_true (Rch.refl : Rch (ts.take k) t.one t.one), decide_eq_false no]
        cases c t.one <;> cases c t.other <;> cases t.foe <;> rfl
    · rw [if_neg hb, List.append_nil]
      exact ⟨c, h⟩
theorem way_const {ts : List Tie} {S : List Int} {d : Int → Bool} (h : ∀ m ∈ S, d (tieN ts m.toNat).one = d (tieN ts m.toNat).other) {e c : Int} {qs ns : List Int} (w : Way (nN ts S) e c qs ns) : d c = d e := by
  induction w with
  | one => rfl
  | cons w k no ih =>
    obtain ⟨h1, h2⟩ := mem_nN.mp k
    have := h _ h1
    rcases h2 with ⟨a, b⟩ | ⟨a, b⟩
    · rw [a, b] at this
      rw [this, ih]
    · rw [a, b] at this
      rw [← this, ih]
/-- an odd number of foes among so many ties -/
def oddF (ts : List Tie) (ns : List Int) : Bool := decide ((ns.filter fun m => (tieN ts m.toNat).foe).length % 2 = 1)
theorem oddF_cons (ts : List Tie) (m : Int) (ns : List Int) : oddF ts (m :: ns) = ((tieN ts m.toNat).foe ^^ oddF ts ns) := by
  unfold oddF
  rw [List.filter_cons]
  cases (tieN ts m.toNat).foe
  · simp
  · simp only [if_true, List.length_cons]
    by_cases h : (ns.filter fun m => (tieN ts m.toNat).foe).length % 2 = 1
    · rw [decide_eq_true h, decide_eq_false (by omega)]; rfl
    · rw [decide_eq_false h, decide_eq_true (by omega)]; rfl
theorem oddF_snoc (ts : List Tie) (ns : List Int) (k : Int) : oddF ts (ns ++ [k]) = (oddF ts ns ^^ (tieN ts k.toNat).foe) := by
  induction ns with
  | nil =>
    rw [List.nil_append, oddF_cons]
    show ((tieN ts k.toNat).foe ^^ false) = (false ^^ (tieN ts k.toNat).foe)
    cases (tieN ts k.toNat).foe <;> rfl
  | cons m ns ih => rw [List.cons_append, oddF_cons, oddF_cons, ih, Bool.xor_assoc]
theorem way_foes {ts : List Tie} {S : List Int} {c : Int → Bool} (h : HoldsS c ts S) {e s : Int} {qs ns : List Int} (w : Way (nN ts S) e s qs ns) : oddF ts ns = (c s ^^ c e) := by
  induction w with
  | one => rw [Bool.xor_self]; rfl
  | cons w k no ih =>
    rename_i c' p m qs' ns'
    obtain ⟨h1, h2⟩ := mem_nN.mp k
    have a := h _ h1
    simp only at a h2
    rw [oddF_cons, ih, ← a]
    rcases h2 with ⟨a, b⟩ | ⟨a, b⟩ <;> rw [a, b]
    · cases c p <;> cases c c' <;> cases c e <;> rfl
    · cases c p <;> cases c c' <;> cases c e <;> rfl
/-! ### k80: sides, rings -/
structure RingG (n : Int) (ts : List Tie) (ps es : List Int) : Prop where
  pb : ∀ p ∈ ps, 0 ≤ p ∧ p < n
  eb : ∀ e ∈ es, 0 ≤ e ∧ e < (ts.length : Int)
  pd : ps.Nodup
  ed : es.Nodup
  two : 2 ≤ ps.length
  len : ps.length = es.length
  ri : ringI ts ps es = true
def RingAt (H : Hp) (v : V) (ps es : List Int) : Prop := ∃ r a b, v = .ref r ∧ H r = some (.tup [.ref a, .ref b]) ∧ H a = some (.tup (ps.map V.int)) ∧ H b = some (.tup (es.map V.int))
theorem RingAt.tk {H H' : Hp} (k : Tk H H') {v : V} {ps es : List Int} (h : RingAt H v ps es) : RingAt H' v ps es := by
  obtain ⟨r, a, b, e, h1, h2, h3⟩ := h
  exact ⟨r, a, b, e, k _ _ h1, k _ _ h2, k _ _ h3⟩
theorem unl_ints {lim : Int} {ns : List Int} (h : ∀ x ∈ ns, 0 ≤ x ∧ x < lim) (nd : ns.Nodup) : unl lim (some (ns.map V.int)) = true := by
  show ((ns.map V.int).all (wbelow lim) && decide (ns.map V.int).Nodup) = true
  rw [decide_eq_true (nodup_ints.mpr nd), Bool.and_true, List.all_eq_true]
  intro x hx
  obtain ⟨z, hz, rfl⟩ := List.mem_map.mp hx
  obtain ⟨h1, h2⟩ := h z hz
  show (decide (0 ≤ z) && decide (z < lim)) = true
  rw [decide_eq_true h1, decide_eq_true h2]
  rfl
theorem ring_true {H : Hp} {n : Int} {ts : List Tie} {v : V} {ps es : List Int} (h : RingAt H v ps es) (g : RingG n ts ps es) : ringB H n ts v = true := by
  obtain ⟨r, a, b, rfl, h1, h2, h3⟩ := h
  unfold ringB
  rw [parts_of' h1]
  show ringP n ts (parts H (.ref a)) (parts H (.ref b)) = true
  rw [parts_of' h2, parts_of' h3]
  show (unl n (some (ps.map V.int)) && (unl ts.length (some (es.map V.int)) && (decide (2 ≤ (ps.map V.int).length) && (decide ((ps.map V.int).length = (es.map V.int).length) && ringI ts ((ps.map V.int).map toI) ((es.map V.int).map toI))))) = true
  rw [unl_ints g.pb g.pd, unl_ints g.eb g.ed, toI_map, toI_map, List.length_map, List.length_map, g.ri, decide_eq_true g.two, decide_eq_true g.len]
  rfl
theorem odd_val {H : Hp} {n : Int} {ts : List Tie} {v : V} {ps es : List Int} (h : RingAt H v ps es) (g : RingG n ts ps es) : oddB H n ts v = decide (foesI ts es % 2 = 1) := by
  have e := ring_true h g
  obtain ⟨r, a, b, rfl, h1, h2, h3⟩ := h
  unfold oddB
  rw [e, Bool.true_and, parts_of' h1]
  simp only
  rw [parts_of' h3]
  simp only
  rw [toI_map]
theorem ring_thing {H : Hp} {v : V} {ps es : List Int} (h : RingAt H v ps es) (l1 : ps.length ≤ 1000) (l2 : es.length ≤ 1000) : Thing2 H v := by
  obtain ⟨r, a, b, rfl, h1, h2, h3⟩ := h
  have row : ∀ {c : Addr} {ns : List Int}, H c = some (.tup (ns.map V.int)) → ns.length ≤ 1000 → Part2 H (.ref c) := fun {c ns} h l => ⟨.inr (.inl ⟨_, h⟩), fun ys e => by
    rw [parts_of' h] at e
    cases e
    refine ⟨fun y hy => ?_, by rw [List.length_map]; exact l⟩
    obtain ⟨z, _, rfl⟩ := List.mem_map.mp hy
    trivial⟩
  refine ⟨.inr (.inl ⟨_, h1⟩), fun xs e x hx => ?_⟩
  rw [parts_of' h1] at e
  cases e
  simp only [List.mem_cons, List.not_mem_nil, or_false] at hx
  rcases hx with rfl | rfl
  · exact row h2 l1
  · exact row h3 l2
theorem RingG.fewP {n : Nat} {ts : List Tie} {ps es : List Int} (g : RingG n ts ps es) : ps.length ≤ n := pigeon n ps g.pd g.pb
/-! ### a way that closes (mathematics) -/
structure PathG (n : Int) (ts : List Tie) (xs ws : List Int) (here : Int) : Prop where
  rg : ∀ x ∈ xs, 0 ≤ x ∧ x < n
  nd : xs.Nodup
  len : xs.length = ws.length + 1
  last : xs[ws.length]? = some here
  wb : ∀ w ∈ ws, 0 ≤ w ∧ w < (ts.length : Int)
  jn : ∀ k : Nat, k < ws.length → joinB (tieAt ts (ws.getD k 0)) (xs.getD k 0) (xs.getD (k + 1) 0) = true
theorem PathG.one {n : Int} {ts : List Tie} {x : Int} (h : 0 ≤ x ∧ x < n) : PathG n ts [x] [] x :=
  ⟨fun y hy => by rw [List.mem_singleton.mp hy]; exact h, by simp, rfl, rfl, (fun w hw => by cases hw), fun k hk => absurd hk (Nat.not_lt_zero _)⟩
theorem getD_app_l {xs ys : List Int} {k : Nat} (h : k < xs.length) : (xs ++ ys).getD k 0 = xs.getD k 0 := by
  rw [List.getD_eq_getElem?_getD, List.getD_eq_getElem?_getD, List.getElem?_append_left h]
theorem getD_at {xs : List Int} {k : Nat} {x : Int} (h : xs[k]? = some x) : xs.getD k 0 = x := by
  rw [List.getD_eq_getElem?_getD, h]
  rfl
theorem PathG.push {n : Int} {ts : List Tie} {xs ws : List Int} {here there m : Int} (h : PathG n ts xs ws here) (ht : 0 ≤ there ∧ there < n) (no : there ∉ xs) (hm : 0 ≤ m ∧ m < (ts.length : Int)) (j : joinB (tieAt ts m) here there = true) : PathG n ts (xs ++ [there]) (ws ++ [m]) there := by
  have l := h.len
  refine ⟨fun x hx => ?_, ?_, by rw [List.length_append, List.length_append]; simp only [List.length_cons, List.length_nil]; omega, ?_, fun w hw => ?_, fun k hk => ?_⟩
  · rcases List.mem_append.mp hx with z | z
    · exact h.rg x z
    · rw [List.mem_singleton.mp z]; exact ht
  · rw [List.nodup_append]
    exact ⟨h.nd, by simp, fun x hx y hy z => no (by rw [List.mem_singleton.mp hy] at z; rw [← z]; exact hx)⟩
  · rw [List.length_append, List.getElem?_append_right (by simp; omega)]
    rw [show ws.length + [m].length - xs.length = 0 by simp; omega]
    rfl
  · rcases List.mem_append.mp hw with z | z
    · exact h.wb w z
    · rw [List.mem_singleton.mp z]; exact hm
  · rw [List.length_append] at hk
    simp only [List.length_cons, List.length_nil] at hk
    by_cases e : k < ws.length
    · rw [getD_app_l e, getD_app_l (by omega), getD_app_l (by omega)]
      exact h.jn k e
    · have ek : k = ws.length := by omega
      subst ek
      have e1 : (ws ++ [m]).getD ws.length 0 = m := getD_at (by rw [List.getElem?_append_right (Nat.le_refl _), Nat.sub_self]; rfl)
      have e2 : (xs ++ [there]).getD ws.length 0 = here := by rw [getD_app_l (by omega)]; exact getD_at h.last
      have e3 : (xs ++ [there]).getD (ws.length + 1) 0 = there := getD_at (by rw [← l, List.getElem?_append_right (Nat.le_refl _), Nat.sub_self]; rfl)
      rw [e1, e2, e3]
      exact j
theorem PathG.cut {n : Int} {ts : List Tie} {xs ws : List Int} {here x : Int} (h : PathG n ts xs ws here) {a : Nat} (ha : xs[a]? = some x) : PathG n ts (xs.take (a + 1)) (ws.take a) x := by
  have al := (List.getElem?_eq_some_iff.mp ha).1
  have l := h.len
  have lw : (ws.take a).length = a := by rw [List.length_take]; omega
  refine ⟨fun y hy => h.rg y (List.mem_of_mem_take hy), h.nd.sublist (List.take_sublist _ _), by rw [lw, List.length_take]; omega, ?_, fun w hw => h.wb w (List.mem_of_mem_take hw), fun k hk => ?_⟩
  · rw [lw, List.getElem?_take_of_lt (by omega)]
    exact ha
  · rw [lw] at hk
    have g : ∀ {zs : List Int} {i m : Nat}, i < m → (zs.take m).getD i 0 = zs.getD i 0 := fun {zs i m} hi => by
      rw [List.getD_eq_getElem?_getD, List.getD_eq_getElem?_getD, List.getElem?_take_of_lt hi]
    rw [g hk, g (by omega), g (by omega)]
    exact h.jn k (by omega)
theorem PathG.ring {n : Int} {ts : List Tie} {xs ws : List Int} {here x m : Int} (h : PathG n ts xs ws here) {a : Nat} (ha : xs[a]? = some x) (hm : 0 ≤ m ∧ m < (ts.length : Int)) (j : joinB (tieAt ts m) here x = true) (two : 1 < (ws.drop a ++ [m]).length) (nd : (ws.drop a ++ [m]).Nodup) : RingG n ts (xs.drop a) (ws.drop a ++ [m]) := by
  have al := (List.getElem?_eq_some_iff.mp ha).1
  have l := h.len
  have lp : (xs.drop a).length = xs.length - a := List.length_drop
  have le : (ws.drop a ++ [m]).length = ws.length - a + 1 := by rw [List.length_append, List.length_drop]; rfl
  have gd : ∀ {zs : List Int} {i : Nat}, (zs.drop a).getD i 0 = zs.getD (a + i) 0 := fun {zs i} => by
    rw [List.getD_eq_getElem?_getD, List.getD_eq_getElem?_getD, List.getElem?_drop]
  refine ⟨fun y hy => h.rg y (List.mem_of_mem_drop hy), fun w hw => ?_, h.nd.sublist (List.drop_sublist _ _), nd, by omega, by omega, ?_⟩
  · rcases List.mem_append.mp hw with z | z
    · exact h.wb w (List.mem_of_mem_drop z)
    · rw [List.mem_singleton.mp z]; exact hm
  · unfold ringI
    rw [List.all_eq_true]
    intro k hk
    have hk := List.mem_range.mp hk
    rw [le] at hk
    by_cases e : k < ws.length - a
    · rw [getD_app_l (by rw [List.length_drop]; exact e), gd, gd, Nat.mod_eq_of_lt (by omega), gd]
      exact h.jn (a + k) (by omega)
    · have ek : k = ws.length - a := by omega
      have e1 : (ws.drop a ++ [m]).getD k 0 = m := getD_at (by
        rw [List.getElem?_append_right (by rw [List.length_drop]; omega), List.length_drop, ek, Nat.sub_self]
        rfl)
      have e2 : (xs.drop a).getD k 0 = here := by
        rw [gd]
        refine getD_at ?_
        rw [show a + k = ws.length by omega]
        exact h.last
      have e3 : (xs.drop a).getD ((k + 1) % (xs.drop a).length) 0 = x := by
        rw [lp, show k + 1 = xs.length - a by omega, Nat.mod_self, gd]
        exact getD_at ha
      rw [e1, e2, e3]
      exact j
/-! ### k14: rings (mathematics) -/
theorem PathG.two {n : Int} {ts : List Tie} {xs ws : List Int} {here : Int} (h : PathG n ts xs ws here) {k : Nat} (hk : k < ws.length) : ∃ w x y, ws[k]? = some w ∧ xs[k]? = some x ∧ xs[k + 1]? = some y ∧ joinB (tieAt ts w) x y = true := by
  have l := h.len
  have e1 := List.getElem?_eq_getElem hk
  have e2 := List.getElem?_eq_getElem (show k < xs.length by omega)
  have e3 := List.getElem?_eq_getElem (show k + 1 < xs.length by omega)
  refine ⟨_, _, _, e1, e2, e3, ?_⟩
  have j := h.jn k hk
  rw [getD_at e1, getD_at e2, getD_at e3] at j
  exact j
theorem join_ends {t : Tie} {a b c d : Int} (h : joinB t a b = true) (g : joinB t c d = true) : (a = c ∧ b = d) ∨ (a = d ∧ b = c) := by
  unfold joinB at h g
  simp only [Bool.or_eq_true, Bool.and_eq_true, decide_eq_true_iff] at h g
  omega
/-- a tie of the way to a place that is not on it is not on it -/
theorem PathG.fresh {n : Int} {ts : List Tie} {xs ws : List Int} {here y m : Int} (h : PathG n ts xs ws here) (j : joinB (tieAt ts m) here y = true) (no : y ∉ xs) : m ∉ ws := fun hm => by
  obtain ⟨i, hi⟩ := List.getElem?_of_mem hm
  obtain ⟨w, a, b, h1, h2, h3, h4⟩ := h.two (List.getElem?_eq_some_iff.mp hi).1
  rw [hi] at h1
  cases h1
  rcases join_ends h4 j with ⟨_, e⟩ | ⟨e, _⟩
  · exact no (by rw [← e]; exact List.mem_of_getElem? h3)
  · exact no (by rw [← e]; exact List.mem_of_getElem? h2)
theorem PathG.tnd {n : Int} {ts : List Tie} {xs ws : List Int} {here : Int} (h : PathG n ts xs ws here) : ws.Nodup := by
  unfold List.Nodup
  rw [List.pairwise_iff_getElem]
  intro i j hi hj hij e
  obtain ⟨w, a, b, h1, h2, h3, h4⟩ := h.two hi
  obtain ⟨w', a', b', g1, g2, g3, g4⟩ := h.two hj
  rw [List.getElem?_eq_getElem hi] at h1
  rw [List.getElem?_eq_getElem hj] at g1
  cases h1
  cases g1
  rw [e] at h4
  have l := h.len
  rcases join_ends h4 g4 with ⟨_, z⟩ | ⟨z, _⟩
  · have := (List.getElem?_inj (show i + 1 < xs.length by omega) h.nd).mp (h3.trans (by rw [z]; exact g3.symm))
    omega
  · have := (List.getElem?_inj (show i < xs.length by omega) h.nd).mp (h2.trans (by rw [z]; exact g3.symm))
    omega
/-- a way from its least place on -/
def Ok14 (n : Int) (ts : List Tie) (p : List Int × List Int) : Prop := ∃ s here, PathG n ts p.1 p.2 here ∧ p.1[0]? = some s ∧ ∀ x ∈ p.1, s ≤ x
/-- tie m closes the way -/
def Clo (ts : List Tie) (p : List Int × List Int) (m : Int) : Prop := (0 ≤ m ∧ m < (ts.length : Int)) ∧ m ∉ p.2 ∧ p.2 ≠ [] ∧ ∃ s here, p.1[0]? = some s ∧ p.1[p.2.length]? = some here ∧ joinB (tieAt ts m) here s = true
def Pre (p q : List Int × List Int) : Prop := ∃ k, k ≤ q.2.length ∧ p = (q.1.take (k + 1), q.2.take k)
theorem Pre.refl {n : Int} {ts : List Tie} {q : List Int × List Int} (h : Ok14 n ts q) : Pre q q := by
  obtain ⟨s, here, g, _⟩ := h
  refine ⟨q.2.length, Nat.le_refl _, ?_⟩
  rw [List.take_of_length_le (by rw [g.len]; exact Nat.le_refl _), List.take_length]
def Done (ts : List Tie) (F : List (List Int × List Int)) (q : List Int × List Int) : Prop := ∀ m, Clo ts q m → (q.1, q.2 ++ [m]) ∈ F
def Cov (n : Int) (ts : List Tie) (W F : List (List Int × List Int)) : Prop := ∀ q, Ok14 n ts q → (∃ p ∈ W, Pre p q) ∨ Done ts F q
/-- within the look at the ties of A, up to tie j -/
def CovA (n : Int) (ts : List Tie) (A : List Int × List Int) (j : Nat) (W F : List (List Int × List Int)) : Prop := ∀ q, Ok14 n ts q → (∃ p ∈ W, Pre p q) ∨ Done ts F q ∨ (q = A ∧ ∀ m, m < (j : Int) → Clo ts q m → (q.1, q.2 ++ [m]) ∈ F) ∨ (A.2.length < q.2.length ∧ A = (q.1.take (A.2.length + 1), q.2.take A.2.length) ∧ ∀ w, q.2[A.2.length]? = some w → (j : Int) ≤ w)
theorem Cov.start {n : Int} {ts : List Tie} {W F : List (List Int × List Int)} {A : List Int × List Int} (h : Cov n ts (W ++ [A]) F) : CovA n ts A 0 W F := fun q hq => by
  obtain ⟨s, here, g, _⟩ := id hq
  rcases h q hq with ⟨p, hp, k, hk, e⟩ | h
  · rcases List.mem_append.mp hp with hp | hp
    · exact .inl ⟨p, hp, k, hk, e⟩
    · rw [List.mem_singleton] at hp
      subst hp
      have lk : p.2.length = k := by rw [e, List.length_take]; omega
      by_cases ek : k = q.2.length
      · refine .inr (.inr (.inl ⟨?_, fun m hm hc => ?_⟩))
        · rw [e, ek, List.take_of_length_le (by rw [g.len]; exact Nat.le_refl _), List.take_length]
        · have := hc.1.1
          omega
      · refine .inr (.inr (.inr ⟨by omega, by rw [lk]; exact e, fun w hw => ?_⟩))
        have := g.wb w (List.mem_of_getElem? hw)
        omega
  · exact .inr (.inl h)
theorem CovA.finish {n : Int} {ts : List Tie} {W F : List (List Int × List Int)} {A : List Int × List Int} (h : CovA n ts A ts.length W F) : Cov n ts W F := fun q hq => by
  obtain ⟨s, here, g, _⟩ := id hq
  rcases h q hq with h | h | ⟨_, h⟩ | ⟨h1, h2, h3⟩
  · exact .inl h
  · exact .inr h
  · exact .inr fun m hc => h m hc.1.2 hc
  · have e := List.getElem?_eq_getElem h1
    have := g.wb _ (List.mem_of_getElem? e)
    have := h3 _ e
    omega
/-- the next tie: a closing, a step, or none -/
theorem CovA.step {n : Int} {ts : List Tie} {W F W' F' : List (List Int × List Int)} {A : List Int × List Int} {j : Nat} (h : CovA n ts A j W F) (hA : Ok14 n ts A) (hW : ∀ p ∈ W, p ∈ W') (hF : ∀ p ∈ F, p ∈ F')
    (hc : Clo ts A j → (A.1, A.2 ++ [(j : Int)]) ∈ F') (hs : ∀ here y, A.1[A.2.length]? = some here → joinB (tieAt ts j) here y = true → y ∉ A.1 → (∀ s, A.1[0]? = some s → s < y) → (j : Int) ∉ A.2 → (A.1 ++ [y], A.2 ++ [(j : Int)]) ∈ W') : CovA n ts A (j + 1) W' F' := fun q hq => by
  rcases h q hq with ⟨p, hp, e⟩ | h | ⟨e, h⟩ | ⟨h1, h2, h3⟩
  · exact .inl ⟨p, hW p hp, e⟩
  · exact .inr (.inl fun m hm => hF _ (h m hm))
  · refine .inr (.inr (.inl ⟨e, fun m hm hcl => ?_⟩))
    by_cases ej : m = (j : Int)
    · subst ej
      subst e
      exact hc hcl
    · exact hF _ (h m (by omega) hcl)
  · obtain ⟨s, here, g, g0, gs⟩ := id hq
    have ew := List.getElem?_eq_getElem h1
    generalize q.2[A.2.length] = w at ew
    by_cases ej : w = (j : Int)
    · subst ej
      obtain ⟨w', x, y, f1, f2, f3, f4⟩ := g.two h1
      rw [ew] at f1
      cases f1
      have eA1 : A.1 = q.1.take (A.2.length + 1) := congrArg Prod.fst h2
      have eA2 : A.2 = q.2.take A.2.length := congrArg Prod.snd h2
      have lq := g.len
      have lA : A.1.length = A.2.length + 1 := by rw [eA1, List.length_take]; omega
      have hx : A.1[A.2.length]? = some x := by rw [eA1, List.getElem?_take_of_lt (by omega)]; exact f2
      have ny : y ∉ A.1 := fun hy => by
        rw [eA1] at hy
        obtain ⟨i, hi⟩ := List.getElem?_of_mem hy
        have il := (List.getElem?_eq_some_iff.mp hi).1
        rw [List.length_take] at il
        rw [List.getElem?_take_of_lt (by omega)] at hi
        have := (List.getElem?_inj (show i < q.1.length by omega) g.nd).mp (hi.trans f3.symm)
        omega
      refine .inl ⟨_, hs x y hx f4 ny (fun s' hs' => ?_) (fun hj => ?_), A.2.length + 1, h1, ?_⟩
      · rw [eA1, List.getElem?_take_of_lt (by omega), g0] at hs'
        cases hs'
        have l1 := gs y (List.mem_of_getElem? f3)
        have l2 : s ≠ y := fun z => by
          have := (List.getElem?_inj (show 0 < q.1.length by omega) g.nd).mp (g0.trans (by rw [z]; exact f3.symm))
          omega
        omega
      · obtain ⟨s2, here2, gA, _⟩ := hA
        have := gA.last
        rw [hx] at this
        cases this
        exact gA.fresh f4 ny hj
      · refine Prod.ext ?_ ?_
        · show A.1 ++ [y] = q.1.take (A.2.length + 1 + 1)
          rw [List.take_add_one, f3, ← eA1]
          rfl
        · show A.2 ++ [(j : Int)] = q.2.take (A.2.length + 1)
          rw [List.take_add_one, ew, ← eA2]
          rfl
    · refine .inr (.inr (.inr ⟨h1, h2, fun w' hw' => ?_⟩))
      rw [ew] at hw'
      cases hw'
      have := h3 w ew
      omega
theorem Ok14.one {n : Int} {ts : List Tie} {x : Int} (h : 0 ≤ x ∧ x < n) : Ok14 n ts ([x], []) := ⟨x, x, PathG.one h, rfl, fun y hy => by rw [List.mem_singleton.mp hy]; exact Int.le_refl _⟩
theorem Ok14.push {n : Int} {ts : List Tie} {A : List Int × List Int} (h : Ok14 n ts A) {here y m : Int} (hh : A.1[A.2.length]? = some here) (j : joinB (tieAt ts m) here y = true) (hm : 0 ≤ m ∧ m < (ts.length : Int)) (hy : 0 ≤ y ∧ y < n) (no : y ∉ A.1) (gt : ∀ s, A.1[0]? = some s → s < y) : Ok14 n ts (A.1 ++ [y], A.2 ++ [m]) := by
  obtain ⟨s, here', g, g0, gs⟩ := h
  have := g.last
  rw [hh] at this
  cases this
  refine ⟨s, y, g.push hy no hm j, ?_, fun x hx => ?_⟩
  · show (A.1 ++ [y])[0]? = some s
    rw [List.getElem?_append_left (List.getElem?_eq_some_iff.mp g0).1]
    exact g0
  · rcases List.mem_append.mp hx with h | h
    · exact gs x h
    · rw [List.mem_singleton.mp h]
      exact Int.le_of_lt (gt s g0)
theorem Clo.ring {n : Int} {ts : List Tie} {A : List Int × List Int} (h : Ok14 n ts A) {m : Int} (c : Clo ts A m) : RingG n ts A.1 (A.2 ++ [m]) := by
  obtain ⟨s, here, g, g0, _⟩ := h
  obtain ⟨hm, no, ne, s', here', e1, e2, j⟩ := c
  rw [g0] at e1
  cases e1
  have := g.last
  rw [e2] at this
  cases this
  have r := g.ring (a := 0) g0 hm j (by
    rw [List.drop_zero]
    have : A.2.length ≠ 0 := fun z => ne (List.eq_nil_of_length_eq_zero z)
    rw [List.length_append]
    simp only [List.length_cons, List.length_nil]
    omega) (by
    rw [List.drop_zero, List.nodup_append]
    exact ⟨g.tnd, by simp, fun x hx y hy z => no (by rw [List.mem_singleton.mp hy] at z; rw [← z]; exact hx)⟩)
  rwa [List.drop_zero, List.drop_zero] at r
/-! ### k14: rings, coloured (mathematics) -/
theorem no_odd {ts : List Tie} {c : Int → Bool} (h : ∀ t ∈ ts, (c t.one ^^ c t.other) = t.foe) (n : Nat) : ¬ Odd ts n := by
  rintro ⟨x, _, r⟩
  have walk : ∀ {x y : Int} {p : Bool}, RP ts x y p → (c x ^^ c y) = p := fun {x y p} r => by
    induction r with
    | nil => rw [Bool.xor_self]
    | step _ ad ih =>
      obtain ⟨t, ht, rfl, q⟩ := ad
      rw [← ih, ← h t ht]
      rcases q with ⟨a, b⟩ | ⟨a, b⟩ <;> rw [a, b]
      · rename_i u v _ _
        cases c x <;> cases c u <;> cases c v <;> rfl
      · rename_i u v _ _
        cases c x <;> cases c u <;> cases c v <;> rfl
  have := walk r
  rw [Bool.xor_self] at this
  cases this
theorem RingG.at {n : Int} {ts : List Tie} {ps es : List Int} (g : RingG n ts ps es) {k : Nat} (hk : k < es.length) : ∃ w x y, es[k]? = some w ∧ ps[k]? = some x ∧ ps[(k + 1) % es.length]? = some y ∧ joinB (tieAt ts w) x y = true := by
  have l := g.len
  have t2 := g.two
  have hm : (k + 1) % es.length < es.length := Nat.mod_lt _ (by omega)
  have e1 := List.getElem?_eq_getElem hk
  have e2 := List.getElem?_eq_getElem (show k < ps.length by omega)
  have e3 := List.getElem?_eq_getElem (show (k + 1) % es.length < ps.length by omega)
  refine ⟨_, _, _, e1, e2, e3, ?_⟩
  have ri := g.ri
  unfold ringI at ri
  rw [List.all_eq_true] at ri
  have j := ri k (List.mem_range.mpr hk)
  rw [l, getD_at e1, getD_at e2, getD_at e3] at j
  exact j
theorem join_col {c : Int → Bool} {t : Tie} {x y : Int} (j : joinB t x y = true) : (c t.one ^^ c t.other) = (c x ^^ c y) := by
  unfold joinB at j
  simp only [Bool.or_eq_true, Bool.and_eq_true, decide_eq_true_iff] at j
  rcases j with ⟨a, b⟩ | ⟨a, b⟩ <;> rw [a, b]
  exact Bool.xor_comm ..
theorem oddF_take {ts : List Tie} {es : List Int} {k : Nat} {w : Int} (h : es[k]? = some w) : oddF ts (es.take (k + 1)) = (oddF ts (es.take k) ^^ (tieAt ts w).foe) := by
  rw [List.take_add_one, h]
  exact oddF_snoc ts (es.take k) w
theorem oddF_foes (ts : List Tie) (es : List Int) : oddF ts es = decide (foesI ts es % 2 = 1) := rfl
/-- a ring all of whose ties a colouring keeps is even -/
theorem ring_par {n : Int} {ts : List Tie} {ps es : List Int} (g : RingG n ts ps es) {c : Int → Bool} (h : ∀ w ∈ es, (c (tieAt ts w).one ^^ c (tieAt ts w).other) = (tieAt ts w).foe) : oddF ts es = false := by
  have l := g.len
  have t2 := g.two
  obtain ⟨p0, e0⟩ : ∃ p0, ps[0]? = some p0 := ⟨_, List.getElem?_eq_getElem (by omega)⟩
  have pre : ∀ k : Nat, k < es.length → ∀ x, ps[k]? = some x → oddF ts (es.take k) = (c p0 ^^ c x) := by
    intro k
    induction k with
    | zero =>
      intro _ x hx
      rw [e0] at hx
      cases hx
      rw [Bool.xor_self]
      rfl
    | succ k ih =>
      intro hk x hx
      obtain ⟨w, u, y, h1, h2, h3, h4⟩ := g.at (show k < es.length by omega)
      rw [Nat.mod_eq_of_lt hk, hx] at h3
      cases h3
      rw [oddF_take h1, ih (by omega) u h2, ← h w (List.mem_of_getElem? h1), join_col (c := c) h4]
      cases c p0 <;> cases c u <;> cases c x <;> rfl
  obtain ⟨w, u, y, h1, h2, h3, h4⟩ := g.at (show es.length - 1 < es.length by omega)
  rw [show es.length - 1 + 1 = es.length by omega, Nat.mod_self, e0] at h3
  cases h3
  have e := oddF_take (ts := ts) h1
  rw [show es.length - 1 + 1 = es.length by omega, List.take_length] at e
  rw [e, pre _ (by omega) u h2, ← h w (List.mem_of_getElem? h1), join_col (c := c) h4]
  cases c p0 <;> cases c u <;> rfl
/-- an even ring can be coloured, any ring but for one tie -/
theorem ring_col {n : Int} {ts : List Tie} {ps es : List Int} (g : RingG n ts ps es) (a : Nat) (ha : a < es.length) : ∃ c : Int → Bool, ∀ (k : Nat) (w : Int), es[k]? = some w → (k ≠ a ∨ oddF ts es = false) → (c (tieAt ts w).one ^^ c (tieAt ts w).other) = (tieAt ts w).foe := by
  have l := g.len
  have t2 := g.two
  refine ⟨fun x => oddF ts (es.take (ps.idxOf x)) ^^ (oddF ts es && decide (ps.idxOf x ≤ a)), fun k w hw h => ?_⟩
  have hk := (List.getElem?_eq_some_iff.mp hw).1
  obtain ⟨w', x, y, h1, h2, h3, h4⟩ := g.at hk
  rw [hw] at h1
  cases h1
  have ix : ∀ {i : Nat} {z : Int}, ps[i]? = some z → ps.idxOf z = i := fun {i z} e => by
    obtain ⟨il, e⟩ := List.getElem?_eq_some_iff.mp e
    rw [← e]
    exact g.pd.idxOf_getElem i il
  rw [join_col (c := fun x => oddF ts (es.take (ps.idxOf x)) ^^ (oddF ts es && decide (ps.idxOf x ≤ a))) h4]
  rw [ix h2, ix h3]
  have e := oddF_take (ts := ts) hw
  by_cases e1 : k + 1 < es.length
  · rw [Nat.mod_eq_of_lt e1, e]
    rcases h with h | h
    · have : decide (k ≤ a) = decide (k + 1 ≤ a) := by rw [decide_eq_decide]; omega
      rw [this]
      cases oddF ts (es.take k) <;> cases (tieAt ts w).foe <;> cases (oddF ts es && decide (k + 1 ≤ a)) <;> rfl
    · rw [h]
      cases oddF ts (es.take k) <;> cases (tieAt ts w).foe <;> rfl
  · have ek : k + 1 = es.length := by omega
    rw [ek, List.take_length] at e
    rw [ek, Nat.mod_self, decide_eq_true (Nat.zero_le a)]
    have z : oddF ts (es.take 0) = false := rfl
    rw [z]
    rcases h with h | h
    · rw [decide_eq_false (show ¬ k ≤ a by omega), e]
      cases oddF ts (es.take k) <;> cases (tieAt ts w).foe <;> rfl
    · rw [h] at e ⊢
      revert e
      cases oddF ts (es.take k) <;> cases (tieAt ts w).foe <;> simp
theorem rot_get {xs : List Int} {j k : Nat} (hj : j < xs.length) (hk : k < xs.length) : (xs.drop j ++ xs.take j).getD k 0 = xs.getD ((k + j) % xs.length) 0 := by
  rw [List.getD_eq_getElem?_getD, List.getD_eq_getElem?_getD]
  by_cases e : k < xs.length - j
  · rw [List.getElem?_append_left (by rw [List.length_drop]; exact e), List.getElem?_drop, Nat.mod_eq_of_lt (by omega), Nat.add_comm]
  · rw [List.getElem?_append_right (by rw [List.length_drop]; omega), List.length_drop, List.getElem?_take_of_lt (by omega), show k + j = (k - (xs.length - j)) + xs.length by omega, Nat.add_mod_right, Nat.mod_eq_of_lt (by omega)]
theorem RingG.rot {n : Int} {ts : List Tie} {ps es : List Int} (g : RingG n ts ps es) {j : Nat} (hj : j < ps.length) : RingG n ts (ps.drop j ++ ps.take j) (es.drop j ++ es.take j) := by
  have l := g.len
  have t2 := g.two
  have pm : ∀ (xs : List Int), (xs.drop j ++ xs.take j).Perm xs := fun xs => by
    refine List.perm_append_comm.trans ?_
    rw [List.take_append_drop]
  have lp := (pm ps).length_eq
  have le := (pm es).length_eq
  refine ⟨fun p hp => g.pb p ((pm ps).mem_iff.mp hp), fun e he => g.eb e ((pm es).mem_iff.mp he), (pm ps).nodup_iff.mpr g.pd, (pm es).nodup_iff.mpr g.ed, by rw [lp]; exact t2, by rw [lp, le]; exact l, ?_⟩
  unfold ringI
  rw [List.all_eq_true]
  intro k hk
  have hk := List.mem_range.mp hk
  rw [le] at hk
  rw [lp, rot_get (by omega) (by omega), rot_get (by omega) (by omega), rot_get (by omega) (Nat.mod_lt _ (by omega))]
  have ri := g.ri
  unfold ringI at ri
  rw [List.all_eq_true] at ri
  have h := ri ((k + j) % es.length) (List.mem_range.mpr (Nat.mod_lt _ (by omega)))
  rw [l] at h ⊢
  rw [show (((k + 1) % es.length) + j) % es.length = ((k + j) % es.length + 1) % es.length by rw [Nat.mod_add_mod, Nat.mod_add_mod]; congr 1; omega]
  exact h
theorem oddF_app (ts : List Tie) (xs ys : List Int) : oddF ts (xs ++ ys) = (oddF ts xs ^^ oddF ts ys) := by
  induction xs with
  | nil =>
    rw [List.nil_append]
    show oddF ts ys = (false ^^ oddF ts ys)
    rw [Bool.false_xor]
  | cons x xs ih => rw [List.cons_append, oddF_cons, oddF_cons, ih, Bool.xor_assoc]
theorem oddF_rot (ts : List Tie) (es : List Int) (j : Nat) : oddF ts (es.drop j ++ es.take j) = oddF ts es := by
  have e : oddF ts es = oddF ts (es.take j ++ es.drop j) := by rw [List.take_append_drop]
  rw [e, oddF_app, oddF_app, Bool.xor_comm]
theorem least_in : ∀ {xs : List Int}, xs ≠ [] → ∃ s ∈ xs, ∀ x ∈ xs, s ≤ x
  | [], h => absurd rfl h
  | [x], _ => ⟨x, by simp, fun y hy => by rw [List.mem_singleton.mp hy]; exact Int.le_refl _⟩
  | x :: y :: xs, _ => by
    obtain ⟨s, hs, h⟩ := least_in (xs := y :: xs) (by simp)
    by_cases e : x ≤ s
    · exact ⟨x, by simp, fun z hz => by
        rcases List.mem_cons.mp hz with h' | h'
        · rw [h']; exact Int.le_refl _
        · exact Int.le_trans e (h z h')⟩
    · exact ⟨s, List.mem_cons_of_mem _ hs, fun z hz => by
        rcases List.mem_cons.mp hz with h' | h'
        · rw [h']; omega
        · exact h z h'⟩
/-- a ring, begun at its least place, is a way and a tie that closes it -/
theorem RingG.path {n : Int} {ts : List Tie} {ps es : List Int} (g : RingG n ts ps es) (h0 : ∀ s, ps[0]? = some s → ∀ x ∈ ps, s ≤ x) : ∃ q m, Ok14 n ts q ∧ Clo ts q m ∧ ps = q.1 ∧ es = q.2 ++ [m] := by
  have l := g.len
  have t2 := g.two
  obtain ⟨ws, m, rfl⟩ : ∃ ws m, es = ws ++ [m] := ⟨es.dropLast, es.getLast (fun z => by rw [z, List.length_nil] at l; omega), (List.dropLast_concat_getLast _).symm⟩
  have lw : (ws ++ [m]).length = ws.length + 1 := by simp
  obtain ⟨p0, e0⟩ : ∃ p0, ps[0]? = some p0 := ⟨_, List.getElem?_eq_getElem (by omega)⟩
  obtain ⟨w, u, y, h1, h2, h3, h4⟩ := g.at (show ws.length < (ws ++ [m]).length by omega)
  rw [lw, Nat.mod_self, e0] at h3
  cases h3
  have ew : w = m := by
    rw [List.getElem?_append_right (Nat.le_refl _), Nat.sub_self] at h1
    exact (Option.some.inj h1).symm
  subst ew
  have P : PathG n ts ps ws u := by
    refine ⟨g.pb, g.pd, by omega, h2, fun x hx => g.eb x (List.mem_append_left _ hx), fun k hk => ?_⟩
    obtain ⟨w', x, y, f1, f2, f3, f4⟩ := g.at (show k < (ws ++ [w]).length by omega)
    rw [lw, Nat.mod_eq_of_lt (by omega)] at f3
    rw [List.getElem?_append_left hk] at f1
    rw [getD_at f1, getD_at f2, getD_at f3]
    exact f4
  have nd := g.ed
  rw [List.nodup_append] at nd
  refine ⟨(ps, ws), w, ⟨p0, u, P, e0, h0 p0 e0⟩, ⟨g.eb w (by simp), fun z => nd.2.2 w z w (by simp) rfl, fun z => ?_, p0, u, e0, h2, h4⟩, rfl, rfl⟩
  have z : ws = [] := z
  rw [lw, z, List.length_nil] at l
  omega
theorem Way.last {N : Int → List Nu} {e s : Int} {qs ns : List Int} (h : Way N e s qs ns) : qs[ns.length]? = some e := by
  induction h with
  | one => rfl
  | cons _ _ _ ih => simpa using ih
/-- where there is an odd walk, a way and a tie close an odd ring -/
theorem odd_ring {n : Nat} {ts : List Tie} (ok : ∀ t ∈ ts, TieOk n t) (od : Odd ts n) : ∃ q m, Ok14 n ts q ∧ Clo ts q m ∧ oddF ts (q.2 ++ [m]) = true := by
  obtain ⟨c, hc⟩ := forest_col (ts := ts) (Nat.le_refl _)
  obtain ⟨t, ht, hb⟩ : ∃ t ∈ ts, ¬ (c t.one ^^ c t.other) = t.foe := by
    refine Classical.byContradiction fun no => ?_
    exact no_odd (c := c) (fun t ht => Classical.byContradiction fun z => no ⟨t, ht, z⟩) n od
  obtain ⟨k, et⟩ := List.getElem?_of_mem ht
  have kl := (List.getElem?_eq_some_iff.mp et).1
  obtain ⟨o1, o2, o3, o4, o5⟩ := ok t ht
  obtain ⟨qs, ns, way⟩ := way_ex ok (Nat.le_refl _) (tie_reach et)
  have lq := way.len
  have hlast : qs[ns.length]? = some t.other := by
    exact way.last
  have eN : tieN ts k = t := tieN_of et
  have P : PathG n ts qs ns t.other := by
    refine ⟨fun x hx => ?_, way.nodup, lq, hlast, fun w hw => ?_, fun i hi => ?_⟩
    · obtain ⟨i, hi⟩ := List.getElem?_of_mem hx
      have il := (List.getElem?_eq_some_iff.mp hi).1
      by_cases h : i < ns.length
      · obtain ⟨x', y, m, g1, g2, g3, g4⟩ := way.each i h
        rw [hi] at g1
        cases g1
        exact (stems_in ok g4).1
      · rw [show i = ns.length by omega, hlast] at hi
        cases hi
        exact ⟨o3, o4⟩
    · obtain ⟨i, hi⟩ := List.getElem?_of_mem hw
      obtain ⟨x', y, m, g1, g2, g3, g4⟩ := way.each i (List.getElem?_eq_some_iff.mp hi).1
      rw [hi] at g3
      cases g3
      exact (stemsTo_mem.mp (mem_nN.mp g4).1).1
    · obtain ⟨x', y, m, g1, g2, g3, g4⟩ := way.each i hi
      rw [getD_at g1, getD_at g2, getD_at g3]
      have j := (mem_nN.mp g4).2
      show joinB (tieN ts m.toNat) x' y = true
      unfold joinB
      rcases j with ⟨a, b⟩ | ⟨a, b⟩
      · rw [a, b]; simp
      · rw [a, b]; simp
  have kno : (k : Int) ∉ ns := fun hk => by
    obtain ⟨i, hi⟩ := List.getElem?_of_mem hk
    obtain ⟨x', y, m, g1, g2, g3, g4⟩ := way.each i (List.getElem?_eq_some_iff.mp hi).1
    rw [hi] at g3
    cases g3
    have := hc _ (mem_nN.mp g4).1
    rw [Int.toNat_natCast, eN] at this
    exact hb this
  have nne : ns ≠ [] := fun z => by
    subst z
    obtain ⟨r, hr⟩ := way.hd
    rw [hr] at hlast
    exact o5 (Option.some.inj hlast)
  obtain ⟨r, hr⟩ := way.hd
  have q0 : qs[0]? = some t.one := by rw [hr]; rfl
  have R : RingG n ts (qs.drop 0) (ns.drop 0 ++ [(k : Int)]) := P.ring (a := 0) q0 ⟨by omega, by omega⟩ (by
    show joinB (tieN ts ((k : Int)).toNat) t.other t.one = true
    rw [Int.toNat_natCast, eN]
    unfold joinB
    simp) (by
    rw [List.drop_zero, List.length_append]
    have : ns.length ≠ 0 := fun z => nne (List.eq_nil_of_length_eq_zero z)
    simp only [List.length_cons, List.length_nil]
    omega) (by
    rw [List.drop_zero, List.nodup_append]
    exact ⟨P.tnd, by simp, fun x hx y hy z => kno (by rw [List.mem_singleton.mp hy] at z; rw [← z]; exact hx)⟩)
  rw [List.drop_zero, List.drop_zero] at R
  have od1 : oddF ts (ns ++ [(k : Int)]) = true := by
    rw [oddF_snoc, way_foes hc way, Int.toNat_natCast, eN]
    revert hb
    cases c t.one <;> cases c t.other <;> cases t.foe <;> decide
  obtain ⟨s, hs, le⟩ := least_in (xs := qs) (by rw [hr]; simp)
  obtain ⟨j, hj⟩ := List.getElem?_of_mem hs
  have jl := (List.getElem?_eq_some_iff.mp hj).1
  obtain ⟨q, m, h1, h2, e1, e2⟩ := (R.rot jl).path (fun s' hs' x hx => by
    have e : (qs.drop j ++ qs.take j)[0]? = some s := by
      rw [List.getElem?_append_left (by rw [List.length_drop]; omega), List.getElem?_drop]
      exact hj
    rw [e] at hs'
    cases hs'
    refine le x ?_
    rcases List.mem_append.mp hx with h | h
    · exact List.mem_of_mem_drop h
    · exact List.mem_of_mem_take h)
  exact ⟨q, m, h1, h2, by rw [← e2, oddF_rot]; exact od1⟩
/-! ### k14: the web -/
def spWeb14 : Sp := fun vs H Q _ => ∃ (d c : Addr), vs = [.ref d] ∧ Deck H d c ∧
  ∀ (v : V) (n : Nat) (ts : List Tie) (H' : Hp), WebAt H' v n ts → WebOk n ts → n ≤ 5 → ts.length ≤ 9 → Deck H' d c → Kp d c H H' → Q v H'
section
variable {P : Program} {w : World} {K : PySem.W.Frag} {mg : Str → Option Value} {base : Heap}
set_option maxHeartbeats 2000000 in
theorem ok_l_web {f : Addr} {fd : FuncData} (F : Fun K "_law_web" "_law_web" s_l_web f fd) (M : Free mg) (D_l_draw : Df P w K mg base 1 "_law_draw" ["_law_deck_here", "_law_most"] spDraw) : FnOk P w K mg base CX0 2 f fd ["_law_deck_here"] spWeb14 := by
  obtain ⟨f_l_draw, fd_l_draw, G_l_draw, g_l_draw, k_l_draw, b_l_draw⟩ := D_l_draw
  refine F.ok sc_l_web (fun vs H Q E h => ?_) (fun cdv A outer s H vs Q E hr h => ?_)
  · obtain ⟨d, c, rfl, _⟩ := h
    rfl
  · obtain ⟨d, c, rfl, hD, q⟩ := h
    refine ⟨_, (Evl.pss_cut (ps_set (i := 1) sc_l_web.nd rfl (.inl rfl) (pe_op op_add pe_int (pe_call G_l_draw (hr.mono (by decide)) (by rfl) g_l_draw k_l_draw b_l_draw .nil pass0 (pa_cons (pv 0) (pa_cons pe_int pa_nil)))))
      (Evl.pss_cut (ps_set (i := 2) sc_l_web.nd rfl (.inl rfl) (pe_cmpR op_eq (pe_call G_l_draw (hr.mono (by decide)) (by rfl) g_l_draw k_l_draw b_l_draw .nil pass0 (pa_cons (pv 0) (pa_cons pe_int pa_nil))) pe_int (nomark _)))
      (Evl.pss_cut (ps_setLc (i := 3) (own := [("_law_place", 4)]) (g := (gName 4)) (tt := tYes) rfl sc_l_web.nd rfl rfl (sw_true rfl rfl rfl (by decide +kernel)) (pi_range1 (by rfl) M.range (pa_cons (pv 1) pa_nil)) (blkOk_by (N := N_l_web) (sc := defScope s_l_web) (own := [("_law_place", 4)]) (by decide +kernel)) (fun _ _ _ _ _ => (pg_name (i := 4) sc_l_web.nd rfl (.inl rfl))) (fun _ _ _ _ _ => pts_nil) (fun _ _ _ _ _ => (pe_call G_l_draw (hr.mono (by decide)) (by rfl) g_l_draw k_l_draw b_l_draw .nil pass0 (pa_cons (pv 0) (pa_cons pe_int pa_nil)))))
      (pss_cons (ps_set (i := 5) sc_l_web.nd rfl (.inl rfl) (pe_lst pa_nil))
      (pss_cons (ps_for PassesOwn.never rfl (pi_range1 (by rfl) M.range (pa_cons (pe_op op_mul (pe_call G_l_draw (hr.mono (by decide)) (by rfl) g_l_draw k_l_draw b_l_draw .nil pass0 (pa_cons (pv 0) (pa_cons pe_int pa_nil))) (pe_callTy call_int1 (by rfl) M.int (by decide +kernel) (pa_cons (pe_cmpR op_gt (pv 1) pe_int (nomark _)) pa_nil))) pa_nil)) (pg_name (i := 6) sc_l_web.nd rfl (.inl rfl))
        (pss_cons (ps_set (i := 7) sc_l_web.nd rfl (.inl rfl) (pe_call G_l_draw (hr.mono (by decide)) (by rfl) g_l_draw k_l_draw b_l_draw .nil pass0 (pa_cons (pv 0) (pa_cons (pv 1) pa_nil))))
        (pss_cons (ps_set (i := 8) sc_l_web.nd rfl (.inl rfl) (pe_op op_mod (pe_op op_add (pe_op op_add (pv 7) pe_int) (pe_call G_l_draw (hr.mono (by decide)) (by rfl) g_l_draw k_l_draw b_l_draw .nil pass0 (pa_cons (pv 0) (pa_cons (pe_op op_sub (pv 1) pe_int) pa_nil)))) (pv 1)))
        (Evl.pss_cut (ps_if (PW.pt (pw_and (pt_cmpR (op_neE hr.units0) (pv 5) (pe_lst pa_nil) (nomark _)) (pw_and1 (pt_cmpR op_eq (pe_call G_l_draw (hr.mono (by decide)) (by rfl) g_l_draw k_l_draw b_l_draw .nil pass0 (pa_cons (pv 0) (pa_cons pe_int pa_nil))) pe_int (nomark _)))))
          (pss_one (ps_asg (pe_ix ix_list (pv 5) (pe_call G_l_draw (hr.mono (by decide)) (by rfl) g_l_draw k_l_draw b_l_draw .nil pass0 (pa_cons (pv 0) (pa_cons (pe_callB call_len_seq (by rfl) M.len PySem.boot_len (pa_cons (pv 5) pa_nil)) pa_nil))) (fun _ _ => rfl)) (pg_tup rfl (pgs_cons (pg_name (i := 8) sc_l_web.nd rfl (.inl rfl)) (pgs_cons (pg_name (i := 7) sc_l_web.nd rfl (.inl rfl)) (pgs_cons (pg_name (i := 9) sc_l_web.nd rfl (.inl rfl)) pgs_nil))))))
          pss_nil)
        (Evl.pss_cut (ps_set (i := 10) sc_l_web.nd rfl (.inl rfl) (pe_callTy call_int1 (by rfl) M.int (by decide +kernel) (pa_cons (pe_cmpR op_ne (pe_ix ix_list (pv 3) (pv 7) (fun _ _ => rfl)) (pe_ix ix_list (pv 3) (pv 8) (fun _ _ => rfl)) (nomark _)) pa_nil)))
        (Evl.pss_cut (ps_if (PW.pt (pw_or (pt_not (pt_val (pv 2))) (pw_or1 (pt_cmpR op_eq (pe_call G_l_draw (hr.mono (by decide)) (by rfl) g_l_draw k_l_draw b_l_draw .nil pass0 (pa_cons (pv 0) (pa_cons pe_int pa_nil))) pe_int (nomark _)))))
          (pss_one (ps_set (i := 10) sc_l_web.nd rfl (.inl rfl) (pe_call G_l_draw (hr.mono (by decide)) (by rfl) g_l_draw k_l_draw b_l_draw .nil pass0 (pa_cons (pv 0) (pa_cons pe_int pa_nil)))))
          pss_nil)
        (pss_one (ps_expr (pe_bm PySem.F.plainAttrs_list PySem.F.slot_list_append PySem.F.type_list_append mt_append (pv 5) (pa_cons (pe_tup (pa_cons (pv 7) (pa_cons (pv 8) (pa_cons (pe_ix ix_list (pe_lst (pa_cons pe_str (pa_cons pe_str pa_nil))) (pv 10) (fun _ _ => rfl)) pa_nil)))) pa_nil))))))))))
      (pss_one (ps_ret (pe_tup (pa_cons (pv 1) (pa_cons (pe_callTy call_tuple_of (by rfl) M.tuple (by decide +kernel) (pa_cons (pv 5) pa_nil)) pa_nil)))))))))), ?_⟩
    -- many
    refine ⟨fun σ' H' => ∃ n : Int, σ' = [some (.ref d), some (.int n), none, none, none, none, none, none, none, none, none] ∧ 1 ≤ n ∧ n ≤ 5 ∧ Deck H' d c ∧ Kp d c H H', ⟨.ref d, rfl, d, c, 5, rfl, hD, by decide, by decide, fun v H2 a b D2 K2 => ⟨1, v, rfl, rfl, _, rfl, by omega, by omega, D2, K2⟩⟩, ?_⟩
    rintro σ' H1 ⟨n, rfl, hn1, hn2, D1, K1⟩
    -- true
    refine ⟨fun σ' H' => ∃ t : Bool, σ' = [some (.ref d), some (.int n), some (.bl t), none, none, none, none, none, none, none, none] ∧ Deck H' d c ∧ Kp d c H H', ⟨.ref d, rfl, d, c, 2, rfl, D1, by decide, by decide, fun v1 H2 a1 b1 D2 K2 => ⟨rfl, _, rfl, D2, K1.trans K2⟩⟩, ?_⟩
    clear D1 K1 H1
    rintro σ' H1 ⟨t, rfl, D1, K1⟩
    -- sides
    obtain ⟨k, rfl⟩ : ∃ k : Nat, n = k := ⟨n.toNat, by omega⟩
    refine ⟨fun σ' H' => ∃ (S : Addr) (ss : List Int), σ' = [some (.ref d), some (.int k), some (.bl t), some (.ref S), none, none, none, none, none, none, none] ∧ H' S = some (.lst (ss.map V.int)) ∧ ss.length = k ∧ S ≠ d ∧ S ≠ c ∧ Deck H' d c ∧ Kp d c H H', ?_, ?_⟩
    · refine ⟨.int k, rfl, k, rfl, by omega, by omega, fun S nS => ?_⟩
      rw [Int.toNat_natCast]
      have hS := D1.ned nS
      have nS0 := K1.free nS hS.1 hS.2
      refine lc_range (lo := 0) (n := k) (fun i H' => ∃ ss : List Int, H' S = some (.lst (ss.map V.int)) ∧ ss.length = i ∧ Deck H' d c ∧ Kp d c H H') ⟨[], upd_same, rfl, D1.new nS, K1.trans (Kp.new nS)⟩ ?_ ?_
      · rintro i H2 hi ⟨ss, h2, l2, D2, K2⟩
        refine ⟨rfl, .ref d, rfl, d, c, 2, rfl, D2, by decide, by decide, fun v H3 a3 b3 D3 K3 => ?_⟩
        exact ⟨_, K3 _ _ hS.1 hS.2 h2, by rw [List.length_map]; exact small1000 (by omega), ss ++ [v], by rw [upd_same, List.map_append]; rfl, by rw [List.length_append, l2]; rfl, D3.mut hS.1 hS.2, (K2.trans K3).mut nS0⟩
      · rintro H2 ⟨ss, h2, l2, D2, K2⟩
        exact ⟨S, ss, rfl, h2, l2, hS.1, hS.2, D2, K2⟩
    clear D1 K1 H1
    rintro σ' H1 ⟨S, ss, rfl, hSs, lS, hS1, hS2, D1, K1⟩
    -- ties = []
    refine ⟨Nat.zero_le _, fun L nL => ?_⟩
    have hLd := D1.ned nL
    have nL0 := K1.free nL hLd.1 hLd.2
    have hLS : S ≠ L := ne_of_none hSs nL
    have s1 : Same H1 (upd H1 L (.lst [])) := same_new nL
    have hL1 : (upd H1 L (.lst [])) L = some (.lst []) := upd_same
    have K1' : Kp d c H (upd H1 L (.lst [])) := K1.trans (Kp.new nL)
    have D1' := D1.same s1
    have hS1' := s1 _ _ hSs
    generalize upd H1 L (.lst []) = H2 at s1 hL1 K1' D1' hS1'
    -- how many
    refine ⟨.ref d, rfl, d, c, 10, rfl, D1', by decide, by decide, fun v H3 a3 b3 D3 K3 => ?_⟩
    refine ⟨.int k, rfl, k, 1, rfl, rfl, .inr ⟨_, rfl, v, _, rfl, rfl, .inl ⟨by omega, by omega⟩, _, rfl, ?_, ?_, ?_⟩⟩
    · by_cases hb : decide ((1 : Int) < k) = true
      · rw [hb]
        show -(2 ^ 62) ≤ v * 1
        omega
      · rw [Bool.not_eq_true] at hb
        rw [hb]
        show -(2 ^ 62) ≤ v * 0
        omega
    · by_cases hb : decide ((1 : Int) < k) = true
      · rw [hb]
        show v * 1 < 2 ^ 62
        omega
      · rw [Bool.not_eq_true] at hb
        rw [hb]
        show v * 0 < 2 ^ 62
        omega
    generalize hN : (v * (if decide ((1 : Int) < k) = true then 1 else 0)).toNat = N
    have hN2 : N ≤ 9 ∧ (0 < N → (1 : Int) < k) := by
      by_cases hb : (1 : Int) < k
      · rw [if_pos (decide_eq_true hb)] at hN
        exact ⟨by omega, fun _ => hb⟩
      · rw [if_neg (by simpa using hb)] at hN
        exact ⟨by omega, fun z => by omega⟩
    have K3' : Kp d c H H3 := K1'.trans K3
    have hL3 : H3 L = some (.lst []) := K3 _ _ hLd.1 hLd.2 hL1
    have hS3 : H3 S = some (.lst (ss.map V.int)) := K3 _ _ hS1 hS2 hS1'
    refine for_range (lo := 0) (n := N) (fun i σ' H' => ∃ (y7 y8 y9 y10 y11 : Option V) (vs : List V) (ts : List Tie), σ' = [some (.ref d), some (.int k), some (.bl t), some (.ref S), none, some (.ref L), y7, y8, y9, y10, y11] ∧ H' L = some (.lst vs) ∧ H' S = some (.lst (ss.map V.int)) ∧ Paired (TieV H') vs ts ∧ ts.length = i ∧ (∀ t ∈ ts, TieOk k t) ∧ Deck H' d c ∧ Kp d c H H') ?_ ?_ ?_
    · exact ⟨none, none, none, none, none, [], [], rfl, hL3, hS3, .nil, rfl, fun t ht => by simp at ht, D3, K3'⟩
    · clear K3' hL3 hS3 D3 K3
      rintro i σ' H4 hi ⟨y7, y8, y9, y10, y11, vs, ts, rfl, hL, hSs, hP, hlen, hok, D4, K4⟩
      have hn := hN2.2 (by omega)
      refine ⟨.ref d, rfl, .int k, rfl, d, c, k, rfl, D4, by omega, by omega, fun v1 H5 a1 b1 D5 K5 => ?_⟩
      refine ⟨.int v1, rfl, v1, 1, rfl, rfl, .ref d, rfl, .int k, rfl, k, 1, rfl, rfl, d, c, k - 1, rfl, D5, by omega, by omega, fun v2 H6 a2 b2 D6 K6 => ⟨v1 + 1, v2, rfl, rfl, .int k, rfl, _, k, rfl, rfl, show (0 : Int) < k by omega, ?_⟩⟩
      have hL6 : H6 L = some (.lst vs) := K6 _ _ hLd.1 hLd.2 (K5 _ _ hLd.1 hLd.2 hL)
      have hS6 : H6 S = some (.lst (ss.map V.int)) := K6 _ _ hS1 hS2 (K5 _ _ hS1 hS2 hSs)
      have hP6 : Paired (TieV H6) vs ts := ties_tk ((K5.tk D4).trans (K6.tk D5)) hP
      have K46 : Kp d c H H6 := (K4.trans K5).trans K6
      -- as one ahead, the other way about
      refine ⟨fun σ' H' => ∃ (y7 y10 y11 : Option V) (t' : Tie), σ' = [some (.ref d), some (.int k), some (.bl t), some (.ref S), none, some (.ref L), y7, some (.int t'.one), some (.int t'.other), y10, y11] ∧ TieOk k t' ∧ H' L = some (.lst vs) ∧ H' S = some (.lst (ss.map V.int)) ∧ Paired (TieV H') vs ts ∧ Deck H' d c ∧ Kp d c H H', ?_, ?_⟩
      · have ok1 : TieOk k ⟨v1, (v1 + 1 + v2) % k, false⟩ := ⟨a1, b1, (mod_rng (by omega)).1, (mod_rng (by omega)).2, other_ne a1 b1 a2 b2⟩
        refine ⟨.ref L, rfl, Nat.zero_le _, fun p np => ⟨L, p, vs, rfl, rfl, SqL.of (same_new np _ _ hL6), SqL.of upd_same, _, rfl, ?_⟩⟩
        by_cases hvs : vs = []
        · subst hvs
          exact ⟨_, _, _, ⟨v1, (v1 + 1 + v2) % k, false⟩, rfl, ok1, same_new np _ _ hL6, same_new np _ _ hS6, ties_tk (Same.tk (same_new np)) hP6, D6.new np, K46.trans (Kp.new np)⟩
        · have hpos : 0 < vs.length := List.length_pos_iff.mpr hvs
          have hb : (!vs.isEmpty) = true := by
            cases vs with
            | nil => exact absurd rfl hvs
            | cons z zs => rfl
          rw [hb]
          refine ⟨.ref d, rfl, d, c, 4, rfl, D6.new np, by decide, by decide, fun v3 H7 a3 b3 D7 K7 => ⟨rfl, _, rfl, ?_⟩⟩
          have hL7 : H7 L = some (.lst vs) := K7 _ _ hLd.1 hLd.2 (same_new np _ _ hL6)
          have hS7 : H7 S = some (.lst (ss.map V.int)) := K7 _ _ hS1 hS2 (same_new np _ _ hS6)
          have hP7 : Paired (TieV H7) vs ts := ties_tk (K7.tk (D6.new np)) (ties_tk (Same.tk (same_new np)) hP6)
          have K17 : Kp d c H H7 := (K46.trans (Kp.new np)).trans K7
          refine ite2 (fun _ => ?_) (fun _ => ?_)
          · have hlv : vs.length = ts.length := Paired.length hP7
            refine ⟨.ref L, rfl, .ref d, rfl, .ref L, rfl, L, vs, rfl, .inl (SqL.of hL7), d, c, vs.length, rfl, D7, by omega, by omega, fun v4 H8 a4 b4 D8 K8 => ?_⟩
            have hL8 : H8 L = some (.lst vs) := K8 _ _ hLd.1 hLd.2 hL7
            have hP8 : Paired (TieV H8) vs ts := ties_tk (K8.tk D7) hP7
            obtain ⟨v, e1, e2⟩ := getI a4 b4
            obtain ⟨t', e3, a, rfl, e4⟩ := Paired.at hP8 e2
            have okt : TieOk k t' := hok t' (List.mem_of_getElem? e3)
            refine ⟨L, vs, v4, _, rfl, rfl, SqL.of hL8, e1, a, _, rfl, SqT.of e4, rfl, _, _, rfl, _, _, rfl, _, _, rfl, rfl, ?_⟩
            exact ⟨_, _, _, ⟨t'.other, t'.one, false⟩, rfl, ⟨okt.2.2.1, okt.2.2.2.1, okt.1, okt.2.1, Ne.symm okt.2.2.2.2⟩, hL8, K8 _ _ hS1 hS2 hS7, hP8, D8, K17.trans K8⟩
          · exact ⟨_, _, _, ⟨v1, (v1 + 1 + v2) % k, false⟩, rfl, ok1, hL7, hS7, hP7, D7, K17⟩
      clear hL6 hS6 hP6 K46 D6 K6 K5 D5
      rintro σ' H6 ⟨y7', y10', y11', t', rfl, okt, hL6, hS6, hP6, D6, K6⟩
      -- foe
      refine ⟨fun σ' H' => H' = H6 ∧ ∃ (y7 y10 : Option V) (fo : Bool), σ' = [some (.ref d), some (.int k), some (.bl t), some (.ref S), none, some (.ref L), y7, some (.int t'.one), some (.int t'.other), y10, some (.int (if fo = true then 1 else 0))], ?_, ?_⟩
      · obtain ⟨x1, _, _, g1⟩ := atI_ints (xs := ss) okt.1 (by rw [lS]; exact okt.2.1)
        obtain ⟨x2, _, _, g2⟩ := atI_ints (xs := ss) okt.2.2.1 (by rw [lS]; exact okt.2.2.2.1)
        exact ⟨.ref S, rfl, .int t'.one, rfl, S, _, _, _, rfl, rfl, SqL.of hS6, g1, .ref S, rfl, .int t'.other, rfl, S, _, _, _, rfl, rfl, SqL.of hS6, g2, rfl, .inr ⟨_, rfl, rfl, _, _, _, rfl⟩⟩
      rintro σ' H7 ⟨rfl, y7'', y10'', fo, rfl⟩
      refine ⟨fun σ' H' => ∃ (y7 y10 : Option V) (fo : Bool), σ' = [some (.ref d), some (.int k), some (.bl t), some (.ref S), none, some (.ref L), y7, some (.int t'.one), some (.int t'.other), y10, some (.int (if fo = true then 1 else 0))] ∧ H' L = some (.lst vs) ∧ H' S = some (.lst (ss.map V.int)) ∧ Paired (TieV H') vs ts ∧ Deck H' d c ∧ Kp d c H H', ?_, ?_⟩
      · have fin : ∀ H8 : Hp, H8 L = some (.lst vs) → H8 S = some (.lst (ss.map V.int)) → Paired (TieV H8) vs ts → Deck H8 d c → Kp d c H H8 → tCall spDraw [] E0 (tCons (tVar 0) (tCons (fun _ H Q => Q (.int 2) H) tNil)) [some (.ref d), some (.int k), some (.bl t), some (.ref S), none, some (.ref L), y7'', some (.int t'.one), some (.int t'.other), y10'', some (.int (if fo = true then 1 else 0))] H8 fun v H' => ∃ (y7 y10 : Option V) (fo : Bool), [some (.ref d), some (.int k), some (.bl t), some (.ref S), none, some (.ref L), y7'', some (.int t'.one), some (.int t'.other), y10'', some v] = [some (.ref d), some (.int k), some (.bl t), some (.ref S), none, some (.ref L), y7, some (.int t'.one), some (.int t'.other), y10, some (.int (if fo = true then 1 else 0))] ∧ H' L = some (.lst vs) ∧ H' S = some (.lst (ss.map V.int)) ∧ Paired (TieV H') vs ts ∧ Deck H' d c ∧ Kp d c H H' := fun H8 e1 e2 e3 e4 e5 => by
          refine ⟨.ref d, rfl, d, c, 2, rfl, e4, by decide, by decide, fun v9 H9 a9 b9 D9 K9 => ⟨y7'', y10'', decide (v9 = 1), ?_, K9 _ _ hLd.1 hLd.2 e1, K9 _ _ hS1 hS2 e2, ties_tk (K9.tk e4) e3, D9, e5.trans K9⟩⟩
          have h01 : v9 = 0 ∨ v9 = 1 := by omega
          rcases h01 with e | e <;> subst e <;> rfl
        refine ⟨.bl t, rfl, t, rfl, ?_⟩
        cases t
        · exact fin _ hL6 hS6 hP6 D6 K6
        · refine ⟨.ref d, rfl, d, c, 16, rfl, D6, by decide, by decide, fun v8 H8 a8 b8 D8 K8 => ⟨rfl, _, rfl, ?_⟩⟩
          have q1 := K8 _ _ hLd.1 hLd.2 hL6
          have q2 := K8 _ _ hS1 hS2 hS6
          have q3 := ties_tk (K8.tk D6) hP6
          refine ite2 (fun _ => ?_) (fun _ => ?_)
          · exact fin _ q1 q2 q3 D8 (K6.trans K8)
          · exact ⟨_, _, fo, rfl, q1, q2, q3, D8, K6.trans K8⟩
      clear hL6 hS6 hP6 D6 K6
      rintro σ' H6 ⟨y7a, y10a, fo, rfl, hL6, hS6, hP6, D6, K6⟩
      -- append
      refine ⟨.ref L, rfl, .inl ⟨rfl, _, SqL.of hL6⟩, .int t'.one, rfl, .int t'.other, rfl, by show 2 ≤ sizeLine; decide, fun p np => ?_⟩
      have e5 : atI [V.str "friend", V.str "foe"] (if fo = true then 1 else 0) = some (.str (kindS fo)) := by cases fo <;> rfl
      refine ⟨_, rfl, p, _, _, _, rfl, rfl, SqL.of upd_same, e5, by show 3 ≤ sizeLine; decide, fun q2 nq => ?_⟩
      have hL7 : (upd (upd H6 p (.lst [.str "friend", .str "foe"])) q2 (.tup [.int t'.one, .int t'.other, .str (kindS fo)])) L = some (.lst vs) := same_new nq _ _ (same_new np _ _ hL6)
      have hP7 := ties_tk (Same.tk (same_new (o := .tup [.int t'.one, .int t'.other, .str (kindS fo)]) nq)) (ties_tk (Same.tk (same_new (o := .lst [.str "friend", .str "foe"]) np)) hP6)
      have hlv : vs.length = ts.length := Paired.length hP6
      refine ⟨L, vs, _, rfl, rfl, hL7, small1000 (by omega), ?_⟩
      refine ⟨_, _, _, _, _, vs ++ [.ref q2], ts ++ [⟨t'.one, t'.other, fo⟩], rfl, upd_same, by rw [upd_ne hLS]; exact same_new nq _ _ (same_new np _ _ hS6), Paired.snoc (ties_tk (tk_lst hL7) hP7) ⟨q2, rfl, tk_lst hL7 _ _ upd_same⟩, by rw [List.length_append, hlen]; rfl, fun t2 ht => ?_, ((D6.new np).new nq).mut hLd.1 hLd.2, ((K6.trans (Kp.new np)).trans (Kp.new nq)).mut nL0⟩
      rcases List.mem_append.mp ht with h | h
      · exact hok t2 h
      · rw [List.mem_singleton.mp h]
        exact okt
    · rintro σ' H4 ⟨y7, y8, y9, y10, y11, vs, ts, rfl, hL, hSs, hP, hlen, hok, D4, K4⟩
      refine ⟨.int k, rfl, .ref L, rfl, L, vs, rfl, .inl ⟨SqL.of hL, fun b nb => ⟨by show 2 ≤ sizeLine; decide, fun a na => ?_⟩⟩⟩
      have s2 := (same_new (o := .tup vs) nb).trans (same_new (o := .tup [.int k, .ref b]) na)
      exact q _ k ts _ ⟨a, b, vs, rfl, upd_same, same_new na _ _ upd_same, ties_tk (Same.tk s2) hP⟩ ⟨hn1, by omega, by omega, hok⟩ (by omega) (by omega) (D4.same s2) (K4.trans (Same.kp s2))
end
/-! ### k14: broken ties, told by the law; all sides -/
theorem ne_brk14 (ss : List Int) (t : Tie) : (!decide (V.bl (decide (V.int (sd ss t.one) = V.int (sd ss t.other))) = V.bl (decide (V.str (kindS t.foe) = V.str "friend")))) = brk ss t := by
  unfold brk
  by_cases h : sd ss t.one = sd ss t.other
  · rw [decide_eq_true (show V.int (sd ss t.one) = V.int (sd ss t.other) by rw [h]), decide_eq_true h]
    cases t.foe <;> decide
  · rw [decide_eq_false (fun z => h (V.int.inj z)), decide_eq_false h]
    cases t.foe <;> decide
def spAllSides : Sp := fun vs H Q _ => ∃ (n : Nat), vs = [.int n] ∧ n ≤ 5 ∧ ∀ (L : Addr) (xs : List V) (H' : Hp), H' L = some (.lst xs) → (∀ x ∈ xs, ∃ a ss, x = .ref a ∧ H' a = some (.tup (ss.map V.int)) ∧ ss.length = n ∧ Bin ss) → Same H H' → Q (.ref L) H'
def SdV (H : Hp) (n : Nat) (x : V) : Prop := ∃ a ss, x = .ref a ∧ H a = some (.tup (ss.map V.int)) ∧ ss.length = n ∧ Bin ss
theorem SdV.tk {H H' : Hp} (k : Tk H H') {n : Nat} {x : V} (h : SdV H n x) : SdV H' n x := by
  obtain ⟨a, ss, e, h, l, b⟩ := h
  exact ⟨a, ss, e, k _ _ h, l, b⟩
section
variable {P : Program} {w : World} {K : PySem.W.Frag} {mg : Str → Option Value} {base : Heap}
set_option maxHeartbeats 1000000 in
theorem ok_l_broken {f : Addr} {fd : FuncData} (F : Fun K "_law_broken" "_law_broken" s_l_broken f fd) (M : Free mg) : FnOk P w K mg base CX0 1 f fd ["_law_web_here", "_law_sides"] spBroken := by
  refine F.ok sc_l_broken (fun vs H Q E h => ?_) (fun cdv A outer s H vs Q E hr h => ?_)
  · obtain ⟨v, a, n, ts, ss, rfl, _⟩ := h
    rfl
  · obtain ⟨v, a, n, ts, ss, rfl, hW, ok, ha, hl, q⟩ := h
    refine ⟨_, (pss_cons (ps_set (i := 2) sc_l_broken.nd rfl (.inl rfl) (pe_lst pa_nil))
      (pss_cons (ps_for PassesOwn.never rfl (pi_range1 (by rfl) M.range (pa_cons (pe_callB call_len_seq (by rfl) M.len PySem.boot_len (pa_cons (pe_ix ix_tup (pv 0) pe_int (fun _ _ => rfl)) pa_nil)) pa_nil)) (pg_name (i := 3) sc_l_broken.nd rfl (.inl rfl))
        (pss_cons (ps_asg (pe_ix ix_tup (pe_ix ix_tup (pv 0) pe_int (fun _ _ => rfl)) (pv 3) (fun _ _ => rfl)) (pg_tup rfl (pgs_cons (pg_name (i := 4) sc_l_broken.nd rfl (.inl rfl)) (pgs_cons (pg_name (i := 5) sc_l_broken.nd rfl (.inl rfl)) (pgs_cons (pg_name (i := 6) sc_l_broken.nd rfl (.inl rfl)) pgs_nil)))))
        (pss_one (ps_if (pt_cmpR op_ne (pe_cmpR op_eq (pe_ix ix_tup (pv 1) (pv 4) (fun _ _ => rfl)) (pe_ix ix_tup (pv 1) (pv 5) (fun _ _ => rfl)) (nomark _)) (pe_cmpR op_eq (pv 6) pe_str (nomark _)) (nomark _))
          (pss_one (ps_expr (pe_bm PySem.F.plainAttrs_list PySem.F.slot_list_append PySem.F.type_list_append mt_append (pv 2) (pa_cons (pv 3) pa_nil))))
          pss_nil))))
      (pss_one (ps_ret (pe_callTy call_tuple_of (by rfl) M.tuple (by decide +kernel) (pa_cons (pv 2) pa_nil)))))), ?_⟩
    have n1 := ok.lo
    have n40 := ok.hi
    have few := ok.few
    obtain ⟨wa, wb, us, rfl, hwa, hwb, hp⟩ := id hW
    have hul : us.length = ts.length := Paired.length hp
    refine ⟨by show 0 ≤ sizeLine; decide, fun Z nZ => ?_⟩
    have sZ := same_new (o := .lst []) nZ
    refine ⟨.ref wa, rfl, wa, _, 1, .ref wb, rfl, rfl, SqT.of (sZ _ _ hwa), rfl, wb, us, rfl, .inr (SqT.of (sZ _ _ hwb)), _, rfl, by omega, by omega, ?_⟩
    rw [Int.toNat_natCast]
    refine for_range (lo := 0) (n := us.length) (fun i σ' H' => ∃ y3 y4 y5 y6 : Option V, σ' = [some (.ref wa), some (.ref a), some (.ref Z), y3, y4, y5, y6] ∧ H' Z = some (.lst ((badTo ss ts i).map V.int)) ∧ Same H H') ⟨_, _, _, _, rfl, upd_same, sZ⟩ ?_ ?_
    · rintro i σ' H1 hi ⟨y3, y4, y5, y6, rfl, hZ, s1⟩
      rw [show (0 : Int) + (i : Nat) = i from by omega]
      have et := List.getElem?_eq_getElem (show i < ts.length by omega)
      generalize ts[i]'(by omega) = t at et
      obtain ⟨u, eu, tc, rfl, htc⟩ := Paired.at' hp et
      obtain ⟨o1, o2, o3, o4, _⟩ := ok.ok t (List.mem_of_getElem? et)
      have etA : tieAt ts (i : Int) = t := by
        unfold tieAt
        rw [Int.toNat_natCast, List.getD_eq_getElem?_getD, et]
        rfl
      refine ⟨.ref wa, rfl, wa, _, 1, .ref wb, rfl, rfl, SqT.of (s1 _ _ hwa), rfl, .int i, rfl, wb, us, i, .ref tc, rfl, rfl, SqT.of (s1 _ _ hwb), atI_nat eu, tc, _, rfl, SqT.of (s1 _ _ htc), rfl, _, _, rfl, _, _, rfl, _, _, rfl, rfl, ?_⟩
      refine ⟨.ref a, rfl, .int t.one, rfl, a, _, _, _, rfl, rfl, SqT.of (s1 _ _ ha), atI_sd o1 (by omega), .ref a, rfl, .int t.other, rfl, a, _, _, _, rfl, rfl, SqT.of (s1 _ _ ha), atI_sd o3 (by omega), rfl, .str (kindS t.foe), rfl, rfl, rfl, _, rfl, ?_⟩
      rw [ne_brk14, badTo_succ, etA]
      have lb : (badTo ss ts i).length ≤ i := badTo_len ss ts i
      by_cases hb : brk ss t = true
      · rw [hb]
        refine ⟨.ref Z, rfl, .inl ⟨rfl, _, SqL.of hZ⟩, .int i, rfl, Z, _, _, rfl, rfl, hZ, by rw [List.length_map]; exact small1000 (by omega), ?_⟩
        exact ⟨_, _, _, _, rfl, by rw [upd_same, if_pos rfl, List.map_append]; rfl, Same.mut s1 nZ⟩
      · rw [Bool.not_eq_true] at hb
        rw [hb]
        exact ⟨_, _, _, _, rfl, by rw [if_neg (by decide), List.append_nil]; exact hZ, s1⟩
    · rintro σ' H1 ⟨y3, y4, y5, y6, rfl, hZ, s1⟩
      rw [hul] at hZ
      exact ⟨.ref Z, rfl, Z, _, rfl, .inl ⟨SqL.of hZ, fun r nr => q r _ (s1.trans (same_new nr)) upd_same⟩⟩
set_option maxHeartbeats 2000000 in
theorem ok_l_all_sides {f : Addr} {fd : FuncData} (F : Fun K "_law_all_sides" "_law_all_sides" s_l_all_sides f fd) (M : Free mg) : FnOk P w K mg base CX0 1 f fd ["_law_many"] spAllSides := by
  refine F.ok sc_l_all_sides (fun vs H Q E h => ?_) (fun cdv A outer s H vs Q E hr h => ?_)
  · obtain ⟨n, rfl, _⟩ := h
    rfl
  · obtain ⟨n, rfl, n5, q⟩ := h
    refine ⟨_, (pss_cons (ps_set (i := 1) sc_l_all_sides.nd rfl (.inl rfl) (pe_lst (pa_cons (pe_tup pa_nil) pa_nil)))
      (pss_cons (ps_for PassesOwn.never rfl (pi_range1 (by rfl) M.range (pa_cons (pv 0) pa_nil)) (pg_name (i := 2) sc_l_all_sides.nd rfl (.inl rfl))
        (pss_one (ps_set (i := 1) sc_l_all_sides.nd rfl (.inl rfl) (pe_op op_cat (pe_lc (own := [("_law_sides", 3)]) (g := (gName 3)) (tt := tYes) rfl sc_l_all_sides.nd (pi_list (pv 1)) (blkOk_by (N := N_l_all_sides) (sc := defScope s_l_all_sides) (own := [("_law_sides", 3)]) (by decide +kernel)) (fun _ _ _ _ _ => (pg_name (i := 3) sc_l_all_sides.nd rfl (.inl rfl))) (fun _ _ _ _ _ => pts_nil) (fun _ _ _ _ _ => (pe_op op_catU (pv 3) (pe_tup (pa_cons pe_int pa_nil))))) (pe_lc (own := [("_law_sides", 3)]) (g := (gName 3)) (tt := tYes) rfl sc_l_all_sides.nd (pi_list (pv 1)) (blkOk_by (N := N_l_all_sides) (sc := defScope s_l_all_sides) (own := [("_law_sides", 3)]) (by decide +kernel)) (fun _ _ _ _ _ => (pg_name (i := 3) sc_l_all_sides.nd rfl (.inl rfl))) (fun _ _ _ _ _ => pts_nil) (fun _ _ _ _ _ => (pe_op op_catU (pv 3) (pe_tup (pa_cons pe_int pa_nil)))))))))
      (pss_one (ps_ret (pv 1))))), ?_⟩
    refine ⟨by show 0 ≤ sizeLine; decide, fun e0 ne => ⟨by show 1 ≤ sizeLine; decide, fun L0 nL => ?_⟩⟩
    have se := same_new (o := .tup []) ne
    have sL := same_new (o := .lst [.ref e0]) nL
    refine ⟨.int n, rfl, n, rfl, by omega, by omega, ?_⟩
    rw [Int.toNat_natCast]
    refine for_range (lo := 0) (n := n) (fun i σ' H' => ∃ (y2 : Option V) (L : Addr) (xs : List V), σ' = [some (.int n), some (.ref L), y2, none] ∧ H' L = some (.lst xs) ∧ xs.length = 2 ^ i ∧ (∀ x ∈ xs, SdV H' i x) ∧ Same H H') ⟨_, L0, [.ref e0], rfl, upd_same, rfl, fun x hx => ⟨e0, [], by rw [List.mem_singleton.mp hx], sL _ _ upd_same, rfl, fun y hy => by cases hy⟩, se.trans sL⟩ ?_ ?_
    · rintro i σ' H1 hi ⟨y2, L, xs, rfl, hL, lx, hx, s1⟩
      have l32 : xs.length ≤ 16 := by
        rw [lx]
        have : 2 ^ i ≤ 2 ^ 4 := Nat.pow_le_pow_right (by decide) (by omega)
        exact this
      have half : ∀ (H2 : Hp) (b : Int), (b = 0 ∨ b = 1) → Same H1 H2 → ∀ (Z : Addr), H2 Z = none → ∀ (k : Nat) (x : V) (H3 : Hp), xs[k]? = some x → (∃ zs : List V, H3 Z = some (.lst zs) ∧ zs.length = k ∧ (∀ z ∈ zs, SdV H3 (i + 1) z) ∧ Same H2 H3) → ∃ a ss, x = .ref a ∧ H3 a = some (.tup (ss.map V.int)) ∧ ss.length ≤ 5 ∧ ∃ zs : List V, H3 Z = some (.lst zs) ∧ zs.length = k ∧ (∀ z ∈ zs, SdV H3 (i + 1) z) ∧ Same H2 H3 ∧ ∀ (r : Addr) (H4 : Hp), Same H3 H4 → H4 r = some (.tup ((ss ++ [b]).map V.int)) → ∃ zs' : List V, upd H4 Z (.lst (zs ++ [.ref r])) Z = some (.lst zs') ∧ zs'.length = k + 1 ∧ (∀ z ∈ zs', SdV (upd H4 Z (.lst (zs ++ [.ref r]))) (i + 1) z) ∧ Same H2 (upd H4 Z (.lst (zs ++ [.ref r]))) := fun H2 b hb s12 Z nZ k x H3 ex ⟨zs, hZ, lz, hz, s23⟩ => by
        obtain ⟨a, ss, rfl, ha, ls, bs⟩ := hx x (List.mem_of_getElem? ex)
        refine ⟨a, ss, rfl, s23 _ _ (s12 _ _ ha), by omega, zs, hZ, lz, hz, s23, fun r H4 s34 hr => ?_⟩
        have hZ4 := s34 _ _ hZ
        have tk := tk_lst (ys := zs ++ [V.ref r]) hZ4
        refine ⟨_, upd_same, by rw [List.length_append, lz]; rfl, fun z hzm => ?_, Same.mut (s23.trans s34) nZ⟩
        rcases List.mem_append.mp hzm with h | h
        · exact ((hz z h).tk (Same.tk s34)).tk tk
        · rw [List.mem_singleton.mp h]
          refine ⟨r, ss ++ [b], rfl, tk _ _ hr, by rw [List.length_append, ls]; rfl, fun y hy => ?_⟩
          rcases List.mem_append.mp hy with h | h
          · exact bs y h
          · rw [List.mem_singleton.mp h]
            exact hb
      refine ⟨.ref L, rfl, L, rfl, ⟨_, SqL.of hL⟩, fun Z1 nZ1 => ?_⟩
      refine lc_list (K := K) (xs := xs) (fun k H' => ∃ zs : List V, H' Z1 = some (.lst zs) ∧ zs.length = k ∧ (∀ z ∈ zs, SdV H' (i + 1) z) ∧ Same H1 H') ⟨[], upd_same, rfl, (fun z hz => by cases hz), same_new nZ1⟩ (fun k H' _ h => by
        obtain ⟨_, _, _, _, s⟩ := h
        exact SqL.of (s _ _ hL)) ?_ ?_
      · intro k x H3 ex inv
        have lk := (List.getElem?_eq_some_iff.mp ex).1
        obtain ⟨a, ss, rfl, ha, ls, zs, hZ, lz, hz, s23, fin⟩ := half H1 0 (.inl rfl) (Same.refl _) Z1 nZ1 k x H3 ex inv
        refine ⟨rfl, .ref a, rfl, by show 1 ≤ sizeLine; decide, fun o no => ⟨a, o, _, _, rfl, rfl, same_new no _ _ ha, upd_same, by rw [List.length_map]; show ss.length + 1 ≤ 100000; omega, fun r H4 s4 h4 => ?_⟩⟩
        have s34 := (same_new (o := .tup [.int 0]) no).trans s4
        exact ⟨zs, s34 _ _ hZ, small1000 (by omega), fin r H4 s34 (by rw [h4, List.map_append]; rfl)⟩
      rintro H3 ⟨zs1, hZ1, lz1, hz1, s13⟩
      refine ⟨.ref L, rfl, L, rfl, ⟨_, SqL.of (s13 _ _ hL)⟩, fun Z2 nZ2 => ?_⟩
      refine lc_list (K := K) (xs := xs) (fun k H' => ∃ zs : List V, H' Z2 = some (.lst zs) ∧ zs.length = k ∧ (∀ z ∈ zs, SdV H' (i + 1) z) ∧ Same H3 H') ⟨[], upd_same, rfl, (fun z hz => by cases hz), same_new nZ2⟩ (fun k H' _ h => by
        obtain ⟨_, _, _, _, s⟩ := h
        exact SqL.of (s _ _ (s13 _ _ hL))) ?_ ?_
      · intro k x H4 ex inv
        have lk := (List.getElem?_eq_some_iff.mp ex).1
        obtain ⟨a, ss, rfl, ha, ls, zs, hZ, lz, hz, s23, fin⟩ := half H3 1 (.inr rfl) s13 Z2 nZ2 k x H4 ex inv
        refine ⟨rfl, .ref a, rfl, by show 1 ≤ sizeLine; decide, fun o no => ⟨a, o, _, _, rfl, rfl, same_new no _ _ ha, upd_same, by rw [List.length_map]; show ss.length + 1 ≤ 100000; omega, fun r H5 s5 h5 => ?_⟩⟩
        have s34 := (same_new (o := .tup [.int 1]) no).trans s5
        exact ⟨zs, s34 _ _ hZ, small1000 (by omega), fin r H5 s34 (by rw [h5, List.map_append]; rfl)⟩
      rintro H4 ⟨zs2, hZ2, lz2, hz2, s34⟩
      refine ⟨Z1, Z2, _, _, rfl, rfl, s34 _ _ hZ1, hZ2, Nat.le_of_lt (small1000 (by omega)), fun Z3 nZ3 => ?_⟩
      have s45 := same_new (o := .lst (zs1 ++ zs2)) nZ3
      refine ⟨_, Z3, _, rfl, upd_same, by rw [List.length_append, lz1, lz2, lx, Nat.pow_succ]; omega, fun x hxm => ?_, s1.trans (s13.trans (s34.trans s45))⟩
      rcases List.mem_append.mp hxm with h | h
      · exact ((hz1 x h).tk (Same.tk s34)).tk (Same.tk s45)
      · exact (hz2 x h).tk (Same.tk s45)
    · rintro σ' H1 ⟨y2, L, xs, rfl, hL, lx, hx, s1⟩
      exact ⟨.ref L, rfl, q L xs H1 hL hx s1⟩
end
/-! ### k14: the first places -/
def spFirsts : Sp := fun vs H Q _ => ∃ (v : V) (n : Nat) (ts : List Tie), vs = [v] ∧ WebAt H v n ts ∧ WebOk n ts ∧ ∀ (L : Addr) (ps : List Int) (H' : Hp), H' L = some (.lst (ps.map V.int)) → ps.length ≤ 40 → (∀ p ∈ ps, (0 ≤ p ∧ p < n) ∧ leader ts p) → Same H H' → Q (.ref L) H'
section
variable {P : Program} {w : World} {K : PySem.W.Frag} {mg : Str → Option Value} {base : Heap}
set_option maxHeartbeats 2000000 in
theorem ok_l_firsts {f : Addr} {fd : FuncData} (F : Fun K "_law_firsts" "_law_firsts" s_l_firsts f fd) (M : Free mg) (m_max : mg "max" = none) (m_min : mg "min" = none) : FnOk P w K mg base CX0 1 f fd ["_law_web_here"] spFirsts := by
  refine F.ok sc_l_firsts (fun vs H Q E h => ?_) (fun cdv A outer s H vs Q E hr h => ?_)
  · obtain ⟨v, n, ts, rfl, _⟩ := h
    rfl
  · obtain ⟨v, n, ts, rfl, hW, ok, q⟩ := h
    refine ⟨_, (pss_cons (ps_set (i := 1) sc_l_firsts.nd rfl (.inr rfl) (pe_listRg rfl (by rfl) M.list (prg_1 (by rfl) M.range (pe_ix ix_tup (pv 0) pe_int (fun _ _ => rfl)))))
      (pss_cons (ps_for PassesOwn.never rfl (pi_tup (pe_ix ix_tup (pv 0) pe_int (fun _ _ => rfl))) (pg_tup rfl (pgs_cons (pg_name (i := 2) sc_l_firsts.nd rfl (.inl rfl)) (pgs_cons (pg_name (i := 3) sc_l_firsts.nd rfl (.inl rfl)) (pgs_cons (pg_name (i := 4) sc_l_firsts.nd rfl (.inl rfl)) pgs_nil))))
        (pss_cons (ps_set (i := 5) sc_l_firsts.nd rfl (.inr rfl) (pe_callB (call_min2 rfl) (by rfl) m_min (by decide +kernel) (pa_cons (pe_ix ix_list (pv 1) (pv 2) (fun _ _ => rfl)) (pa_cons (pe_ix ix_list (pv 1) (pv 3) (fun _ _ => rfl)) pa_nil))))
        (pss_cons (ps_set (i := 6) sc_l_firsts.nd rfl (.inr rfl) (pe_callB (call_max2 rfl) (by rfl) m_max (by decide +kernel) (pa_cons (pe_ix ix_list (pv 1) (pv 2) (fun _ _ => rfl)) (pa_cons (pe_ix ix_list (pv 1) (pv 3) (fun _ _ => rfl)) pa_nil))))
        (pss_one (ps_set (i := 1) sc_l_firsts.nd rfl (.inr rfl) (pe_lc (own := [("_law_group", 7)]) (g := (gName 7)) (tt := tYes) rfl sc_l_firsts.nd (pi_list (pv 1)) (blkOk_by (N := N_l_firsts) (sc := defScope s_l_firsts) (own := [("_law_group", 7)]) (by decide +kernel)) (fun _ _ _ _ _ => (pg_name (i := 7) sc_l_firsts.nd rfl (.inl rfl))) (fun _ _ _ _ _ => pts_nil) (fun _ _ _ _ _ => (pe_ix (r := rIxL K) ix_list (pe_lst (pa_cons (pv 7) (pa_cons (pv 5) pa_nil))) (pe_callTy call_int1 (by rfl) M.int (by decide +kernel) (pa_cons (pe_cmpR op_eq (pv 7) (pv 6) (nomark _)) pa_nil)) (fun _ _ => rfl)))))))))
      (pss_one (ps_ret (pe_lc (own := [("_law_place", 8)]) (g := (gName 8)) (te := tVar 8) rfl sc_l_firsts.nd (pi_range1 (by rfl) M.range (pa_cons (pe_ix ix_tup (pv 0) pe_int (fun _ _ => rfl)) pa_nil)) (blkOk_by (N := N_l_firsts) (sc := defScope s_l_firsts) (own := [("_law_place", 8)]) (by decide +kernel)) (fun _ _ _ _ _ => (pg_name (i := 8) sc_l_firsts.nd rfl (.inl rfl))) (fun _ _ _ _ _ => (pts_one (pt_cmpR op_eq (pe_ix (r := rIxL K) ix_list (pv 1) (pv 8) (fun _ _ => rfl)) (pv 8) (nomark _)))) (fun _ _ _ _ _ => (pv 8))))))), ?_⟩
    have n1 := ok.lo
    have n40 := ok.hi
    have few := ok.few
    obtain ⟨wa, wb, us, rfl, hwa, hwb, hp⟩ := id hW
    have hul : us.length = ts.length := Paired.length hp
    refine ⟨.ref wa, rfl, wa, _, 0, .int n, rfl, rfl, SqT.of hwa, rfl, n, rfl, RgOk.of_le (by omega) (by omega) (by omega) (by omega), fun G0 nG => ?_⟩
    have e0 : rgV 0 n = lf (fun i => i) n := by rw [rgV_ints]; rfl
    rw [e0]
    have s1 : Same H (upd H G0 (.lst (lf (fun i => i) n))) := same_new nG
    refine ⟨.ref wa, rfl, wa, _, 1, .ref wb, rfl, rfl, SqT.of (s1 _ _ hwa), rfl, wb, rfl, ⟨_, SqT.of (s1 _ _ hwb)⟩, ?_⟩
    refine for_tup (xs := us) (fun i σ' H' => ∃ (y2 y3 y4 y5 y6 : Option V) (G : Addr) (g sf : Int → Int) (good : Bool), σ' = [some (.ref wa), some (.ref G), y2, y3, y4, y5, y6, none, none] ∧ H' G = some (.lst (lf g n)) ∧ GS (ts.take i) n g sf good ∧ Same H H') ⟨none, none, none, none, none, G0, _, _, true, rfl, upd_same, GS.nil n, s1⟩ (fun i σ' H' _ h => by
      obtain ⟨_, _, _, _, _, _, _, _, _, _, _, _, s⟩ := h
      exact SqT.of (s _ _ hwb)) ?_ ?_
    · rintro i x σ' H1 ex ⟨y2, y3, y4, y5, y6, G, g, sf, good, rfl, hG, gs, s2⟩
      obtain ⟨t, et, tc, rfl, htc⟩ := Paired.at hp ex
      obtain ⟨o1, o2, o3, o4, o5⟩ := ok.ok t (List.mem_of_getElem? et)
      refine ⟨tc, _, rfl, SqT.of (s2 _ _ htc), rfl, _, _, rfl, _, _, rfl, _, _, rfl, rfl, ?_⟩
      refine ⟨.ref G, rfl, .int t.one, rfl, G, _, t.one, .int (g t.one), rfl, rfl, SqL.of hG, lf_at g o1 o2, .ref G, rfl, .int t.other, rfl, G, _, t.other, .int (g t.other), rfl, rfl, SqL.of hG, lf_at g o3 o4, _, _, rfl, ?_⟩
      refine ⟨.ref G, rfl, .int t.one, rfl, G, _, t.one, .int (g t.one), rfl, rfl, SqL.of hG, lf_at g o1 o2, .ref G, rfl, .int t.other, rfl, G, _, t.other, .int (g t.other), rfl, rfl, SqL.of hG, lf_at g o3 o4, _, _, rfl, ?_⟩
      obtain ⟨low, elow, hlow⟩ : ∃ low : Int, (if g t.other < g t.one then g t.other else g t.one) = low ∧ low = min (g t.one) (g t.other) := ⟨_, rfl, by split <;> omega⟩
      obtain ⟨high, ehigh, hhigh⟩ : ∃ high : Int, (if g t.other > g t.one then g t.other else g t.one) = high ∧ high = max (g t.one) (g t.other) := ⟨_, rfl, by split <;> omega⟩
      rw [elow, ehigh]
      refine ⟨.ref G, rfl, G, rfl, ⟨_, SqL.of hG⟩, fun Z nZ => ?_⟩
      refine lc_list (K := K) (xs := lf g n) (fun j H' => H' Z = some (.lst (((rng n).take j).map fun x => V.int (gNew g low high x))) ∧ Same H1 H') ⟨upd_same, same_new nZ⟩ (fun j H' _ h => SqL.of (h.2 _ _ hG)) ?_ ?_
      · rintro j x H2 ej ⟨hZ, s3⟩
        unfold lf at ej
        rw [List.getElem?_map] at ej
        obtain ⟨y, ey, rfl⟩ := Option.map_eq_some_iff.mp ej
        have jl := (List.getElem?_eq_some_iff.mp ey).1
        rw [rng_length] at jl
        refine ⟨rfl, .int (g y), rfl, .int low, rfl, by show 2 ≤ sizeLine; decide, fun p np => ?_⟩
        have sp := same_new (o := .lst [.int (g y), .int low]) np
        refine ⟨.int (g y), rfl, .int high, rfl, rfl, .inr ⟨_, rfl, ?_⟩⟩
        have pick : atI [V.int (g y), .int low] (if decide (V.int (g y) = V.int high) = true then 1 else 0) = some (.int (gNew g low high y)) := by
          have gv : gNew g low high y = if g y = high then low else g y := by
            unfold gNew
            by_cases h : g y = high
            · by_cases h2 : low < high
              · rw [if_pos ⟨h2, h⟩, if_pos h]
              · rw [if_neg (fun z => h2 z.1), if_pos h, h]
                omega
            · rw [if_neg (fun z => h z.2), if_neg h]
          rw [gv]
          by_cases h : g y = high
          · rw [decide_eq_true (show V.int (g y) = V.int high by rw [h]), if_pos h]; rfl
          · rw [decide_eq_false (fun z => h (V.int.inj z)), if_neg h]; rfl
        refine ⟨p, _, _, _, rfl, rfl, SqL.of upd_same, pick, _, sp _ _ hZ, by rw [List.length_map, List.length_take, rng_length]; exact small1000 (by omega), ?_, Same.mut (s3.trans sp) nZ⟩
        rw [upd_same, List.take_add_one, ey, List.map_append]
        rfl
      rintro H2 ⟨hZ, s3⟩
      rw [lf_len, List.take_of_length_le (by rw [rng_length]; exact Nat.le_refl _)] at hZ
      have okts : ∀ t ∈ ts.take i, TieOk n t := fun t ht => ok.ok t (List.mem_of_mem_take ht)
      have gs2 := gs.step okts (t := t) ⟨o1, o2, o3, o4, o5⟩ hlow hhigh rfl
      rw [show ts.take i ++ [t] = ts.take (i + 1) by rw [List.take_add_one, et]; rfl] at gs2
      exact ⟨_, _, _, _, _, Z, gNew g low high, _, _, rfl, hZ, gs2, s2.trans s3⟩
    · rintro σ' H1 ⟨y2, y3, y4, y5, y6, G, g, sf, good, rfl, hG, gs, s2⟩
      rw [hul, List.take_length] at gs
      refine ⟨.ref wa, rfl, wa, _, 0, .int n, rfl, rfl, SqT.of (s2 _ _ hwa), rfl, n, rfl, by omega, by omega, fun Z nZ => ?_⟩
      rw [Int.toNat_natCast]
      refine lc_range (lo := 0) (n := n) (fun j H' => ∃ ps : List Int, H' Z = some (.lst (ps.map V.int)) ∧ ps.length ≤ j ∧ (∀ p ∈ ps, (0 ≤ p ∧ p < n) ∧ leader ts p) ∧ Same H1 H') ⟨[], upd_same, Nat.le_refl _, (fun p hp => by cases hp), same_new nZ⟩ ?_ ?_
      · rintro j H2 hj ⟨ps, hZ, lp, ld, s3⟩
        rw [show (0 : Int) + (j : Nat) = j from by omega]
        refine ⟨rfl, .ref G, rfl, .int j, rfl, G, _, j, .int (g j), rfl, rfl, SqL.of (s3 _ _ hG), lf_at g (by omega) (by omega), .int j, rfl, rfl, _, rfl, ?_⟩
        by_cases e : g j = j
        · rw [decide_eq_true (show V.int (g j) = V.int j by rw [e])]
          refine ⟨.int j, rfl, _, hZ, by rw [List.length_map]; exact small1000 (by omega), ps ++ [(j : Int)], by rw [upd_same, List.map_append]; rfl, by rw [List.length_append]; simp only [List.length_cons, List.length_nil]; omega, fun p hp => ?_, Same.mut s3 nZ⟩
          rcases List.mem_append.mp hp with h | h
          · exact ld p h
          · rw [List.mem_singleton.mp h]
            refine ⟨⟨by omega, by omega⟩, ?_⟩
            have := gs.lead ok.ok (i := (j : Int)) (by omega) (by omega)
            rwa [e] at this
        · rw [decide_eq_false (fun z => e (V.int.inj z))]
          exact ⟨ps, hZ, by omega, ld, s3⟩
      · rintro H2 ⟨ps, hZ, lp, ld, s3⟩
        exact q Z ps H2 hZ (by omega) ld (s2.trans s3)
end
/-! ### k14: all rings -/
def wgt (p : List Int × List Int) : Nat := 10 ^ (5 - p.1.length)
def sumG (ps : List (List Int × List Int)) : Nat := (ps.map wgt).sum
theorem sumG_snoc (ps : List (List Int × List Int)) (p : List Int × List Int) : sumG (ps ++ [p]) = sumG ps + wgt p := by
  unfold sumG
  rw [List.map_append, List.sum_append]
  show _ + (wgt p + 0) = _
  rw [Nat.add_zero]
theorem wgt_pos (p : List Int × List Int) : 1 ≤ wgt p := Nat.pow_pos (by decide)
theorem sumG_len (ps : List (List Int × List Int)) : ps.length ≤ sumG ps := by
  induction ps with
  | nil => exact Nat.zero_le _
  | cons p ps ih =>
    have := wgt_pos p
    show ps.length + 1 ≤ wgt p + sumG ps
    omega
theorem rings_tk {H H' : Hp} (k : Tk H H') {vs : List V} {ps : List (List Int × List Int)} (h : Paired (fun v p => RingAt H v p.1 p.2) vs ps) : Paired (fun v p => RingAt H' v p.1 p.2) vs ps := L2.Paired.mapP h fun _ _ r => r.tk k
theorem Paired.unsnoc14 {α β : Type} {F : α → β → Prop} {a : α} : ∀ {l : List α} {m : List β}, Paired F (l ++ [a]) m → ∃ m' b, m = m' ++ [b] ∧ Paired F l m' ∧ F a b
  | [], _, .cons h .nil => ⟨[], _, rfl, .nil, h⟩
  | _ :: l, _, .cons h t => by
    obtain ⟨m', b, e, h1, h2⟩ := Paired.unsnoc14 t
    exact ⟨_ :: m', b, by rw [e]; rfl, .cons h h1, h2⟩
theorem atI_end {xs : List Int} {x : Int} {k : Nat} (h : xs[k]? = some x) (l : xs.length = k + 1) : atI (xs.map V.int) (-1) = some (.int x) := by
  unfold atI ixN
  rw [if_neg (by decide), List.length_map, if_pos (by omega)]
  show (xs.map V.int)[((-1 : Int) + (xs.length : Int)).toNat]? = some (V.int x)
  rw [l, show ((-1 : Int) + ((k + 1 : Nat) : Int)).toNat = k by omega, List.getElem?_map, h]
  rfl
theorem flat14 (xs : List Int) : (xs.map V.int).all flatV = true := by
  rw [List.all_eq_true]
  intro x hx
  obtain ⟨z, _, rfl⟩ := List.mem_map.mp hx
  rfl
theorem inV14 (x : Int) (xs : List Int) : inV (.int x) (xs.map V.int) = decide (x ∈ xs) := by
  unfold inV
  rw [List.any_map, Bool.eq_iff_iff, List.any_eq_true, decide_eq_true_iff]
  constructor
  · rintro ⟨z, hz, e⟩
    have e : (z == x) = true := e
    rw [beq_iff_eq] at e
    rw [← e]
    exact hz
  · intro h
    exact ⟨x, h, by show (x == x) = true; exact beq_self_eq_true x⟩
theorem join_sum {t : Tie} {a b : Int} (h : joinB t a b = true) : t.one + t.other - a = b := by
  unfold joinB at h
  simp only [Bool.or_eq_true, Bool.and_eq_true, decide_eq_true_iff] at h
  omega
theorem join_of {t : Tie} {a : Int} (h : a = t.one ∨ a = t.other) : joinB t a (t.one + t.other - a) = true := by
  unfold joinB
  simp only [Bool.or_eq_true, Bool.and_eq_true, decide_eq_true_iff]
  omega
theorem join_in {t : Tie} {a b : Int} (h : joinB t a b = true) : a = t.one ∨ a = t.other := by
  unfold joinB at h
  simp only [Bool.or_eq_true, Bool.and_eq_true, decide_eq_true_iff] at h
  omega
/-- what the law's own rings are: ways that ties close, all of them -/
structure RingsG (n : Nat) (ts : List Tie) (fs : List (List Int × List Int)) : Prop where
  ok : ∀ f ∈ fs, ∃ q m, Ok14 n ts q ∧ Clo ts q m ∧ f = (q.1, q.2 ++ [m])
  all : ∀ q m, Ok14 n ts q → Clo ts q m → (q.1, q.2 ++ [m]) ∈ fs
def spRings : Sp := fun vs H Q _ => ∃ (v : V) (n : Nat) (ts : List Tie), vs = [v] ∧ WebAt H v n ts ∧ WebOk n ts ∧ n ≤ 5 ∧ ts.length ≤ 9 ∧ ∀ (L : Addr) (fv : List V) (fs : List (List Int × List Int)) (H' : Hp), H' L = some (.lst fv) → Paired (fun v p => RingAt H' v p.1 p.2) fv fs → RingsG n ts fs → fs.length ≤ 450000 → Same H H' → Q (.ref L) H'
section
variable {P : Program} {w : World} {K : PySem.W.Frag} {mg : Str → Option Value} {base : Heap}
set_option maxHeartbeats 8000000 in
theorem ok_l_rings {f : Addr} {fd : FuncData} (F : Fun K "_law_rings" "_law_rings" s_l_rings f fd) (M : Free mg) : FnOk P w K mg base CX0 1 f fd ["_law_web_here"] spRings := by
  refine F.ok sc_l_rings (fun vs H Q E h => ?_) (fun cdv A outer s H vs Q E hr h => ?_)
  · obtain ⟨v, n, ts, rfl, _⟩ := h
    rfl
  · obtain ⟨v, n, ts, rfl, hW, ok, n5, t9, q⟩ := h
    refine ⟨_, (pss_cons (ps_set (i := 1) sc_l_rings.nd rfl (.inl rfl) (pe_lst pa_nil))
      (pss_cons (ps_setLc (i := 2) (own := [("_law_place", 3)]) (g := (gName 3)) (tt := tYes) rfl sc_l_rings.nd rfl rfl (sw_true rfl rfl rfl (by decide +kernel)) (pi_range1 (by rfl) M.range (pa_cons (pe_ix ix_tup (pv 0) pe_int (fun _ _ => rfl)) pa_nil)) (blkOk_by (N := N_l_rings) (sc := defScope s_l_rings) (own := [("_law_place", 3)]) (by decide +kernel)) (fun _ _ _ _ _ => (pg_name (i := 3) sc_l_rings.nd rfl (.inl rfl))) (fun _ _ _ _ _ => pts_nil) (fun _ _ _ _ _ => (pe_tup (pa_cons (pe_tup (pa_cons (pv 3) pa_nil)) (pa_cons (pe_tup pa_nil) pa_nil)))))
      (pss_cons (ps_while PassesOwn.never (pt_cmpR (op_neE hr.units0) (pv 2) (pe_lst pa_nil) (nomark _))
        (pss_cons (ps_asg (pe_bm0 PySem.F.plainAttrs_list PySem.F.slot_list_pop PySem.F.type_list_pop mt_pop (pv 2)) (pg_tup rfl (pgs_cons (pg_name (i := 4) sc_l_rings.nd rfl (.inl rfl)) (pgs_cons (pg_name (i := 5) sc_l_rings.nd rfl (.inl rfl)) pgs_nil))))
        (pss_one (ps_for PassesOwn.never rfl (pi_range1 (by rfl) M.range (pa_cons (pe_callB call_len_seq (by rfl) M.len PySem.boot_len (pa_cons (pe_ix ix_tup (pv 0) pe_int (fun _ _ => rfl)) pa_nil)) pa_nil)) (pg_name (i := 6) sc_l_rings.nd rfl (.inl rfl))
          (pss_cons (ps_asg (pe_ix ix_tup (pe_ix ix_tup (pv 0) pe_int (fun _ _ => rfl)) (pv 6) (fun _ _ => rfl)) (pg_tup rfl (pgs_cons (pg_name (i := 7) sc_l_rings.nd rfl (.inl rfl)) (pgs_cons (pg_name (i := 8) sc_l_rings.nd rfl (.inl rfl)) (pgs_cons (pg_name (i := 9) sc_l_rings.nd rfl (.inl rfl)) pgs_nil)))))
          (pss_one (ps_if (PW.pt (pw_and (pt_cmpR op_in_seq (pe_ix ix_tup (pv 4) (pe_un un_neg pe_int) (fun _ _ => rfl)) (pe_tup (pa_cons (pv 7) (pa_cons (pv 8) pa_nil))) rfl) (pw_and1 (pt_cmpR op_notIn_seq (pv 6) (pv 5) rfl))))
            (pss_cons (ps_set (i := 10) sc_l_rings.nd rfl (.inl rfl) (pe_op op_sub (pe_op op_add (pv 7) (pv 8)) (pe_ix ix_tup (pv 4) (pe_un un_neg pe_int) (fun _ _ => rfl))))
            (pss_one (ps_if (PW.pt (pw_and (pt_cmpR op_eq (pv 10) (pe_ix ix_tup (pv 4) pe_int (fun _ _ => rfl)) (nomark _)) (pw_and1 (pt_cmpR (op_neD hr.units) (pv 5) (pe_tup pa_nil) (nomark _)))))
              (pss_one (ps_expr (pe_bm PySem.F.plainAttrs_list PySem.F.slot_list_append PySem.F.type_list_append mt_append (pv 1) (pa_cons (pe_tup (pa_cons (pv 4) (pa_cons (pe_op op_catU (pv 5) (pe_tup (pa_cons (pv 6) pa_nil))) pa_nil))) pa_nil))))
              (pss_one (ps_if (PW.pt (pw_and (pt_cmpR op_gt (pv 10) (pe_ix ix_tup (pv 4) pe_int (fun _ _ => rfl)) (nomark _)) (pw_and1 (pt_cmpR op_notIn_seq (pv 10) (pv 4) rfl))))
                (pss_one (ps_expr (pe_bm PySem.F.plainAttrs_list PySem.F.slot_list_append PySem.F.type_list_append mt_append (pv 2) (pa_cons (pe_tup (pa_cons (pe_op op_catU (pv 4) (pe_tup (pa_cons (pv 10) pa_nil))) (pa_cons (pe_op op_catU (pv 5) (pe_tup (pa_cons (pv 6) pa_nil))) pa_nil))) pa_nil))))
                pss_nil)))))
            pss_nil)))))))
      (pss_one (ps_ret (pv 1)))))), ?_⟩
    have n1 := ok.lo
    obtain ⟨wa, wb, us, rfl, hwa, hwb, hp⟩ := id hW
    have hul : us.length = ts.length := Paired.length hp
    refine ⟨by show 0 ≤ sizeLine; decide, fun F0 nF => ?_⟩
    have sF := same_new (o := .lst []) nF
    have hF1 := upd_same (H := H) (a := F0) (o := .lst [])
    generalize upd H F0 (.lst []) = H1 at sF hF1
    refine ⟨.ref wa, rfl, wa, _, 0, .int n, rfl, rfl, SqT.of (sF _ _ hwa), rfl, n, rfl, by omega, by omega, fun W nW => ?_⟩
    rw [Int.toNat_natCast]
    have hFW : F0 ≠ W := ne_of_none hF1 nW
    have nW0 := sF.free nW
    refine lc_range (lo := 0) (n := n) (fun j H' => ∃ wv : List V, H' W = some (.lst wv) ∧ Paired (fun v p => RingAt H' v p.1 p.2) wv ((rng j).map fun x => ([x], ([] : List Int))) ∧ Same H1 H') ⟨[], upd_same, .nil, same_new nW⟩ ?_ ?_
    · rintro j H2 hj ⟨wv, hWv, hwp, s2⟩
      have lw := Paired.length hwp
      rw [List.length_map, rng_length] at lw
      rw [show (0 : Int) + (j : Nat) = j from by omega]
      refine ⟨rfl, .int j, rfl, by show 1 ≤ sizeLine; decide, fun a na => ⟨by show 0 ≤ sizeLine; decide, fun b nb => ⟨by show 2 ≤ sizeLine; decide, fun r nr => ?_⟩⟩⟩
      have sa := same_new (o := .tup [.int j]) na
      have sb := same_new (o := .tup []) nb
      have sr := same_new (o := .tup [.ref a, .ref b]) nr
      have sar := sa.trans (sb.trans sr)
      have hW5 := sar _ _ hWv
      have tk := tk_lst (ys := wv ++ [V.ref r]) hW5
      refine ⟨wv, hW5, small1000 (by omega), wv ++ [.ref r], upd_same, ?_, Same.mut (s2.trans sar) nW⟩
      rw [rng_succ, List.map_append]
      exact Paired.snoc (rings_tk tk (rings_tk (Same.tk sar) hwp)) (show RingAt _ _ [(j : Int)] [] from ⟨r, a, b, rfl, tk _ _ upd_same, tk _ _ (sr _ _ (sb _ _ upd_same)), tk _ _ (sr _ _ upd_same)⟩)
    rintro H2 ⟨wv0, hWv0, hwp0, s12⟩
    have s02 := sF.trans s12
    have nF0 := nF
    have cov0 : Cov n ts ((rng n).map fun x => ([x], ([] : List Int))) [] := fun p hp => by
      obtain ⟨s, here, g, g0, _⟩ := hp
      have rg := g.rg s (List.mem_of_getElem? g0)
      refine .inl ⟨([s], []), List.mem_map.mpr ⟨s, mem_rng.mpr rg, rfl⟩, 0, Nat.zero_le _, ?_⟩
      have l := g.len
      refine Prod.ext ?_ rfl
      show [s] = p.1.take 1
      cases h1 : p.1 with
      | nil => rw [h1] at g0; cases g0
      | cons x r => rw [h1] at g0; cases g0; rfl
    have sum0 : sumG ((rng n).map fun x => ([x], ([] : List Int))) = n * 10000 := by
      unfold sumG
      rw [List.map_map]
      have : (wgt ∘ fun x : Int => ([x], ([] : List Int))) = fun _ => 10000 := funext fun x => rfl
      rw [this, List.map_const', List.sum_replicate_nat, rng_length]
    refine ⟨fun m σ' H' => ∃ (y4 y5 y6 y7 y8 y9 y10 : Option V) (wv fv : List V) (ws fs : List (List Int × List Int)), σ' = [some (.ref wa), some (.ref F0), some (.ref W), none, y4, y5, y6, y7, y8, y9, y10] ∧ H' W = some (.lst wv) ∧ Paired (fun v p => RingAt H' v p.1 p.2) wv ws ∧ H' F0 = some (.lst fv) ∧ Paired (fun v p => RingAt H' v p.1 p.2) fv fs ∧ (∀ p ∈ ws, Ok14 n ts p) ∧ (∀ f ∈ fs, ∃ q m, Ok14 n ts q ∧ Clo ts q m ∧ f = (q.1, q.2 ++ [m])) ∧ Cov n ts ws fs ∧ fs.length + 9 * sumG ws ≤ 450000 ∧ Same H H' ∧ m = sumG ws, ⟨_, none, none, none, none, none, none, none, wv0, [], _, [], rfl, hWv0, hwp0, s12 _ _ hF1, .nil, (fun p hp => by
      obtain ⟨x, hx, rfl⟩ := List.mem_map.mp hp
      exact Ok14.one (mem_rng.mp hx)), (fun f hf => by cases hf), cov0, by rw [sum0]; simp only [List.length_nil]; omega, s02, rfl⟩, ?_⟩
    clear hWv0 hwp0 s12 s02 cov0 sum0 hF1 sF
    rintro m σ' H4 ⟨y4, y5, y6, y7, y8, y9, y10, wv, fv, ws, fs, rfl, hW4, hwp4, hF4, hfp4, okw, okf, cov, few, s4, hm⟩
    refine ⟨.ref W, rfl, Nat.zero_le _, fun e1 ne1 => ⟨W, e1, _, rfl, rfl, SqL.of (same_new ne1 _ _ hW4), SqL.of upd_same, _, rfl, ?_⟩⟩
    have se := same_new (o := .lst []) ne1
    have hW5 := se _ _ hW4
    have hF5 := se _ _ hF4
    have hwp5 := rings_tk (Same.tk se) hwp4
    have hfp5 := rings_tk (Same.tk se) hfp4
    have s5 := s4.trans se
    generalize upd H4 e1 (.lst []) = H5 at hW5 hF5 hwp5 hfp5 s5
    clear hW4 hF4 hwp4 hfp4 s4 se ne1
    refine ite2 (fun hb => ?_) (fun hb => ?_)
    · obtain ⟨wl, p, rfl⟩ : ∃ (wl : List V) (p : V), wv = wl ++ [p] := by
        cases hwv : wv with
        | nil => rw [hwv] at hb; cases hb
        | cons z zs => exact ⟨(z :: zs).dropLast, (z :: zs).getLast (by simp), (List.dropLast_concat_getLast (by simp)).symm⟩
      obtain ⟨wr, A, rfl, hwr, hA⟩ := Paired.unsnoc14 hwp5
      refine ⟨fun σ' H' => ∃ m', m' < m ∧ ∃ (y4 y5 y6 y7 y8 y9 y10 : Option V) (wv fv : List V) (ws fs : List (List Int × List Int)), σ' = [some (.ref wa), some (.ref F0), some (.ref W), none, y4, y5, y6, y7, y8, y9, y10] ∧ H' W = some (.lst wv) ∧ Paired (fun v p => RingAt H' v p.1 p.2) wv ws ∧ H' F0 = some (.lst fv) ∧ Paired (fun v p => RingAt H' v p.1 p.2) fv fs ∧ (∀ p ∈ ws, Ok14 n ts p) ∧ (∀ f ∈ fs, ∃ q m, Ok14 n ts q ∧ Clo ts q m ∧ f = (q.1, q.2 ++ [m])) ∧ Cov n ts ws fs ∧ fs.length + 9 * sumG ws ≤ 450000 ∧ Same H H' ∧ m' = sumG ws, fun _ _ h => h, ?_⟩
      obtain ⟨r, a, b, rfl, hr, ha, hb'⟩ := id hA
      refine ⟨.ref W, rfl, .inl ⟨rfl, _, SqL.of hW5⟩, W, _, .ref r, rfl, rfl, hW5, by simp, ?_⟩
      rw [List.dropLast_concat]
      have tk6 := tk_lst (ys := wl) hW5
      have hW6 := upd_same (H := H5) (a := W) (o := .lst wl)
      have hF6 : (upd H5 W (.lst wl)) F0 = some (.lst fv) := by rw [upd_ne hFW]; exact hF5
      have hwr6 := rings_tk tk6 hwr
      have hfp6 := rings_tk tk6 hfp5
      have hA6 := hA.tk tk6
      have s6 : Same H (upd H5 W (.lst wl)) := Same.mut s5 nW0
      have hr6 := tk6 _ _ hr
      generalize upd H5 W (.lst wl) = H6 at hW6 hF6 hwr6 hfp6 hA6 s6 hr6
      clear hW5 hF5 hwr hfp5 hwp5 hA s5 hr ha hb' tk6
      refine ⟨r, _, rfl, SqT.of hr6, rfl, _, _, rfl, _, _, rfl, rfl, ?_⟩
      have okA := okw A (by simp)
      obtain ⟨s0, here, gA, gA0, gAs⟩ := id okA
      have lA := gA.len
      have lA5 : A.1.length ≤ 5 := Nat.le_trans (pigeon n A.1 gA.nd gA.rg) n5
      rw [sumG_snoc] at few hm
      refine ⟨.ref wa, rfl, wa, _, 1, .ref wb, rfl, rfl, SqT.of (s6 _ _ hwa), rfl, wb, us, rfl, .inr (SqT.of (s6 _ _ hwb)), _, rfl, by omega, by omega, ?_⟩
      rw [Int.toNat_natCast]
      obtain ⟨r', a, b, e', hr', ha6, hb6⟩ := id hA6
      cases e'
      rw [hr6] at hr'
      cases hr'
      refine for_range (lo := 0) (n := us.length) (fun j σ' H' => ∃ (y6 y7 y8 y9 y10 : Option V) (wv fv : List V) (ws fs' : List (List Int × List Int)), σ' = [some (.ref wa), some (.ref F0), some (.ref W), none, some (.ref a), some (.ref b), y6, y7, y8, y9, y10] ∧ H' W = some (.lst wv) ∧ Paired (fun v p => RingAt H' v p.1 p.2) wv ws ∧ H' F0 = some (.lst fv) ∧ Paired (fun v p => RingAt H' v p.1 p.2) fv fs' ∧ (∀ p ∈ ws, Ok14 n ts p) ∧ (∀ f ∈ fs', ∃ q m, Ok14 n ts q ∧ Clo ts q m ∧ f = (q.1, q.2 ++ [m])) ∧ CovA n ts A j ws fs' ∧ fs'.length ≤ fs.length + j ∧ sumG ws * 10 ≤ sumG wr * 10 + j * wgt A ∧ Same H H' ∧ Tk H6 H') ⟨_, _, _, _, _, wl, fv, wr, fs, rfl, hW6, hwr6, hF6, hfp6, fun p hp => okw p (List.mem_append_left _ hp), okf, cov.start, by omega, by omega, s6, fun _ _ h => h⟩ ?_ ?_
      · clear hW6 hF6 hwr6 hfp6 hA6 cov okf okw
        rintro j σ' H7 hj ⟨y6, y7, y8, y9, y10, wv, fv, ws, fs', rfl, hW7, hwp7, hF7, hfp7, okw, okf, cov, lf, lw, s7, t7⟩
        rw [show (0 : Int) + (j : Nat) = j from by omega]
        have jl : j < ts.length := by omega
        have et := List.getElem?_eq_getElem jl
        generalize ts[j] = t at et
        obtain ⟨u, eu, tc, rfl, htc⟩ := Paired.at' hp et
        obtain ⟨o1, o2, o3, o4, o5⟩ := ok.ok t (List.mem_of_getElem? et)
        have etA : tieAt ts (j : Int) = t := by
          unfold tieAt
          rw [Int.toNat_natCast, List.getD_eq_getElem?_getD, et]
          rfl
        have ha7 := t7 _ _ ha6
        have hb7 := t7 _ _ hb6
        have jr : (0 : Int) ≤ (j : Int) ∧ (j : Int) < (ts.length : Int) := ⟨by omega, by omega⟩
        refine ⟨.ref wa, rfl, wa, _, 1, .ref wb, rfl, rfl, SqT.of (s7 _ _ hwa), rfl, .int j, rfl, wb, us, j, .ref tc, rfl, rfl, SqT.of (s7 _ _ hwb), atI_nat eu, tc, _, rfl, SqT.of (s7 _ _ htc), rfl, _, _, rfl, _, _, rfl, _, _, rfl, rfl, ?_⟩
        have elast : atI (A.1.map V.int) (-1) = some (.int here) := atI_end gA.last lA
        have efirst : atI (A.1.map V.int) 0 = some (.int s0) := atI_of (Int.le_refl _) (by rw [List.getElem?_map]; show A.1[0]?.map V.int = _; rw [gA0]; rfl)
        -- none of it: the look goes on
        have skip : (Clo ts A j → False) → (∀ y, joinB t here y = true → y ∉ A.1 → s0 < y → (j : Int) ∉ A.2 → False) → CovA n ts A (j + 1) ws fs' := fun h1 h2 => cov.step okA (fun _ h => h) (fun _ h => h) (fun h => (h1 h).elim) fun here' y e1 e2 e3 e4 e5 => (h2 y (by
          rw [gA.last] at e1
          cases e1
          rw [← etA]
          exact e2) e3 (e4 s0 gA0) e5).elim
        refine ⟨.ref a, rfl, 1, rfl, a, _, -1, .int here, rfl, rfl, SqT.of ha7, elast, .int t.one, rfl, .int t.other, rfl, by show 2 ≤ sizeLine; decide, fun T nT => ?_⟩
        have sT := same_new (o := .tup [.int t.one, .int t.other]) nT
        refine ⟨T, _, rfl, .inr (SqT.of upd_same), rfl, rfl, _, rfl, ?_⟩
        rw [show inV (.int here) [.int t.one, .int t.other] = decide (here ∈ [t.one, t.other]) from inV14 here [t.one, t.other]]
        have hW8 := sT _ _ hW7
        have hwp8 := rings_tk (Same.tk sT) hwp7
        have hF8 := sT _ _ hF7
        have hfp8 := rings_tk (Same.tk sT) hfp7
        have s8 := s7.trans sT
        have t8 := t7.trans (Same.tk sT)
        have ha8 := sT _ _ ha7
        have hb8 := sT _ _ hb7
        generalize upd H7 T (.tup [.int t.one, .int t.other]) = H8 at hW8 hwp8 hF8 hfp8 s8 t8 ha8 hb8
        clear hW7 hwp7 hF7 hfp7 s7 t7 ha7 hb7 sT nT
        have stay : (Clo ts A j → False) → (∀ y, joinB t here y = true → y ∉ A.1 → s0 < y → (j : Int) ∉ A.2 → False) → ∀ (y10 : Option V) (H9 : Hp), Same H8 H9 → ∃ (y6 y7 y8 y9 y10' : Option V) (wv' fv' : List V) (ws' fs'' : List (List Int × List Int)), [some (V.ref wa), some (.ref F0), some (.ref W), none, some (.ref a), some (.ref b), some (.int j), some (.int t.one), some (.int t.other), some (.str (kindS t.foe)), y10] = [some (.ref wa), some (.ref F0), some (.ref W), none, some (.ref a), some (.ref b), y6, y7, y8, y9, y10'] ∧ H9 W = some (.lst wv') ∧ Paired (fun v p => RingAt H9 v p.1 p.2) wv' ws' ∧ H9 F0 = some (.lst fv') ∧ Paired (fun v p => RingAt H9 v p.1 p.2) fv' fs'' ∧ (∀ p ∈ ws', Ok14 n ts p) ∧ (∀ f ∈ fs'', ∃ q m, Ok14 n ts q ∧ Clo ts q m ∧ f = (q.1, q.2 ++ [m])) ∧ CovA n ts A (j + 1) ws' fs'' ∧ fs''.length ≤ fs.length + (j + 1) ∧ sumG ws' * 10 ≤ sumG wr * 10 + (j + 1) * wgt A ∧ Same H H9 ∧ Tk H6 H9 := fun h1 h2 y10 H9 s9 => ⟨_, _, _, _, y10, wv, fv, ws, fs', rfl, s9 _ _ hW8, rings_tk (Same.tk s9) hwp8, s9 _ _ hF8, rings_tk (Same.tk s9) hfp8, okw, okf, skip h1 h2, by omega, by rw [Nat.succ_mul]; omega, s8.trans s9, t8.trans (Same.tk s9)⟩
        by_cases hin : here ∈ [t.one, t.other]
        · rw [decide_eq_true hin]
          have hin' : here = t.one ∨ here = t.other := by
            rcases List.mem_cons.mp hin with h | h
            · exact .inl h
            · exact .inr (List.mem_singleton.mp h)
          refine ⟨.int j, rfl, .ref b, rfl, b, _, rfl, .inr (SqT.of hb8), rfl, flat14 _, _, rfl, ?_⟩
          rw [inV14]
          by_cases hj2 : (j : Int) ∈ A.2
          · rw [decide_eq_true hj2]
            exact stay (fun c => c.2.1 hj2) (fun _ _ _ _ h => h hj2) y10 _ (Same.refl _)
          · rw [decide_eq_false hj2]
            refine ⟨.int t.one, rfl, .int t.other, rfl, _, _, rfl, rfl, .ref a, rfl, 1, rfl, a, _, -1, .int here, rfl, rfl, SqT.of ha8, elast, _, _, rfl, rfl, ?_⟩
            have jj := join_of hin'
            have only : ∀ y, joinB t here y = true → y = (t.one + t.other - here) := fun y hy => (join_sum hy).symm
            have big : ∀ k, k ≤ 500000 → k < sizeLine := fun k h => Nat.lt_of_le_of_lt h (by decide)
            have closes : A.2 ≠ [] → (t.one + t.other - here) = s0 → Clo ts A j := fun h1 h2 => ⟨jr, hj2, h1, s0, here, gA0, gA.last, by rw [etA, ← h2]; exact jj⟩
            have shut : Clo ts A j → A.2 ≠ [] ∧ (t.one + t.other - here) = s0 := fun c => by
              obtain ⟨_, _, c2, s', here', e1, e2, e3⟩ := c
              rw [gA0] at e1
              cases e1
              rw [gA.last] at e2
              cases e2
              rw [etA] at e3
              exact ⟨c2, (only _ e3).symm⟩
            refine ⟨.int (t.one + t.other - here), rfl, .ref a, rfl, a, _, 0, .int s0, rfl, rfl, SqT.of ha8, efirst, rfl, _, rfl, ?_⟩
            by_cases es : (t.one + t.other - here) = s0
            · rw [decide_eq_true (show V.int (t.one + t.other - here) = V.int s0 by rw [es])]
              refine ⟨.ref b, rfl, by show 0 ≤ sizeLine; decide, fun E nE => ?_⟩
              have sE := same_new (o := .tup []) nE
              refine ⟨intsD A.2, intsD [], IntsV.dp ⟨b, rfl, sE _ _ hb8⟩, IntsV.dp ⟨E, rfl, upd_same⟩, shaped_intsD _, shaped_intsD _, _, rfl, ?_⟩
              rw [eqv_nil]
              have hb9 := sE _ _ hb8
              have ha9 := sE _ _ ha8
              generalize upd H8 E (.tup []) = H9 at sE hb9 ha9
              cases hA2 : A.2 with
              | nil =>
                refine ⟨.int (t.one + t.other - here), rfl, .ref a, rfl, a, _, 0, .int s0, rfl, rfl, SqT.of ha9, efirst, _, _, rfl, rfl, _, rfl, ?_⟩
                rw [decide_eq_false (show ¬ s0 < (t.one + t.other - here) by omega)]
                exact stay (fun c => (shut c).1 hA2) (fun y hy _ lt _ => by have := only y hy; omega) _ H9 sE
              | cons w0 w1 =>
                have ne2 : A.2 ≠ [] := by rw [hA2]; simp
                have clo := closes ne2 es
                have hF9 := sE _ _ hF8
                have lb : A.2.length ≤ 5 := by omega
                refine ⟨.ref F0, rfl, .inl ⟨rfl, _, SqL.of hF9⟩, .ref a, rfl, .ref b, rfl, .int j, rfl, by show 1 ≤ sizeLine; decide, fun o no => ?_⟩
                have so := same_new (o := .tup [.int j]) no
                refine ⟨b, o, _, _, rfl, rfl, so _ _ hb9, upd_same, by rw [List.length_map]; show A.2.length + 1 ≤ 100000; omega, fun r1 H10 s10 h10 => ⟨by show 2 ≤ sizeLine; decide, fun g ng => ?_⟩⟩
                have sg := same_new (o := .tup [.ref a, .ref r1]) ng
                have s911 := so.trans (s10.trans sg)
                have hF11 := s911 _ _ hF9
                have lfv := Paired.length hfp8
                refine ⟨F0, fv, _, rfl, rfl, hF11, big _ (by omega), ?_⟩
                have tk := tk_lst (ys := fv ++ [V.ref g]) hF11
                have s811 := sE.trans s911
                refine ⟨_, _, _, _, _, wv, fv ++ [.ref g], ws, fs' ++ [(A.1, A.2 ++ [(j : Int)])], rfl, ?_, rings_tk tk (rings_tk (Same.tk s811) hwp8), upd_same, Paired.snoc (rings_tk tk (rings_tk (Same.tk s811) hfp8)) (show RingAt _ _ A.1 (A.2 ++ [(j : Int)]) from ⟨g, a, r1, rfl, tk _ _ upd_same, tk _ _ (s911 _ _ ha9), tk _ _ (sg _ _ (by rw [h10, List.map_append]; rfl))⟩), okw, fun f hf => ?_, ?_, by rw [List.length_append]; simp only [List.length_cons, List.length_nil]; omega, by rw [Nat.succ_mul]; omega, Same.mut (s8.trans s811) nF0, (t8.trans (Same.tk s811)).trans tk⟩
                · rw [upd_ne (Ne.symm hFW)]
                  exact s811 _ _ hW8
                · rcases List.mem_append.mp hf with h | h
                  · exact okf f h
                  · exact ⟨A, j, okA, clo, List.mem_singleton.mp h⟩
                · refine cov.step okA (fun _ h => h) (fun p hp => List.mem_append_left _ hp) (fun _ => by simp) fun here' y e1 e2 e3 e4 e5 => ?_
                  rw [gA.last] at e1
                  cases e1
                  rw [etA] at e2
                  have := only y e2
                  have := e4 s0 gA0
                  omega
            · rw [decide_eq_false (show ¬ V.int (t.one + t.other - here) = V.int s0 from fun z => es (V.int.inj z))]
              refine ⟨.int (t.one + t.other - here), rfl, .ref a, rfl, a, _, 0, .int s0, rfl, rfl, SqT.of ha8, efirst, _, _, rfl, rfl, _, rfl, ?_⟩
              by_cases gt : s0 < (t.one + t.other - here)
              · rw [decide_eq_true gt]
                refine ⟨.int (t.one + t.other - here), rfl, .ref a, rfl, a, _, rfl, .inr (SqT.of ha8), rfl, flat14 _, _, rfl, ?_⟩
                rw [inV14]
                by_cases hy : (t.one + t.other - here) ∈ A.1
                · rw [decide_eq_true hy]
                  exact stay (fun c => es (shut c).2) (fun y hj3 no _ _ => no (by rw [only y hj3]; exact hy)) _ H8 (Same.refl _)
                · rw [decide_eq_false hy]
                  have ty : 0 ≤ (t.one + t.other - here) ∧ (t.one + t.other - here) < (n : Int) := by
                    rcases hin' with h | h <;> rw [h] <;> omega
                  have okY : Ok14 n ts (A.1 ++ [(t.one + t.other - here)], A.2 ++ [(j : Int)]) := okA.push gA.last (by rw [etA]; exact jj) jr ty hy (fun s' hs' => by
                    rw [gA0] at hs'
                    cases hs'
                    exact gt)
                  have lY : A.1.length + 1 ≤ 5 := by
                    obtain ⟨_, _, gY, _⟩ := okY
                    have := pigeon n _ gY.nd gY.rg
                    rw [List.length_append] at this
                    simp only [List.length_cons, List.length_nil] at this
                    omega
                  have wY : wgt (A.1 ++ [(t.one + t.other - here)], A.2 ++ [(j : Int)]) * 10 = wgt A := by
                    unfold wgt
                    simp only
                    rw [List.length_append, ← Nat.pow_succ]
                    simp only [List.length_cons, List.length_nil]
                    congr 1
                    omega
                  refine ⟨.ref W, rfl, .inl ⟨rfl, _, SqL.of hW8⟩, .ref a, rfl, .int (t.one + t.other - here), rfl, by show 1 ≤ sizeLine; decide, fun o1' no1 => ?_⟩
                  have so1 := same_new (o := .tup [.int (t.one + t.other - here)]) no1
                  refine ⟨a, o1', _, _, rfl, rfl, so1 _ _ ha8, upd_same, by rw [List.length_map]; show A.1.length + 1 ≤ 100000; omega, fun r1 H9 s9 h9 => ?_⟩
                  have s89 := so1.trans s9
                  refine ⟨.ref b, rfl, .int j, rfl, by show 1 ≤ sizeLine; decide, fun o2' no2 => ?_⟩
                  have so2 := same_new (o := .tup [.int j]) no2
                  refine ⟨b, o2', _, _, rfl, rfl, so2 _ _ (s89 _ _ hb8), upd_same, by rw [List.length_map]; show A.2.length + 1 ≤ 100000; omega, fun r2 H10 s10 h10 => ⟨by show 2 ≤ sizeLine; decide, fun g ng => ?_⟩⟩
                  have sg := same_new (o := .tup [.ref r1, .ref r2]) ng
                  have s910 := so2.trans s10
                  have s911 := s910.trans sg
                  have s811 := s89.trans s911
                  have hW11 := s811 _ _ hW8
                  have lwv := Paired.length hwp8
                  have lsum := sumG_len ws
                  have wA9 : j * wgt A ≤ 9 * wgt A := Nat.mul_le_mul_right _ (by omega)
                  refine ⟨W, wv, _, rfl, rfl, hW11, big _ (by omega), ?_⟩
                  have tk := tk_lst (ys := wv ++ [V.ref g]) hW11
                  refine ⟨_, _, _, _, _, wv ++ [.ref g], fv, ws ++ [(A.1 ++ [(t.one + t.other - here)], A.2 ++ [(j : Int)])], fs', rfl, upd_same, Paired.snoc (rings_tk tk (rings_tk (Same.tk s811) hwp8)) (show RingAt _ _ (A.1 ++ [(t.one + t.other - here)]) (A.2 ++ [(j : Int)]) from ⟨g, r1, r2, rfl, tk _ _ upd_same, tk _ _ (s911 _ _ (by rw [h9, List.map_append]; rfl)), tk _ _ (sg _ _ (by rw [h10, List.map_append]; rfl))⟩), ?_, rings_tk tk (rings_tk (Same.tk s811) hfp8), fun p hp => ?_, okf, ?_, by omega, by rw [sumG_snoc, Nat.add_mul, wY, Nat.succ_mul]; omega, Same.mut (s8.trans s811) nW0, (t8.trans (Same.tk s811)).trans tk⟩
                  · rw [upd_ne hFW]
                    exact s811 _ _ hF8
                  · rcases List.mem_append.mp hp with h | h
                    · exact okw p h
                    · rw [List.mem_singleton.mp h]
                      exact okY
                  · refine cov.step okA (fun p hp => List.mem_append_left _ hp) (fun _ h => h) (fun c => (es (shut c).2).elim) fun here' y e1 e2 e3 e4 e5 => ?_
                    rw [gA.last] at e1
                    cases e1
                    rw [etA] at e2
                    rw [only y e2]
                    simp
              · rw [decide_eq_false gt]
                exact stay (fun c => es (shut c).2) (fun y hj3 _ lt _ => gt (by rw [← only y hj3]; exact lt)) _ H8 (Same.refl _)
        · rw [decide_eq_false hin]
          exact stay (fun c => by
            obtain ⟨_, _, _, s', here', e1, e2, e3⟩ := c
            rw [gA.last] at e2
            cases e2
            rw [etA] at e3
            exact hin (by rcases join_in e3 with h | h <;> rw [h] <;> simp)) (fun y hy _ _ _ => hin (by rcases join_in hy with h | h <;> rw [h] <;> simp)) y10 _ (Same.refl _)
      · rintro σ' H7 ⟨y6, y7, y8, y9, y10, wv, fv, ws, fs', rfl, hW7, hwp7, hF7, hfp7, okw, okf, cov, lf, lw, s7, t7⟩
        rw [hul] at cov lf lw
        have wA := wgt_pos A
        have wA9 : ts.length * wgt A ≤ 9 * wgt A := Nat.mul_le_mul_right _ t9
        exact ⟨sumG ws, by omega, _, _, _, _, _, _, _, wv, fv, ws, fs', rfl, hW7, hwp7, hF7, hfp7, okw, okf, cov.finish, by omega, s7, rfl⟩
    · have e0 : wv = [] := by
        cases wv with
        | nil => rfl
        | cons _ _ => exact (hb rfl).elim
      subst e0
      cases hwp5
      refine ⟨.ref F0, rfl, q F0 fv fs H5 hF5 hfp5 ⟨okf, fun p m hp hc => ?_⟩ (by omega) s5⟩
      rcases cov p hp with ⟨_, h, _⟩ | h
      · cases h
      · exact h m hc
end
/-! ### k14: a ring is right -/
/-- the ties of a ring alone -/
def aloneT (ts : List Tie) (es : List Int) : List Tie := es.map fun w => tieAt ts w
theorem alone_ok {n : Nat} {ts : List Tie} (ok : WebOk n ts) {es : List Int} (he : ∀ e ∈ es, 0 ≤ e ∧ e < (ts.length : Int)) (le : es.length ≤ 120) : WebOk n (aloneT ts es) := ⟨ok.lo, ok.hi, by unfold aloneT; rw [List.length_map]; exact le, fun t ht => by
  obtain ⟨w, hw, rfl⟩ := List.mem_map.mp ht
  have := he w hw
  have e := tieAt_get (ts := ts) this.1 this.2
  exact ok.ok _ (List.mem_of_getElem? e)⟩
theorem less_ok {n : Nat} {ts : List Tie} (ok : WebOk n ts) (k : Nat) : WebOk n (ts.eraseIdx k) := ⟨ok.lo, ok.hi, by
  have := List.length_eraseIdx_le ts k
  have := ok.few
  omega, fun t ht => ok.ok t (List.mem_of_mem_eraseIdx ht)⟩
theorem cons_col {n : Nat} {ts : List Tie} (ok : ∀ t ∈ ts, TieOk n t) {ss : List Int} (T : Told ts n ss) (C : Cons ss ts) {t : Tie} (ht : t ∈ ts) : (one? ss t.one ^^ one? ss t.other) = t.foe := by
  have e := C t ht
  rw [brk_one T.bin (by rw [T.len]; exact ok t ht)] at e
  revert e
  cases one? ss t.one <;> cases one? ss t.other <;> cases t.foe <;> decide
/-- a ring alone: sides just where it is even -/
theorem alone_even {n : Nat} {ts : List Tie} {ps es : List Int} (g : RingG n ts ps es) (ok : WebOk n ts) {ss : List Int} (T : Told (aloneT ts es) n ss) (C : Cons ss (aloneT ts es)) : oddF ts es = false := by
  have l := g.len
  refine ring_par g (c := one? ss) fun w hw => ?_
  refine cons_col (fun t ht => ?_) T C (List.mem_map.mpr ⟨w, hw, rfl⟩)
  obtain ⟨w', hw', rfl⟩ := List.mem_map.mp ht
  have := g.eb w' hw'
  exact ok.ok _ (List.mem_of_getElem? (tieAt_get (ts := ts) this.1 this.2))
theorem alone_odd {n : Nat} {ts : List Tie} {ps es : List Int} (g : RingG n ts ps es) (od : Odd (aloneT ts es) n) : oddF ts es = true := by
  cases e : oddF ts es with
  | true => rfl
  | false =>
    have l := g.len
    have t2 := g.two
    obtain ⟨c, hc⟩ := ring_col g 0 (by omega)
    refine (no_odd (c := c) (fun t ht => ?_) n od).elim
    obtain ⟨w, hw, rfl⟩ := List.mem_map.mp ht
    obtain ⟨k, hk⟩ := List.getElem?_of_mem hw
    exact hc k w hk (.inr e)
theorem less_no_odd {n : Nat} {ts : List Tie} {ps es : List Int} (g : RingG n ts ps es) {k : Nat} (hk : k < es.length) : ¬ Odd ((aloneT ts es).eraseIdx k) n := by
  obtain ⟨c, hc⟩ := ring_col g k hk
  refine no_odd (c := c) (fun t ht => ?_) n
  obtain ⟨i, ne, ei⟩ := List.mem_eraseIdx_iff_getElem?.mp ht
  unfold aloneT at ei
  rw [List.getElem?_map] at ei
  obtain ⟨w, hw, rfl⟩ := Option.map_eq_some_iff.mp ei
  exact hc i w hw (.inl ne)
def spRingRight (Ps : List Addr) : Sp := fun vs H Q _ => ∃ (wv v : V) (n : Nat) (ts : List Tie) (ps es : List Int), vs = [wv, v] ∧ WebAt H wv n ts ∧ WebOk n ts ∧ RingAt H v ps es ∧ RingG n ts ps es ∧ Tabs Ps H ∧ ∀ H', Kt Ps H H' → Q (.bl true) H'
theorem eqFoe14 (b : Bool) : decide (V.str (kindS b) = V.str "foe") = b := by cases b <;> decide
theorem cut_both {xs : List V} {k : Nat} (h : k < xs.length) : cutV xs none (some (k : Int)) ++ cutV xs (some ((k : Int) + 1)) none = xs.eraseIdx k := by
  rw [cut_take (by omega), show ((k : Int) + 1) = ((k + 1 : Nat) : Int) by omega, cut_drop (by omega), List.eraseIdx_eq_take_drop_succ]
theorem Paired.less {α β : Type} {F : α → β → Prop} : ∀ {l : List α} {m : List β} (k : Nat), Paired F l m → Paired F (l.eraseIdx k) (m.eraseIdx k)
  | _, _, _, .nil => .nil
  | _, _, 0, .cons _ t => t
  | _, _, k + 1, .cons h t => .cons h (Paired.less k t)
section
variable {P : Program} {w : World} {K : PySem.W.Frag} {mg : Str → Option Value} {base : Heap}
set_option maxHeartbeats 4000000 in
theorem ok_l_ring_right {f : Addr} {fd : FuncData} {Ps : List Addr} (F : Fun K "_law_ring_right" "_law_ring_right" s_l_ring_right f fd) (M : Free mg) (D_foes_in : Df P w K mg base 1 "foes_in" ["web", "ring"] spFoes) (D_ring_holds : Df P w K mg base 5 "ring_holds" ["web", "thing"] (spRing Ps)) (D_odd_ring_holds : Df P w K mg base 6 "odd_ring_holds" ["web", "thing"] (spOdd Ps)) (D_l_same : Df P w K mg base 1 "_law_same" ["_law_found", "_law_due"] spSameB) (D_sides_of : Df P w K mg base 3 "sides_of" ["web"] spFixed) : FnOk P w K mg base CX0 7 f fd ["_law_web_here", "_law_ring"] (spRingRight Ps) := by
  obtain ⟨f_foes_in, fd_foes_in, G_foes_in, g_foes_in, k_foes_in, b_foes_in⟩ := D_foes_in
  obtain ⟨f_ring_holds, fd_ring_holds, G_ring_holds, g_ring_holds, k_ring_holds, b_ring_holds⟩ := D_ring_holds
  obtain ⟨f_odd_ring_holds, fd_odd_ring_holds, G_odd_ring_holds, g_odd_ring_holds, k_odd_ring_holds, b_odd_ring_holds⟩ := D_odd_ring_holds
  obtain ⟨f_l_same, fd_l_same, G_l_same, g_l_same, k_l_same, b_l_same⟩ := D_l_same
  obtain ⟨f_sides_of, fd_sides_of, G_sides_of, g_sides_of, k_sides_of, b_sides_of⟩ := D_sides_of
  refine F.ok sc_l_ring_right (fun vs H Q E h => ?_) (fun cdv A outer s H vs Q E hr h => ?_)
  · obtain ⟨wv, v, n, ts, ps, es, rfl, _⟩ := h
    rfl
  · obtain ⟨wv, v, n, ts, ps, es, rfl, hW, ok, hR, g, hT, q⟩ := h
    refine ⟨_, (pss_cons (ps_set (i := 2) sc_l_ring_right.nd rfl (.inl rfl) (pe_callB call_len_seq (by rfl) M.len PySem.boot_len (pa_cons (pe_lc (own := [("_law_tie", 3)]) (g := (gName 3)) (te := tVar 3) rfl sc_l_ring_right.nd (pi_tup (pe_ix ix_tup (pv 1) pe_int (fun _ _ => rfl))) (blkOk_by (N := N_l_ring_right) (sc := defScope s_l_ring_right) (own := [("_law_tie", 3)]) (by decide +kernel)) (fun _ _ _ _ _ => (pg_name (i := 3) sc_l_ring_right.nd rfl (.inl rfl))) (fun _ _ _ _ _ => (pts_one (pt_cmpR op_eq (pe_ix (r := rIxT K) ix_tup (pe_ix (r := rIxT K) ix_tup (pe_ix (r := rIxT K) ix_tup (pv 0) pe_int (fun _ _ => rfl)) (pv 3) (fun _ _ => rfl)) pe_int (fun _ _ => rfl)) pe_str (nomark _)))) (fun _ _ _ _ _ => (pv 3))) pa_nil)))
      (pss_cons (ps_if (PW.pt (pw_or (pt_cmpR op_isnot_bl (pe_call G_ring_holds (hr.mono (by decide)) (by rfl) g_ring_holds k_ring_holds b_ring_holds .nil pass0 (pa_cons (pv 0) (pa_cons (pv 1) pa_nil))) pe_bl (nomark _)) (pw_or1 (pt_cmpR op_ne (pe_call G_foes_in (hr.mono (by decide)) (by rfl) g_foes_in k_foes_in b_foes_in .nil pass0 (pa_cons (pv 0) (pa_cons (pv 1) pa_nil))) (pv 2) (nomark _)))))
        (pss_one (ps_ret pe_bl))
        pss_nil)
      (pss_cons (ps_if (pt_not (pt_val (pe_call G_l_same (hr.mono (by decide)) (by rfl) g_l_same k_l_same b_l_same .nil pass0 (pa_cons (pe_call G_odd_ring_holds (hr.mono (by decide)) (by rfl) g_odd_ring_holds k_odd_ring_holds b_odd_ring_holds .nil pass0 (pa_cons (pv 0) (pa_cons (pv 1) pa_nil))) (pa_cons (pe_cmpR op_eq (pe_op op_mod (pv 2) pe_int) pe_int (nomark _)) pa_nil)))))
        (pss_one (ps_ret pe_bl))
        pss_nil)
      (pss_cons (ps_set (i := 4) sc_l_ring_right.nd rfl (.inl rfl) (pe_tup (pa_cons (pe_ix ix_tup (pv 0) pe_int (fun _ _ => rfl)) (pa_cons (pe_callTy call_tuple_of (by rfl) M.tuple (by decide +kernel) (pa_cons (pe_lc (own := [("_law_tie", 3)]) (g := (gName 3)) (tt := tYes) rfl sc_l_ring_right.nd (pi_tup (pe_ix ix_tup (pv 1) pe_int (fun _ _ => rfl))) (blkOk_by (N := N_l_ring_right) (sc := defScope s_l_ring_right) (own := [("_law_tie", 3)]) (by decide +kernel)) (fun _ _ _ _ _ => (pg_name (i := 3) sc_l_ring_right.nd rfl (.inl rfl))) (fun _ _ _ _ _ => pts_nil) (fun _ _ _ _ _ => (pe_ix (r := rIxT K) ix_tup (pe_ix (r := rIxT K) ix_tup (pv 0) pe_int (fun _ _ => rfl)) (pv 3) (fun _ _ => rfl)))) pa_nil)) pa_nil))))
      (Evl.pss_cut (ps_if (pt_cmpR op_ne (pe_cmpR op_isN (pe_call G_sides_of (hr.mono (by decide)) (by rfl) g_sides_of k_sides_of b_sides_of .nil pass0 (pa_cons (pv 4) pa_nil)) pe_non (nomark _)) (pe_cmpR op_eq (pe_op op_mod (pv 2) pe_int) pe_int (nomark _)) (nomark _))
        (pss_one (ps_ret pe_bl))
        pss_nil)
      (pss_cons (ps_for PassesOwn.never rfl (pi_range1 (by rfl) M.range (pa_cons (pe_callB call_len_seq (by rfl) M.len PySem.boot_len (pa_cons (pe_ix ix_tup (pv 1) pe_int (fun _ _ => rfl)) pa_nil)) pa_nil)) (pg_name (i := 5) sc_l_ring_right.nd rfl (.inl rfl))
        (pss_one (ps_if (pt_cmpR op_isN (pe_call G_sides_of (hr.mono (by decide)) (by rfl) g_sides_of k_sides_of b_sides_of .nil pass0 (pa_cons (pe_tup (pa_cons (pe_ix ix_tup (pv 0) pe_int (fun _ _ => rfl)) (pa_cons (pe_op op_catU (pe_slice sl_tupU (pe_ix ix_tup (pv 4) pe_int (fun _ _ => rfl)) po_none (po_some (pv 5))) (pe_slice sl_tupU (pe_ix ix_tup (pv 4) pe_int (fun _ _ => rfl)) (po_some (pe_op op_add (pv 5) pe_int)) po_none)) pa_nil))) pa_nil)) pe_non (nomark _))
          (pss_one (ps_ret pe_bl))
          pss_nil)))
      (pss_one (ps_ret pe_bl)))))))), ?_⟩
    have n1 := ok.lo
    have n40 := ok.hi
    have few := ok.few
    have l := g.len
    have t2 := g.two
    have lp : ps.length ≤ n := pigeon n ps g.pd g.pb
    obtain ⟨wa, wb, us, rfl, hwa, hwb, hp⟩ := id hW
    have hul : us.length = ts.length := Paired.length hp
    obtain ⟨r, a, b, rfl, hr, ha, hb⟩ := id hR
    have at0 : ∀ e ∈ es, ∃ c, atI us e = some (.ref c) ∧ H c = some (.tup [.int (tieAt ts e).one, .int (tieAt ts e).other, .str (kindS (tieAt ts e).foe)]) := fun e he => by
      have := g.eb e he
      have et := tieAt_get (ts := ts) this.1 this.2
      obtain ⟨u, eu, c, rfl, hc⟩ := Paired.at' hp et
      exact ⟨c, atI_of this.1 eu, hc⟩
    -- how many foes
    refine ⟨.ref r, rfl, r, _, 1, .ref b, rfl, rfl, SqT.of hr, rfl, b, rfl, ⟨_, SqT.of hb⟩, fun Z nZ => ?_⟩
    refine lc_tup (K := K) (xs := es.map V.int) (fun j H' => H' Z = some (.lst (((es.take j).filter fun e => (tieAt ts e).foe).map V.int)) ∧ Same H H') ⟨upd_same, same_new nZ⟩ (fun j H' _ h => SqT.of (h.2 _ _ hb)) ?_ ?_
    · rintro j x H1 ex ⟨hZ, s1⟩
      rw [List.getElem?_map] at ex
      obtain ⟨e, ee, rfl⟩ := Option.map_eq_some_iff.mp ex
      obtain ⟨c, e1, hc⟩ := at0 e (List.mem_of_getElem? ee)
      have jl := (List.getElem?_eq_some_iff.mp ee).1
      refine ⟨rfl, .ref wa, rfl, wa, _, 1, .ref wb, rfl, rfl, SqT.of (s1 _ _ hwa), rfl, .int e, rfl, wb, us, e, .ref c, rfl, rfl, SqT.of (s1 _ _ hwb), e1, c, _, 2, _, rfl, rfl, SqT.of (s1 _ _ hc), rfl, rfl, _, rfl, ?_⟩
      rw [eqFoe14, foesI_take ts es ee]
      have lf := List.length_filter_le (fun e => (tieAt ts e).foe) (es.take j)
      rw [List.length_take] at lf
      cases (tieAt ts e).foe with
      | true => exact ⟨.int e, rfl, _, hZ, by rw [List.length_map]; exact small1000 (by omega), by rw [upd_same, List.map_append]; rfl, Same.mut s1 nZ⟩
      | false =>
        rw [if_neg (by decide), List.append_nil]
        exact ⟨hZ, s1⟩
    rintro H1 ⟨hZ, s1⟩
    rw [List.length_map, List.take_length] at hZ
    refine ⟨Z, _, rfl, .inl (SqL.of hZ), ?_⟩
    rw [List.length_map]
    show (tSeq _ _ : L2.TS) _ [some (.ref wa), some (.ref r), some (.int (foesI ts es)), none, none, none] H1
    have k01 := Kt.same hT s1
    have hT1 := k01.tab
    have W1 := hW.tk (Same.tk s1)
    have R1 := hR.tk (Same.tk s1)
    -- what the program tells of it
    refine ⟨.ref wa, rfl, .ref r, rfl, .ref wa, n, ts, .ref r, rfl, W1, ok, ring_thing R1 (by omega) (by omega), hT1, fun H2 k2 => ?_⟩
    rw [ring_true R1 g]
    have W2 := W1.tk (k2.tk hT1)
    have R2 := R1.tk (k2.tk hT1)
    obtain ⟨r', a2, b2, e2, hr2, ha2, hb2⟩ := id R2
    cases e2
    refine ⟨true, true, rfl, rfl, _, rfl, .ref wa, rfl, .ref r, rfl, .ref wa, n, ts, r, b2, .ref a2, es, rfl, W2, hr2, hb2, g.eb, by omega, fun H3 s3 => ⟨.int (foesI ts es), rfl, rfl, _, rfl, ?_⟩⟩
    rw [decide_eq_true rfl]
    have k13 := k2.trans (Kt.same k2.tab s3)
    have W3 := W2.tk (Same.tk s3)
    have R3 := R2.tk (Same.tk s3)
    refine ⟨.ref wa, rfl, .ref r, rfl, .ref wa, n, ts, .ref r, rfl, W3, ok, ring_thing R3 (by omega) (by omega), k13.tab, fun H4 k4 => ?_⟩
    rw [odd_val R3 g]
    refine ⟨.int (foesI ts es), rfl, _, 2, rfl, rfl, (by show (0 : Int) < 2; decide), rfl, ?_⟩
    have eo : decide (V.int ((foesI ts es : Nat) % 2 : Int) = V.int 1) = decide (foesI ts es % 2 = 1) := by
      rw [decide_eq_decide]
      exact ⟨fun h => by have := V.int.inj h; omega, fun h => by rw [show ((foesI ts es : Nat) : Int) % 2 = 1 by omega]⟩
    refine ⟨decide (foesI ts es % 2 = 1), by rw [eo]; rfl, _, rfl, ?_⟩
    have k14 := k13.trans k4
    have W4 := W3.tk (k4.tk k13.tab)
    have R4 := R3.tk (k4.tk k13.tab)
    have k04 := k01.trans k14
    obtain ⟨r'', a4, b4, e4, hr4, ha4, hb4⟩ := id R4
    cases e4
    obtain ⟨wa', wb4, us4, e5, hwa4, hwb4, hp4⟩ := id W4
    cases e5
    have hul4 : us4.length = ts.length := Paired.length hp4
    have at4 : ∀ e ∈ es, ∃ c, atI us4 e = some (.ref c) ∧ TieV H4 (.ref c) (tieAt ts e) := fun e he => by
      have := g.eb e he
      have et := tieAt_get (ts := ts) this.1 this.2
      obtain ⟨u, eu, c, rfl, hc⟩ := Paired.at' hp4 et
      exact ⟨c, atI_of this.1 eu, c, rfl, hc⟩
    -- the ring alone
    refine ⟨.ref wa, rfl, wa, _, 0, .int n, rfl, rfl, SqT.of hwa4, rfl, .ref r, rfl, r, _, 1, .ref b4, rfl, rfl, SqT.of hr4, rfl, b4, rfl, ⟨_, SqT.of hb4⟩, fun Y nY => ?_⟩
    refine lc_tup (K := K) (xs := es.map V.int) (fun j H' => ∃ vs : List V, H' Y = some (.lst vs) ∧ Paired (TieV H') vs (aloneT ts (es.take j)) ∧ Same H4 H') ⟨[], upd_same, .nil, same_new nY⟩ (fun j H' _ h => by
      obtain ⟨_, _, _, s⟩ := h
      exact SqT.of (s _ _ hb4)) ?_ ?_
    · rintro j x H5 ex ⟨vs, hY, hv, s5⟩
      rw [List.getElem?_map] at ex
      obtain ⟨e, ee, rfl⟩ := Option.map_eq_some_iff.mp ex
      have jl := (List.getElem?_eq_some_iff.mp ee).1
      obtain ⟨c, e1, hc⟩ := at4 e (List.mem_of_getElem? ee)
      have lv := Paired.length hv
      unfold aloneT at lv
      rw [List.length_map, List.length_take] at lv
      refine ⟨rfl, .ref wa, rfl, wa, _, 1, .ref wb4, rfl, rfl, SqT.of (s5 _ _ hwa4), rfl, .int e, rfl, wb4, us4, e, .ref c, rfl, rfl, SqT.of (s5 _ _ hwb4), e1, vs, hY, small1000 (by omega), vs ++ [.ref c], upd_same, ?_, Same.mut s5 nY⟩
      have tk := tk_lst (ys := vs ++ [V.ref c]) hY
      have ea : aloneT ts (es.take (j + 1)) = aloneT ts (es.take j) ++ [tieAt ts e] := by
        unfold aloneT
        rw [List.take_add_one, ee, List.map_append]
        rfl
      rw [ea]
      exact Paired.snoc (ties_tk tk hv) ((hc.tk (Same.tk s5)).tk tk)
    rintro H5 ⟨vs, hY, hv, s5⟩
    rw [List.length_map, List.take_length] at hv
    refine ⟨Y, vs, rfl, .inl ⟨SqL.of hY, fun y ny => ⟨by show 2 ≤ sizeLine; decide, fun x nx => ?_⟩⟩⟩
    have sy := same_new (o := .tup vs) ny
    have sx := same_new (o := .tup [.int n, .ref y]) nx
    have s6 := s5.trans (sy.trans sx)
    have hv6 := ties_tk (Same.tk (sy.trans sx)) hv
    have hy6 := sx _ _ (upd_same (H := H5) (a := y) (o := .tup vs))
    have hx6 := upd_same (H := upd H5 y (.tup vs)) (a := x) (o := .tup [.int n, .ref y])
    generalize upd (upd H5 y (.tup vs)) x (.tup [.int n, .ref y]) = H6 at s6 hv6 hy6 hx6
    clear sy sx hv hY
    have okA := alone_ok ok g.eb (by omega : es.length ≤ 120)
    have hwA : WebAt H6 (.ref x) n (aloneT ts es) := ⟨x, y, vs, rfl, hx6, hy6, hv6⟩
    have lvs : vs.length = es.length := by
      rw [Paired.length hv6]
      unfold aloneT
      exact List.length_map ..
    have k06 := k04.trans (Kt.same k04.tab s6)
    have efo : decide (V.int ((foesI ts es : Nat) % 2 : Int) = V.int 1) = oddF ts es := eo
    refine ⟨fun σ' H' => σ' = [some (.ref wa), some (.ref r), some (.int (foesI ts es)), none, some (.ref x), none] ∧ Same H6 H', ?_, ?_⟩
    · refine ⟨.ref x, rfl, .ref x, n, _, rfl, hwA, okA, fun ss r7 H7 T C s7 h7 => ?_, fun H7 od s7 => ?_⟩
      · have ev := alone_even g ok T C
        refine ⟨rfl, .int (foesI ts es), rfl, _, 2, rfl, rfl, (by show (0 : Int) < 2; decide), rfl, rfl, _, rfl, ?_⟩
        rw [efo, ev]
        exact ⟨rfl, s7⟩
      · have odd := alone_odd g od
        refine ⟨rfl, .int (foesI ts es), rfl, _, 2, rfl, rfl, (by show (0 : Int) < 2; decide), rfl, rfl, _, rfl, ?_⟩
        rw [efo, odd]
        exact ⟨rfl, s7⟩
    rintro σ' H7 ⟨rfl, s7⟩
    have hx7 := s7 _ _ hx6
    have hy7 := s7 _ _ hy6
    have hr7 := s7 _ _ (s6 _ _ hr4)
    have hb7 := s7 _ _ (s6 _ _ hb4)
    have hwa7 := s7 _ _ (s6 _ _ hwa4)
    refine ⟨.ref r, rfl, r, _, 1, .ref b4, rfl, rfl, SqT.of hr7, rfl, b4, _, rfl, .inr (SqT.of hb7), _, rfl, (by rw [List.length_map]; omega), (by rw [List.length_map]; omega), ?_⟩
    rw [Int.toNat_natCast, List.length_map]
    refine for_range (lo := 0) (n := es.length) (fun j σ' H' => ∃ y5 : Option V, σ' = [some (.ref wa), some (.ref r), some (.int (foesI ts es)), none, some (.ref x), y5] ∧ Same H7 H') ⟨_, rfl, Same.refl _⟩ ?_ ?_
    · rintro j σ' H8 hj ⟨y5, rfl, s8⟩
      rw [show (0 : Int) + (j : Nat) = j from by omega]
      refine ⟨.ref wa, rfl, wa, _, 0, .int n, rfl, rfl, SqT.of (s8 _ _ hwa7), rfl, .ref x, rfl, x, _, 1, .ref y, rfl, rfl, SqT.of (s8 _ _ hx7), rfl, .int j, rfl, j, rfl, y, vs, rfl, s8 _ _ hy7, fun c1 H9 s9 h9 => ?_⟩
      have s79 := s8.trans s9
      refine ⟨.ref x, rfl, x, _, 1, .ref y, rfl, rfl, SqT.of (s79 _ _ hx7), rfl, .int j, rfl, _, 1, rfl, rfl, _, rfl, y, vs, rfl, s79 _ _ hy7, fun c2 H10 s10 h10 => ?_⟩
      have lc1 := cutV_length vs none (some (j : Int))
      have lc2 := cutV_length vs (some ((j : Int) + 1)) none
      refine ⟨c1, c2, _, _, rfl, rfl, s10 _ _ h9, h10, by omega, fun c3 H11 s11 h11 => ⟨by show 2 ≤ sizeLine; decide, fun z nz => ?_⟩⟩
      rw [cut_both (by omega)] at h11
      have sz := same_new (o := .tup [.int n, .ref c3]) nz
      have s712 := s79.trans (s10.trans (s11.trans sz))
      have hL : WebAt (upd H11 z (.tup [.int n, .ref c3])) (.ref z) n ((aloneT ts es).eraseIdx j) := ⟨z, c3, _, rfl, upd_same, sz _ _ h11, Paired.less j (ties_tk (Same.tk (s7.trans s712)) hv6)⟩
      refine ⟨.ref z, n, _, rfl, hL, less_ok okA j, fun ss r13 H13 T C s13 h13 => ?_, fun H13 od s13 => absurd od (less_no_odd g hj)⟩
      exact ⟨rfl, _, rfl, _, rfl, s712.trans s13⟩
    · rintro σ' H8 ⟨y5, rfl, s8⟩
      exact q _ (k06.trans (Kt.same k06.tab (s7.trans s8)))
end
/-! ### k14: right -/
theorem first_zero {n : Nat} {ts : List Tie} (ok : ∀ t ∈ ts, TieOk n t) {ss : List Int} (T : Told ts n ss) (C : Cons ss ts) {p : Int} (hp : 0 ≤ p ∧ p < n) (ld : leader ts p) : sd ss p = 0 := by
  obtain ⟨m, l, r⟩ := T.each p hp.1 hp.2
  have em : m = p := by
    have h1 := ld m (⟨_, r.symm⟩ : Rch ts p m)
    have h2 := l p ⟨_, r⟩
    omega
  subst em
  have w := cons_walk T.bin (by rw [T.len]; exact ok) C r
  rw [Bool.xor_self] at w
  have b := sd_bin T.bin hp.1 (by rw [T.len]; exact hp.2)
  unfold one? at w
  rcases b with e | e
  · exact e
  · rw [e] at w
    cases w
theorem Clo.g {n : Nat} {ts : List Tie} {fs : List (List Int × List Int)} (R : RingsG n ts fs) {f : List Int × List Int} (hf : f ∈ fs) : RingG n ts f.1 f.2 := by
  obtain ⟨q, m, h1, h2, rfl⟩ := R.ok f hf
  exact h2.ring h1
def rLenK (K : PySem.W.Frag) : List V → Hp → VK → Prop := fun xs H Q => ∃ p ys, xs = [V.ref p] ∧ (SqL K H p ys ∨ SqT K H p ys) ∧ Q (V.int (ys.length : Nat)) H
theorem big14 {k : Nat} (h : k ≤ 1000000) : k < sizeLine := Nat.lt_of_le_of_lt h (by decide)
theorem hold14 {n : Nat} {ts : List Tie} {H : Hp} {a : Addr} {ss : List Int} (h : H a = some (.tup (ss.map V.int))) (l : ss.length = n) (b : Bin ss) : holdB n ts (parts H (.ref a)) = (bad ss ts).isEmpty := by
  rw [parts_of' h, bad_all]
  show (decide (((ss.map V.int).length : Int) = n) && (ss.map V.int).all (wbelow 2) && ts.all fun t => !brk ((ss.map V.int).map toI) t) = _
  rw [toI_ints, List.length_map, decide_eq_true (by rw [l] : (ss.length : Int) = n)]
  have : (ss.map V.int).all (wbelow 2) = true := by
    rw [List.all_eq_true]
    intro x hx
    obtain ⟨z, hz, rfl⟩ := List.mem_map.mp hx
    have := b z hz
    show (decide (0 ≤ z) && decide (z < 2)) = true
    rw [decide_eq_true (by omega), decide_eq_true (by omega)]
    rfl
  rw [this]
  rfl
def spRight14 (Ps : List Addr) : Sp := fun vs H Q _ => ∃ (wv : V) (n : Nat) (ts : List Tie), vs = [wv] ∧ WebAt H wv n ts ∧ WebOk n ts ∧ n ≤ 5 ∧ ts.length ≤ 9 ∧ Tabs Ps H ∧ ∀ H', Kt Ps H H' → Q (.bl true) H'
section
variable {P : Program} {w : World} {K : PySem.W.Frag} {mg : Str → Option Value} {base : Heap}
set_option maxHeartbeats 8000000 in
theorem ok_l_right {f : Addr} {fd : FuncData} {Ps : List Addr} (F : Fun K "_law_right" "_law_right" s_l_right f fd) (M : Free mg) (D_l_rings : Df P w K mg base 1 "_law_rings" ["_law_web_here"] spRings) (D_sides_of : Df P w K mg base 3 "sides_of" ["web"] spFixed) (D_l_firsts : Df P w K mg base 1 "_law_firsts" ["_law_web_here"] spFirsts) (D_l_broken : Df P w K mg base 1 "_law_broken" ["_law_web_here", "_law_sides"] spBroken) (D_l_all_sides : Df P w K mg base 1 "_law_all_sides" ["_law_many"] spAllSides) (D_sides_hold : Df P w K mg base 5 "sides_hold" ["web", "thing"] (spSidesHold Ps)) (D_l_same : Df P w K mg base 1 "_law_same" ["_law_found", "_law_due"] spSameB) (D_broken_by : Df P w K mg base 2 "broken_by" ["web", "sides"] spBroken) (D_l_ring_right : Df P w K mg base 7 "_law_ring_right" ["_law_web_here", "_law_ring"] (spRingRight Ps)) : FnOk P w K mg base CX0 8 f fd ["_law_web_here"] (spRight14 Ps) := by
  obtain ⟨f_l_rings, fd_l_rings, G_l_rings, g_l_rings, k_l_rings, b_l_rings⟩ := D_l_rings
  obtain ⟨f_sides_of, fd_sides_of, G_sides_of, g_sides_of, k_sides_of, b_sides_of⟩ := D_sides_of
  obtain ⟨f_l_firsts, fd_l_firsts, G_l_firsts, g_l_firsts, k_l_firsts, b_l_firsts⟩ := D_l_firsts
  obtain ⟨f_l_broken, fd_l_broken, G_l_broken, g_l_broken, k_l_broken, b_l_broken⟩ := D_l_broken
  obtain ⟨f_l_all_sides, fd_l_all_sides, G_l_all_sides, g_l_all_sides, k_l_all_sides, b_l_all_sides⟩ := D_l_all_sides
  obtain ⟨f_sides_hold, fd_sides_hold, G_sides_hold, g_sides_hold, k_sides_hold, b_sides_hold⟩ := D_sides_hold
  obtain ⟨f_l_same, fd_l_same, G_l_same, g_l_same, k_l_same, b_l_same⟩ := D_l_same
  obtain ⟨f_broken_by, fd_broken_by, G_broken_by, g_broken_by, k_broken_by, b_broken_by⟩ := D_broken_by
  obtain ⟨f_l_ring_right, fd_l_ring_right, G_l_ring_right, g_l_ring_right, k_l_ring_right, b_l_ring_right⟩ := D_l_ring_right
  refine F.ok sc_l_right (fun vs H Q E h => ?_) (fun cdv A outer s H vs Q E hr h => ?_)
  · obtain ⟨wv, n, ts, rfl, _⟩ := h
    rfl
  · obtain ⟨wv, n, ts, rfl, hW, ok, n5, t9, hT, q⟩ := h
    refine ⟨_, (pss_cons (ps_set (i := 1) sc_l_right.nd rfl (.inl rfl) (pe_call G_l_rings (hr.mono (by decide)) (by rfl) g_l_rings k_l_rings b_l_rings .nil pass0 (pa_cons (pv 0) pa_nil)))
      (pss_cons (ps_setLc (i := 2) (own := [("_law_ring", 3)]) (g := (gName 3)) (te := tVar 3) rfl sc_l_right.nd rfl rfl (sw_true rfl rfl rfl (by decide +kernel)) (pi_list (pv 1)) (blkOk_by (N := N_l_right) (sc := defScope s_l_right) (own := [("_law_ring", 3)]) (by decide +kernel)) (fun _ _ _ _ _ => (pg_name (i := 3) sc_l_right.nd rfl (.inl rfl))) (fun _ _ _ _ _ => (pts_one (pt_cmpR op_eq (pe_op op_mod (pe_callB (r := rLenK K) call_len_seq (by rfl) M.len PySem.boot_len (pa_cons (pe_lc (wi := iTup K (tOp (rIxT K) (tVar 3) (tC (.int 1)))) (own := [("_law_tie", 4)]) (g := (gName 4)) (te := tVar 4) rfl sc_l_right.nd (pi_tup (pe_ix (r := rIxT K) ix_tup (pv 3) pe_int (fun _ _ => rfl))) (blkOk_by (N := N_l_right) (sc := { kind := ScopeKind.function, names := [(".0", NameKind.local), ("_law_ring", NameKind.local), ("len", NameKind.globalImplicit), ("_law_web_here", NameKind.cell)], isGenerator := false, isCoroutine := false }) (own := [("_law_tie", 4)]) (by decide +kernel)) (fun _ _ _ _ _ => (pg_name (i := 4) sc_l_right.nd rfl (.inl rfl))) (fun _ _ _ _ _ => (pts_one (pt_cmpR op_eq (pe_ix (r := rIxT K) ix_tup (pe_ix (r := rIxT K) ix_tup (pe_ix (r := rIxT K) ix_tup (pv 0) pe_int (fun _ _ => rfl)) (pv 4) (fun _ _ => rfl)) pe_int (fun _ _ => rfl)) pe_str (nomark _)))) (fun _ _ _ _ _ => (pv 4))) pa_nil)) pe_int) pe_int (nomark _)))) (fun _ _ _ _ _ => (pv 3)))
      (Evl.pss_cut (ps_set (i := 5) sc_l_right.nd rfl (.inr rfl) (pe_call G_sides_of (hr.mono (by decide)) (by rfl) g_sides_of k_sides_of b_sides_of .nil pass0 (pa_cons (pv 0) pa_nil)))
      (Evl.pss_cut (ps_if (pt_cmpR op_ne (pe_cmpR op_isN (pv 5) pe_non (nomark _)) (pe_cmpR (op_neE hr.units0) (pv 2) (pe_lst pa_nil) (nomark _)) (nomark _))
        (pss_one (ps_ret pe_bl))
        pss_nil)
      (Evl.pss_cut (ps_if (pt_cmpR op_notN (pv 5) pe_non (nomark _))
        (pss_one (ps_if (PW.pt (pw_or (pt_cmpR (op_neD hr.units) (pe_call G_l_broken (hr.mono (by decide)) (by rfl) g_l_broken k_l_broken b_l_broken .nil pass0 (pa_cons (pv 0) (pa_cons (pv 5) pa_nil))) (pe_tup pa_nil) (nomark _)) (pw_or1 (pt_cmpR (op_neE hr.units0) (pe_lc (own := [("_law_place", 6)]) (g := (gName 6)) (te := tVar 6) rfl sc_l_right.nd (pi_list (pe_call G_l_firsts (hr.mono (by decide)) (by rfl) g_l_firsts k_l_firsts b_l_firsts .nil pass0 (pa_cons (pv 0) pa_nil))) (blkOk_by (N := N_l_right) (sc := defScope s_l_right) (own := [("_law_place", 6)]) (by decide +kernel)) (fun _ _ _ _ _ => (pg_name (i := 6) sc_l_right.nd rfl (.inl rfl))) (fun _ _ _ _ _ => (pts_one (pt_cmpR op_ne (pe_ix (r := rIxT K) ix_tup (pv 5) (pv 6) (fun _ _ => rfl)) pe_int (nomark _)))) (fun _ _ _ _ _ => (pv 6))) (pe_lst pa_nil) (nomark _)))))
          (pss_one (ps_ret pe_bl))
          pss_nil))
        pss_nil)
      (pss_cons (ps_for PassesOwn.never rfl (pi_list (pe_call G_l_all_sides (hr.mono (by decide)) (by rfl) g_l_all_sides k_l_all_sides b_l_all_sides .nil pass0 (pa_cons (pe_ix ix_tup (pv 0) pe_int (fun _ _ => rfl)) pa_nil))) (pg_name (i := 7) sc_l_right.nd rfl (.inl rfl))
        (pss_cons (ps_set (i := 8) sc_l_right.nd rfl (.inl rfl) (pe_call G_l_broken (hr.mono (by decide)) (by rfl) g_l_broken k_l_broken b_l_broken .nil pass0 (pa_cons (pv 0) (pa_cons (pv 7) pa_nil))))
        (pss_cons (ps_if (PW.pt (pw_or (pt_cmpR (op_neD hr.units) (pe_call G_broken_by (hr.mono (by decide)) (by rfl) g_broken_by k_broken_by b_broken_by .nil pass0 (pa_cons (pv 0) (pa_cons (pv 7) pa_nil))) (pv 8) (nomark _)) (pw_or1 (pt_not (pt_val (pe_call G_l_same (hr.mono (by decide)) (by rfl) g_l_same k_l_same b_l_same .nil pass0 (pa_cons (pe_call G_sides_hold (hr.mono (by decide)) (by rfl) g_sides_hold k_sides_hold b_sides_hold .nil pass0 (pa_cons (pv 0) (pa_cons (pv 7) pa_nil))) (pa_cons (pe_cmpR (op_eqD hr.units) (pv 8) (pe_tup pa_nil) (nomark _)) pa_nil))))))))
          (pss_one (ps_ret pe_bl))
          pss_nil)
        (pss_one (ps_if (PW.pt (pw_and (pt_cmpR op_isN (pv 5) pe_non (nomark _)) (pw_and1 (pt_cmpR (op_eqD hr.units) (pv 8) (pe_tup pa_nil) (nomark _)))))
          (pss_one (ps_ret pe_bl))
          pss_nil)))))
      (pss_cons (ps_for PassesOwn.never rfl (pi_list (pe_op op_cat (pe_slice sl_list (pv 1) po_none (po_some pe_int)) (pe_slice sl_list (pv 1) (po_some (pe_un un_neg pe_int)) po_none))) (pg_name (i := 3) sc_l_right.nd rfl (.inl rfl))
        (pss_one (ps_if (pt_not (pt_val (pe_call G_l_ring_right (hr.mono (by decide)) (by rfl) g_l_ring_right k_l_ring_right b_l_ring_right .nil pass0 (pa_cons (pv 0) (pa_cons (pv 3) pa_nil)))))
          (pss_one (ps_ret pe_bl))
          pss_nil)))
      (pss_one (ps_ret pe_bl))))))))), ?_⟩
    have n1 := ok.lo
    obtain ⟨wa, wb, us, rfl, hwa, hwb, hp⟩ := id hW
    have hul : us.length = ts.length := Paired.length hp
    refine ⟨.ref wa, rfl, .ref wa, n, ts, rfl, hW, ok, n5, t9, fun L fv fs H1 hL hf R lf s1 => ?_⟩
    have lfv := Paired.length hf
    -- the odd ones
    refine ⟨.ref L, rfl, L, rfl, ⟨_, SqL.of hL⟩, fun Z nZ => ?_⟩
    refine lc_list (K := K) (xs := fv) (fun j H' => ∃ zs : List V, H' Z = some (.lst zs) ∧ zs.length ≤ j ∧ (zs ≠ [] ↔ ∃ k f, k < j ∧ fs[k]? = some f ∧ oddF ts f.2 = true) ∧ Same H1 H') ⟨[], upd_same, Nat.le_refl _, ⟨fun h => absurd rfl h, fun ⟨k, _, h, _⟩ => absurd h (Nat.not_lt_zero _)⟩, same_new nZ⟩ (fun j H' _ h => by
      obtain ⟨_, _, _, _, s⟩ := h
      exact SqL.of (s _ _ hL)) ?_ ?_
    · rintro j x H2 ex ⟨zs, hZ, lz, iz, s2⟩
      obtain ⟨f, ef, r, a, b, rfl, hr, ha, hb⟩ := Paired.at hf ex
      have g := Clo.g R (List.mem_of_getElem? ef)
      have lp : f.1.length ≤ n := pigeon n f.1 g.pd g.pb
      have le := g.len
      have jl := (List.getElem?_eq_some_iff.mp ex).1
      have hr2 := s2 _ _ hr
      have hb2 := s2 _ _ hb
      refine ⟨rfl, .ref r, rfl, r, _, 1, .ref b, rfl, rfl, SqT.of hr2, rfl, b, rfl, ⟨_, SqT.of hb2⟩, fun Y nY => ?_⟩
      refine lc_tup (K := K) (xs := f.2.map V.int) (fun j H' => H' Y = some (.lst (((f.2.take j).filter fun e => (tieAt ts e).foe).map V.int)) ∧ Same H2 H') ⟨upd_same, same_new nY⟩ (fun j H' _ h => SqT.of (h.2 _ _ hb2)) ?_ ?_
      · rintro i x H3 ei ⟨hY, s3⟩
        rw [List.getElem?_map] at ei
        obtain ⟨e, ee, rfl⟩ := Option.map_eq_some_iff.mp ei
        have il := (List.getElem?_eq_some_iff.mp ee).1
        have := g.eb e (List.mem_of_getElem? ee)
        have et := tieAt_get (ts := ts) this.1 this.2
        obtain ⟨u, eu, c, rfl, hc⟩ := Paired.at' hp et
        have s03 := s1.trans (s2.trans s3)
        refine ⟨rfl, .ref wa, rfl, wa, _, 1, .ref wb, rfl, rfl, SqT.of (s03 _ _ hwa), rfl, .int e, rfl, wb, us, e, .ref c, rfl, rfl, SqT.of (s03 _ _ hwb), atI_of this.1 eu, c, _, 2, _, rfl, rfl, SqT.of (s03 _ _ hc), rfl, rfl, _, rfl, ?_⟩
        rw [eqFoe14, foesI_take ts f.2 ee]
        have lfl := List.length_filter_le (fun e => (tieAt ts e).foe) (f.2.take i)
        rw [List.length_take] at lfl
        cases (tieAt ts e).foe with
        | true => exact ⟨.int e, rfl, _, hY, by rw [List.length_map]; exact small1000 (by omega), by rw [upd_same, List.map_append]; rfl, Same.mut s3 nY⟩
        | false =>
          rw [if_neg (by decide), List.append_nil]
          exact ⟨hY, s3⟩
      rintro H3 ⟨hY, s3⟩
      rw [List.length_map, List.take_length] at hY
      refine ⟨Y, _, rfl, .inl (SqL.of hY), _, 2, rfl, rfl, (by show (0 : Int) < 2; decide), rfl, _, rfl, ?_⟩
      rw [List.length_map]
      have eo : decide (V.int (((f.2.filter fun e => (tieAt ts e).foe).length : Nat) % 2 : Int) = V.int 1) = oddF ts f.2 := by
        show _ = decide (foesI ts f.2 % 2 = 1)
        rw [decide_eq_decide]
        unfold foesI
        exact ⟨fun h => by have := V.int.inj h; omega, fun h => by rw [show (((f.2.filter fun e => (tieAt ts e).foe).length : Nat) : Int) % 2 = 1 by omega]⟩
      rw [eo]
      have up : ∀ {k}, k < j + 1 → k ≠ j → k < j := fun h1 h2 => by omega
      cases hod : oddF ts f.2 with
      | true =>
        refine ⟨.ref r, rfl, zs, s3 _ _ hZ, big14 (by omega), zs ++ [.ref r], upd_same, by rw [List.length_append]; simp only [List.length_cons, List.length_nil]; omega, ⟨fun _ => ⟨j, f, Nat.lt_succ_self _, ef, hod⟩, fun _ => by simp⟩, Same.mut (s2.trans s3) nZ⟩
      | false =>
        refine ⟨zs, s3 _ _ hZ, by omega, ⟨fun h => ?_, fun ⟨k, f', hk, e1, e2⟩ => ?_⟩, s2.trans s3⟩
        · obtain ⟨k, f', hk, e1, e2⟩ := iz.mp h
          exact ⟨k, f', by omega, e1, e2⟩
        · refine iz.mpr ⟨k, f', up hk (fun z => ?_), e1, e2⟩
          subst z
          rw [ef] at e1
          cases e1
          rw [hod] at e2
          cases e2
    rintro H2 ⟨zs, hZ, lz, iz, s2⟩
    have s02 := s1.trans s2
    have W2 := hW.tk (Same.tk s02)
    -- sides
    refine ⟨fun σ' H' => ∃ v5 : V, σ' = [some (.ref wa), some (.ref L), some (.ref Z), none, none, some v5, none, none, none] ∧ Same H2 H' ∧ ((∃ r ss, v5 = .ref r ∧ H' r = some (.tup (ss.map V.int)) ∧ Told ts n ss ∧ Cons ss ts) ∨ (v5 = .non ∧ Odd ts n)), ?_, ?_⟩
    · refine ⟨.ref wa, rfl, .ref wa, n, ts, rfl, W2, ok, fun ss r H3 T C s3 h3 => ⟨_, rfl, s3, .inl ⟨r, ss, rfl, h3, T, C⟩⟩, fun H3 od s3 => ⟨_, rfl, s3, .inr ⟨rfl, od⟩⟩⟩
    rintro σ' H3 ⟨v5, rfl, s3, told⟩
    have s03 := s02.trans s3
    have hZ3 := s3 _ _ hZ
    have allE : ∀ ss, Told ts n ss → Cons ss ts → ∀ f ∈ fs, oddF ts f.2 = false := fun ss T C f hf' => by
      have g := Clo.g R hf'
      refine ring_par g (c := one? ss) fun w hw => ?_
      have := g.eb w hw
      exact cons_col ok.ok T C (List.mem_of_getElem? (tieAt_get (ts := ts) this.1 this.2))
    have ez : (∃ r, v5 = .ref r ∧ zs = []) ∨ (v5 = .non ∧ zs ≠ []) := by
      rcases told with ⟨r, ss, rfl, h, T, C⟩ | ⟨rfl, od⟩
      · refine .inl ⟨r, rfl, Classical.byContradiction fun h => ?_⟩
        obtain ⟨k, f, _, e1, e2⟩ := iz.mp h
        rw [allE ss T C f (List.mem_of_getElem? e1)] at e2
        cases e2
      · obtain ⟨p, m, h1, h2, h3⟩ := odd_ring ok.ok od
        obtain ⟨k, hk⟩ := List.getElem?_of_mem (R.all p m h1 h2)
        exact .inr ⟨rfl, iz.mpr ⟨k, _, by rw [lfv]; exact (List.getElem?_eq_some_iff.mp hk).1, hk, h3⟩⟩
    -- sides just where none is odd
    have k03 : Kt Ps H H3 := Kt.same hT s03
    -- the first test
    refine ⟨fun σ' H' => σ' = [some (.ref wa), some (.ref L), some (.ref Z), none, none, some v5, none, none, none] ∧ Same H3 H', ?_, ?_⟩
    · rcases ez with ⟨r, rfl, rfl⟩ | ⟨rfl, hz⟩
      · refine ⟨.ref r, rfl, rfl, .ref Z, rfl, Nat.zero_le _, fun e ne => ⟨Z, e, _, rfl, rfl, SqL.of (same_new ne _ _ hZ3), SqL.of upd_same, rfl, _, rfl, ?_⟩⟩
        exact ⟨rfl, same_new ne⟩
      · refine ⟨.non, rfl, rfl, .ref Z, rfl, Nat.zero_le _, fun e ne => ⟨Z, e, _, rfl, rfl, SqL.of (same_new ne _ _ hZ3), SqL.of upd_same, rfl, _, rfl, ?_⟩⟩
        cases zs with
        | nil => exact absurd rfl hz
        | cons _ _ => exact ⟨rfl, same_new ne⟩
    rintro σ' H3' ⟨rfl, s3'⟩
    -- the sides that are told
    refine ⟨fun σ' H' => σ' = [some (.ref wa), some (.ref L), some (.ref Z), none, none, some v5, none, none, none] ∧ Same H3 H', ?_, ?_⟩
    · rcases told with ⟨r, ss, rfl, h5, T, C⟩ | ⟨rfl, od⟩
      · refine ⟨.ref r, rfl, rfl, _, rfl, ?_⟩
        have W3 := W2.tk (Same.tk (s3.trans s3'))
        have lss : (ss.length : Int) = n := by rw [T.len]
        have badn : bad ss ts = [] := bad_nil.mpr C
        refine ⟨.ref wa, rfl, .ref r, rfl, .ref wa, r, n, ts, ss, rfl, W3, ok, s3' _ _ h5, lss, fun r2 H4 s4 h4 => ⟨by show 0 ≤ sizeLine; decide, fun e0 ne0 => ?_⟩⟩
        have se := same_new (o := .tup []) ne0
        refine ⟨intsD _, intsD [], IntsV.dp ⟨r2, rfl, se _ _ h4⟩, IntsV.dp ⟨e0, rfl, upd_same⟩, shaped_intsD _, shaped_intsD _, _, rfl, ?_⟩
        rw [eqv_nil, badn]
        have s35 := s3'.trans (s4.trans se)
        have h55 := s35 _ _ h5
        have W5 := W2.tk (Same.tk (s3.trans s35))
        refine ⟨.ref wa, rfl, .ref wa, n, ts, rfl, W5, ok, fun L2 ps H6 hL2 lps led s6 => ⟨L2, rfl, ⟨_, SqL.of hL2⟩, fun Y nY => ?_⟩⟩
        refine lc_list (K := K) (xs := ps.map V.int) (fun j H' => H' Y = some (.lst []) ∧ Same H6 H') ⟨upd_same, same_new nY⟩ (fun j H' _ h => SqL.of (h.2 _ _ hL2)) ?_ ?_
        · rintro j x H7 ex ⟨hY, s7⟩
          rw [List.getElem?_map] at ex
          obtain ⟨p, ep, rfl⟩ := Option.map_eq_some_iff.mp ex
          obtain ⟨pr, pl⟩ := led p (List.mem_of_getElem? ep)
          refine ⟨rfl, .ref r, rfl, .int p, rfl, r, _, p, _, rfl, rfl, SqT.of ((s6.trans s7) _ _ h55), atI_sd pr.1 (by rw [T.len]; exact pr.2), rfl, _, rfl, ?_⟩
          rw [first_zero ok.ok T C pr pl]
          exact ⟨hY, s7⟩
        · rintro H7 ⟨hY, s7⟩
          refine ⟨by show 0 ≤ sizeLine; decide, fun e1 ne1 => ⟨Y, e1, _, rfl, rfl, SqL.of (same_new ne1 _ _ hY), SqL.of upd_same, _, rfl, ?_⟩⟩
          exact ⟨rfl, s35.trans (s6.trans (s7.trans (same_new ne1)))⟩
      · exact ⟨.non, rfl, rfl, _, rfl, rfl, s3'⟩
    rintro σ' H4 ⟨rfl, s4⟩
    have k04 := k03.trans (Kt.same k03.tab s4)
    have hL4 : H4 L = some (.lst fv) := s4 _ _ (s3 _ _ (s2 _ _ hL))
    have hf4 : Paired (fun v p => RingAt H4 v p.1 p.2) fv fs := L2.Paired.mapP hf fun _ _ r => r.tk (Same.tk (s2.trans (s3.trans s4)))
    have W4 := hW.tk (k04.tk hT)
    obtain ⟨wa', wb4, us4, e4, hwa4, hwb4, _⟩ := id W4
    cases e4
    -- all sides
    refine ⟨.ref wa, rfl, wa, _, 0, .int n, rfl, rfl, SqT.of hwa4, rfl, n, rfl, n5, fun AS xs H5 hA hx s5 => ⟨AS, rfl, ⟨_, SqL.of hA⟩, ?_⟩⟩
    have k05 := k04.trans (Kt.same k04.tab s5)
    have noC : ∀ ss2 : List Int, ss2.length = n → Bin ss2 → v5 = .non → bad ss2 ts ≠ [] := fun ss2 l2 b2 ev e => by
      rcases told with ⟨r, ss, e', _⟩ | ⟨_, od⟩
      · rw [ev] at e'
        cases e'
      · exact cons_no_odd b2 (by rw [l2]; exact ok.ok) (bad_nil.mp e) od
    have v5c : v5 = .non ∨ ∃ r, v5 = .ref r := by
      rcases told with ⟨r, ss, e', _⟩ | ⟨e, od⟩
      · exact .inr ⟨r, e'⟩
      · exact .inl e
    refine for_list (xs := xs) (fun j σ' H' => ∃ (y7 y8 : Option V), σ' = [some (.ref wa), some (.ref L), some (.ref Z), none, none, some v5, none, y7, y8] ∧ Kt Ps H5 H') ⟨_, _, rfl, Kt.refl k05.tab⟩ (fun j σ' H' _ h => by
      obtain ⟨_, _, _, k⟩ := h
      exact SqL.of (k.lst k05.tab hA)) ?_ ?_
    · rintro j x σ' H6 ex ⟨y7, y8, rfl, k56⟩
      obtain ⟨a, ss2, rfl, ha, l2, b2⟩ := hx x (List.mem_of_getElem? ex)
      have k06 := k05.trans k56
      have ha6 := k56.tup k05.tab ha
      have W6 := hW.tk (k06.tk hT)
      have lb : (bad ss2 ts).length ≤ ts.length := badTo_len ss2 ts ts.length
      refine ⟨.ref wa, rfl, .ref a, rfl, .ref wa, a, n, ts, ss2, rfl, W6, ok, ha6, by rw [l2], fun r2 H7 s7 h7 => ?_⟩
      refine ⟨.ref wa, rfl, .ref a, rfl, .ref wa, a, n, ts, ss2, rfl, W6.tk (Same.tk s7), ok, s7 _ _ ha6, by rw [l2], fun r3 H8 s8 h8 => ⟨.ref r2, rfl, intsD _, intsD _, IntsV.dp ⟨r3, rfl, h8⟩, IntsV.dp ⟨r2, rfl, s8 _ _ h7⟩, shaped_intsD _, shaped_intsD _, _, rfl, ?_⟩⟩
      rw [SeqAt.eqv_refl _ (lay_intsD _)]
      have s68 := s7.trans s8
      have k68 : Kt Ps H6 H8 := Kt.same k06.tab s68
      have ha8 := s68 _ _ ha6
      have knw : Knw H8 (.ref a) := ⟨.inr (.inl ⟨_, ha8⟩), fun ys e => by
        rw [parts_of' ha8] at e
        cases e
        refine ⟨by rw [List.length_map]; omega, fun y hy => ?_⟩
        obtain ⟨z, _, rfl⟩ := List.mem_map.mp hy
        trivial⟩
      refine ⟨.ref wa, rfl, .ref a, rfl, .ref wa, n, ts, .ref a, rfl, W6.tk (Same.tk s68), ok, knw, k68.tab, fun H9 k9 => ?_⟩
      rw [hold14 ha8 l2 b2]
      have k69 := k68.trans k9
      have h79 := k9.tup k68.tab (s8 _ _ h7)
      refine ⟨.ref r2, rfl, by show 0 ≤ sizeLine; decide, fun e0 ne0 => ?_⟩
      have se := same_new (o := .tup []) ne0
      refine ⟨intsD _, intsD [], IntsV.dp ⟨r2, rfl, se _ _ h79⟩, IntsV.dp ⟨e0, rfl, upd_same⟩, shaped_intsD _, shaped_intsD _, ?_⟩
      rw [eqv_nil]
      refine ⟨_, rfl, _, rfl, ?_⟩
      have k610 := k69.trans (Kt.same k69.tab se)
      have h710 := se _ _ h79
      have fin : ∀ {H11 : Hp}, Same (upd H9 e0 (.tup [])) H11 → Kt Ps H5 H11 := fun s => k56.trans (k610.trans (Kt.same k610.tab s))
      rcases v5c with rfl | ⟨r, rfl⟩
      · refine ⟨.non, rfl, rfl, _, rfl, ?_⟩
        refine ⟨.ref r2, rfl, by show 0 ≤ sizeLine; decide, fun e1 ne1 => ?_⟩
        have se1 := same_new (o := .tup []) ne1
        refine ⟨intsD _, intsD [], IntsV.dp ⟨r2, rfl, se1 _ _ h710⟩, IntsV.dp ⟨e1, rfl, upd_same⟩, shaped_intsD _, shaped_intsD _, _, rfl, ?_⟩
        rw [eqv_nil]
        have : (bad ss2 ts).isEmpty = false := by
          cases hb : bad ss2 ts with
          | nil => exact absurd hb (noC ss2 l2 b2 rfl)
          | cons _ _ => rfl
        rw [this]
        exact ⟨_, _, rfl, fin se1⟩
      · exact ⟨.ref r, rfl, rfl, _, rfl, _, _, rfl, fin (Same.refl _)⟩
    rintro σ' H6 ⟨y7, y8, rfl, k56⟩
    have k06 := k05.trans k56
    have hL6 := k56.lst k05.tab (s5 _ _ hL4)
    have hf6 : Paired (fun v p => RingAt H6 v p.1 p.2) fv fs := L2.Paired.mapP hf4 fun _ _ r => r.tk ((Same.tk s5).trans (k56.tk k05.tab))
    -- ring by ring
    refine ⟨.ref L, rfl, 40, rfl, L, _, rfl, SqL.of hL6, fun z1 e1 => ?_⟩
    have u1 := same_new (o := .lst (cutV fv none (some 40))) e1
    refine ⟨.ref L, rfl, 40, rfl, -40, rfl, L, _, rfl, SqL.of (u1 _ _ hL6), fun z2 e2 => ?_⟩
    have u2 := same_new (o := .lst (cutV fv (some (-40)) none)) e2
    have c1 := cutV_length fv none (some 40)
    have c2 := cutV_length fv (some (-40)) none
    refine ⟨z1, z2, _, _, rfl, rfl, u2 _ _ upd_same, upd_same, Nat.le_of_lt (big14 (by omega)), fun z3 e3 => ?_⟩
    have u3 := same_new (o := .lst (cutV fv none (some 40) ++ cutV fv (some (-40)) none)) e3
    have u13 := u1.trans (u2.trans u3)
    refine ⟨z3, rfl, ⟨_, SqL.of upd_same⟩, ?_⟩
    have h3' := upd_same (H := upd (upd H6 z1 (.lst (cutV fv none (some 40)))) z2 (.lst (cutV fv (some (-40)) none))) (a := z3) (o := .lst (cutV fv none (some 40) ++ cutV fv (some (-40)) none))
    have mem : ∀ x ∈ cutV fv none (some 40) ++ cutV fv (some (-40)) none, x ∈ fv := fun x hx => by
      rcases List.mem_append.mp hx with h | h <;> exact List.mem_of_mem_drop (List.mem_of_mem_take h)
    generalize upd (upd (upd H6 z1 (.lst (cutV fv none (some 40)))) z2 (.lst (cutV fv (some (-40)) none))) z3 (.lst (cutV fv none (some 40) ++ cutV fv (some (-40)) none)) = H7 at u13 h3'
    have k07 := k06.trans (Kt.same k06.tab u13)
    have hf7 : Paired (fun v p => RingAt H7 v p.1 p.2) fv fs := L2.Paired.mapP hf6 fun _ _ r => r.tk (Same.tk u13)
    refine for_list (xs := cutV fv none (some 40) ++ cutV fv (some (-40)) none) (fun j σ' H' => ∃ (y3 : Option V), σ' = [some (.ref wa), some (.ref L), some (.ref Z), y3, none, some v5, none, y7, y8] ∧ Kt Ps H7 H') ⟨_, rfl, Kt.refl k07.tab⟩ (fun j σ' H' _ h => by
      obtain ⟨_, _, k⟩ := h
      exact SqL.of (k.lst k07.tab h3')) ?_ ?_
    · rintro j x σ' H8 ex ⟨y3, rfl, k78⟩
      obtain ⟨i, ei⟩ := List.getElem?_of_mem (mem x (List.mem_of_getElem? ex))
      obtain ⟨f, ef, rf⟩ := Paired.at hf7 ei
      have k08 := k07.trans k78
      have g := Clo.g R (List.mem_of_getElem? ef)
      exact ⟨.ref wa, rfl, x, rfl, .ref wa, x, n, ts, f.1, f.2, rfl, hW.tk (k08.tk hT), ok, rf.tk (k78.tk k07.tab), g, k08.tab, fun H' k' => ⟨_, rfl, _, rfl, k78.trans k'⟩⟩
    · rintro σ' H8 ⟨y3, rfl, k78⟩
      exact q _ (k07.trans k78)
end
/-! ### k14: the law -/
theorem Deck.kt14 {Ps : List Addr} {d c : Addr} {H H' : Hp} (k : Kt Ps H H') (t : Tabs Ps H) (D : Deck H d c) : Deck H' d c := by
  obtain ⟨cells, st, n, h1, h2, h3⟩ := D
  exact ⟨cells, st, n, k.lst t h1, k.lst t h2, h3⟩
theorem Tabs.kp {Ps : List Addr} {d c : Addr} {H H' : Hp} (t : Tabs Ps H) (k : Kp d c H H') (D : Deck H d c) : Tabs Ps H' := fun P hP => by
  obtain ⟨ps, e, x⟩ := t P hP
  obtain ⟨cells, st, n, e1, e2, _⟩ := D
  exact ⟨ps, k _ _ (ne_of e e1 (by intro z; cases z)) (ne_of e e2 (by intro z; cases z)) e, x⟩
def spLaw (K : PySem.W.Frag) (Ps : List Addr) : Sp := fun vs H Q _ => ∃ (a : Addr) (ns : List Int), vs = [.ref a] ∧ SqL K H a (ns.map V.int) ∧ ns.length ≤ 63 ∧ Tabs Ps H ∧ ∀ H', Q (.bl true) H'
section
variable {P : Program} {w : World} {K : PySem.W.Frag} {mg : Str → Option Value} {base : Heap}
set_option maxHeartbeats 2000000 in
theorem ok_law {f : Addr} {fd : FuncData} {Ps : List Addr} (F : Fun K "law" "law" s_law f fd) (M : Free mg) (m_repr : mg "repr" = none) (D_l_deck : Df P w K mg base 1 "_law_deck" ["_law_script"] (spDeck K)) (D_l_web : Df P w K mg base 2 "_law_web" ["_law_deck_here"] spWeb14) (D_l_right : Df P w K mg base 8 "_law_right" ["_law_web_here"] (spRight14 Ps)) : FnG P w K mg base 9 f fd ["_law_script"] (spLaw K Ps) := by
  obtain ⟨f_l_deck, fd_l_deck, G_l_deck, g_l_deck, k_l_deck, b_l_deck⟩ := D_l_deck
  obtain ⟨f_l_web, fd_l_web, G_l_web, g_l_web, k_l_web, b_l_web⟩ := D_l_web
  obtain ⟨f_l_right, fd_l_right, G_l_right, g_l_right, k_l_right, b_l_right⟩ := D_l_right
  refine okG F sc_law (fun vs H Q E h => ?_) (fun cdv A outer s H vs Q E hG hr h => ?_)
  · obtain ⟨sc, ns, rfl, _⟩ := h
    rfl
  · obtain ⟨sc, ns, rfl, hS, hlen, hT, q⟩ := h
    refine ⟨_, (pss_cons (ps_set (i := 1) sc_law.nd rfl (.inl rfl) (pe_call G_l_deck (hr.mono (by decide)) (by rfl) g_l_deck k_l_deck b_l_deck .nil pass0 (pa_cons (pv 0) pa_nil)))
      (pss_cons (ps_for PassesOwn.never rfl (pi_range1 (by rfl) M.range (pa_cons pe_int pa_nil)) (pg_name (i := 2) sc_law.nd rfl (.inl rfl))
        (pss_cons (ps_set (i := 3) sc_law.nd rfl (.inl rfl) (pe_call G_l_web (hr.mono (by decide)) (by rfl) g_l_web k_l_web b_l_web .nil pass0 (pa_cons (pv 1) pa_nil)))
        (pss_cons (ps_set (i := 4) sc_law.nd rfl (.inl rfl) (pe_callB (call_reprD hG hr.units) (by rfl) m_repr (by decide +kernel) (pa_cons (pv 3) pa_nil)))
        (pss_one (ps_if (PW.pt (pw_or (pt_not (pt_val (pe_call G_l_right (hr.mono (by decide)) (by rfl) g_l_right k_l_right b_l_right .nil pass0 (pa_cons (pv 3) pa_nil)))) (pw_or1 (pt_cmpR op_ne (pe_callB (call_reprD hG hr.units) (by rfl) m_repr (by decide +kernel) (pa_cons (pv 3) pa_nil)) (pv 4) (nomark _)))))
          (pss_one (ps_ret pe_bl))
          pss_nil)))))
      (pss_one (ps_ret pe_bl)))), ?_⟩
    refine ⟨.ref sc, rfl, sc, ns, rfl, hS, hlen, fun d c H1 s1 nd nc D1 => ?_⟩
    have k01 := Kt.same hT s1
    have hT1 : Tabs Ps H1 := k01.tab
    clear hS s1 nd nc
    refine ⟨3, rfl, by decide, by decide, ?_⟩
    refine for_range (lo := 0) (n := 3) (fun i σ' H' => ∃ y2 y3 y4 : Option V, σ' = [some (.ref sc), some (.ref d), y2, y3, y4] ∧ Deck H' d c ∧ Tabs Ps H') ⟨none, none, none, rfl, D1, hT1⟩ ?_ ?_
    · clear D1 hT1 k01
      rintro i σ' H1 hi ⟨y2, y3, y4, rfl, D1, hT1⟩
      refine ⟨.ref d, rfl, d, c, rfl, D1, fun wv n ts H2 hW ok n5 t9 D2 K2 => ?_⟩
      have hT2 : Tabs Ps H2 := Tabs.kp hT1 K2 D1
      obtain ⟨wa, wb, us, rfl, hwa, hwb, hp⟩ := id hW
      have fine := Fine.web ok
      refine ⟨.ref wa, rfl, wa, webD n ts, rfl, hW.dp, fine.shw, fine.nod, Nat.le_trans fine.dep (by decide), fine.len (by decide) (by decide), ?_⟩
      refine ⟨.ref wa, rfl, .ref wa, n, ts, rfl, hW, ok, n5, t9, hT2, fun H3 k3 => ⟨_, rfl, ?_⟩⟩
      have W3 := hW.tk (k3.tk hT2)
      refine ⟨.ref wa, rfl, wa, webD n ts, rfl, W3.dp, fine.shw, fine.nod, Nat.le_trans fine.dep (by decide), fine.len (by decide) (by decide), .str (webD n ts).shown, rfl, rfl, _, rfl, ?_⟩
      rw [decide_eq_true rfl]
      exact ⟨_, _, _, rfl, D2.kt14 k3 hT2, k3.tab⟩
    · rintro σ' H5 ⟨y2, y3, y4, rfl, _⟩
      exact q _
end
/-- where a def stands, and where its code object does -/
structure At (K : PySem.W.Frag) (x : Str) (st : Stmt) (f : Addr) : Prop where
  ns : PySem.W.nsIn K mainGlobals x = some (some (.ref f))
  ex : ∃ (oc : Value) (od : Option Addr) (kV doc pm : Value) (an : Option Addr) (cdv ct : Value) (osl : Array (Option Value)),
    K.lookup f = some ⟨oc, od, .func (PySem.W.fnOf x x (defArgs st) (defBody st) (defScope st) .none kV doc pm an cdv ct), osl⟩ ∧ PySem.W.codeIn K cdv x = true
  kp : PySem.W.keepIn K (.ref f) = true
theorem at_mk {K : PySem.W.Frag} {x : Str} {st : Stmt} {f : Addr} {oc : Value} {od an : Option Addr} {osl : Array (Option Value)} {kV doc pm cdv ct : Value} (a : PySem.W.nsIn K mainGlobals x = some (some (.ref f)))
    (l : K.lookup f = some ⟨oc, od, .func (PySem.W.fnOf x x (defArgs st) (defBody st) (defScope st) .none kV doc pm an cdv ct), osl⟩) (c : PySem.W.codeIn K cdv x = true) (k : PySem.W.keepIn K (.ref f) = true) : At K x st f := ⟨a, ⟨oc, od, kV, doc, pm, an, cdv, ct, osl, l, c⟩, k⟩
theorem At.fn {K : PySem.W.Frag} {x : Str} {st : Stmt} {f : Addr} (h : At K x st f) : ∃ fd, Fun K x x st f fd := by
  obtain ⟨oc, od, kV, doc, pm, an, cdv, ct, osl, l, c⟩ := h.ex
  exact ⟨_, fun_mk l c h.kp⟩
structure AtC (K : PySem.W.Frag) (x : Str) (st : Stmt) (f c Pt : Addr) : Prop where
  ns : PySem.W.nsIn K mainGlobals x = some (some (.ref f))
  ex : ∃ (oc : Value) (od : Option Addr) (kV doc pm : Value) (an : Option Addr) (ct : Value) (osl : Array (Option Value)),
    K.lookup f = some ⟨oc, od, .func (PySem.W.fnOf x x (defArgs st) (defBody st) (defScope st) .none kV doc pm an (.ref c) ct), osl⟩ ∧ PySem.W.codeIn K (.ref c) x = true
  kp : PySem.W.keepIn K (.ref f) = true
  co : ∃ (dd : Option Addr) (vs : Array Value) (sl : Array (Option Value)) (file : Str) (tf : Tok) (flags : Int) (tg : Tok) (inF : Bool) (text : Int) (tt : Tok), K.lookup c = some ⟨.type "code", dd, .fields vs, sl⟩ ∧ vs[11]? = some (.ref Pt) ∧ vs.getD 11 .none = .ref Pt ∧ vs.getD 18 .none = .str file tf ∧
    vs.getD 7 .none = .int flags tg ∧ vs.getD 9 .none = .bool inF ∧ vs.getD 10 .none = .int text tt ∧ c ≠ Pt
  nP : K.lookup Pt = none
theorem atC_mk {K : PySem.W.Frag} {x : Str} {st : Stmt} {f c Pt : Addr} {oc : Value} {od an dd : Option Addr} {osl sl : Array (Option Value)} {kV doc pm ct : Value} {vs : Array Value} {file : Str} {tf tg tt : Tok} {flags text : Int} {inF : Bool} (a : PySem.W.nsIn K mainGlobals x = some (some (.ref f)))
    (l : K.lookup f = some ⟨oc, od, .func (PySem.W.fnOf x x (defArgs st) (defBody st) (defScope st) .none kV doc pm an (.ref c) ct), osl⟩) (cc : PySem.W.codeIn K (.ref c) x = true) (k : PySem.W.keepIn K (.ref f) = true)
    (lc : K.lookup c = some ⟨.type "code", dd, .fields vs, sl⟩) (v11 : vs[11]? = some (.ref Pt)) (w11 : vs.getD 11 .none = .ref Pt) (v18 : vs.getD 18 .none = .str file tf) (v7 : vs.getD 7 .none = .int flags tg) (v9 : vs.getD 9 .none = .bool inF) (v10 : vs.getD 10 .none = .int text tt) (ne : c ≠ Pt)
    (nP : K.lookup Pt = none) : AtC K x st f c Pt := ⟨a, ⟨oc, od, kV, doc, pm, an, ct, osl, l, cc⟩, k, ⟨dd, vs, sl, file, tf, flags, tg, inF, text, tt, lc, v11, w11, v18, v7, v9, v10, ne⟩, nP⟩
theorem AtC.fn {K : PySem.W.Frag} {x : Str} {st : Stmt} {f c Pt : Addr} (h : AtC K x st f c Pt) : ∃ fd, FunC K x x st f fd c := by
  obtain ⟨oc, od, kV, doc, pm, an, ct, osl, l, cc⟩ := h.ex
  exact ⟨_, ⟨oc, od, kV, doc, pm, an, ct, osl, rfl, l, cc⟩, h.kp⟩
theorem AtC.hd {K : PySem.W.Frag} {h : Heap} {x : Str} {st : Stmt} {f c Pt : Addr} (a : AtC K x st f c Pt) (X : K.In h) : PySem.W.CodeHd h c Pt := by
  obtain ⟨dd, vs, sl, file, tf, flags, tg, inF, text, tt, lc, v11, w11, v18, v7, v9, v10, ne⟩ := a.co
  exact ⟨_, vs, file, tf, flags, tg, inF, text, tt, X _ _ lc, rfl, rfl, v11, w11, v18, v7, v9, v10, ne⟩
theorem AtC.tab {K : PySem.W.Frag} {h : Heap} {x : Str} {st : Stmt} {f c Pt : Addr} (a : AtC K x st f c Pt) (o : LamX.OwnTab K f h) : h.get? Pt = some { cls := .none, data := .fields #[] } := by
  obtain ⟨oc, od, kV, doc, pm, an, ct, osl, l, cc⟩ := a.ex
  obtain ⟨dd, vs, sl, file, tf, flags, tg, inF, text, tt, lc, v11, w11, v18, v7, v9, v10, ne⟩ := a.co
  exact o c Pt _ _ _ _ _ _ l rfl rfl lc v11
section
variable {P : Program} {w : World} {K : PySem.W.Frag} {mg : Str → Option Value} {base : Heap}
theorem Df.of {x : Str} {st : Stmt} {f : Addr} {fd : FuncData} {k : Nat} {ps : List Str} {sp : Sp} (g : mg x = some (.ref f)) (F : Fun K x x st f fd) (G : FnOk P w K mg base CX0 k f fd ps sp)
    (h : ∀ (kV doc pm : Value) (an : Option Addr) (cdv ct : Value) (us : List Value), us.length = ps.length → bindArgs (PySem.W.fnOf x x (defArgs st) (defBody st) (defScope st) .none kV doc pm an cdv ct) ⟨us, []⟩ = pure (ps.zip us)) : Df P w K mg base k x ps sp :=
  ⟨f, fd, G, g, F.kp, F.binds h⟩
end
/-! ### what the top has written -/
section
variable {P : Program} {w : World} {K : PySem.W.Frag} {mg : Str → Option Value} {base : Heap}
theorem law_at {l : PySem.W.OpenLaw} {w : World} {K : PySem.W.Frag} {h : Heap} {mg : Str → Option Value} {fa f0 f1 f2 f3 f4 f5 f6 f7 f8 f9 f10 f11 f12 f13 f14 f15 f16 f17 f18 f19 f20 f21 f22 f23 f24 f25 c5 P5 c10 P10 c12 P12 : Addr} (X : K.In h) (G : h.Ns mainGlobals mg) (hfa : mg "law" = some (.ref fa))
    (t5 : ∀ (fy : Addr), mg "is_sides" = some (.ref fy) → LamX.OwnTab K fy h)
    (t10 : ∀ (fy : Addr), mg "are_unlike_below" = some (.ref fy) → LamX.OwnTab K fy h)
    (t12 : ∀ (fy : Addr), mg "ring_holds" = some (.ref fy) → LamX.OwnTab K fy h)
    (a0 : At K "neighbours" s_neighbours f0)
    (a1 : At K "sides_from" s_sides_from f1)
    (a2 : At K "is_whole" s_is_whole f2)
    (a3 : At K "is_whole_below" s_is_whole_below f3)
    (a4 : At K "is_tuple_of" s_is_tuple_of f4)
    (a5 : AtC K "is_sides" s_is_sides f5 c5 P5)
    (a6 : At K "breaks" s_breaks f6)
    (a7 : At K "broken_by" s_broken_by f7)
    (a8 : At K "sides_hold" s_sides_hold f8)
    (a9 : At K "sides_of" s_sides_of f9)
    (a10 : AtC K "are_unlike_below" s_are_unlike_below f10 c10 P10)
    (a11 : At K "joins" s_joins f11)
    (a12 : AtC K "ring_holds" s_ring_holds f12 c12 P12)
    (a13 : At K "foes_in" s_foes_in f13)
    (a14 : At K "odd_ring_holds" s_odd_ring_holds f14)
    (a15 : At K "_law_deck" s_l_deck f15)
    (a16 : At K "_law_draw" s_l_draw f16)
    (a17 : At K "_law_same" s_l_same f17)
    (a18 : At K "_law_web" s_l_web f18)
    (a19 : At K "_law_rings" s_l_rings f19)
    (a20 : At K "_law_all_sides" s_l_all_sides f20)
    (a21 : At K "_law_broken" s_l_broken f21)
    (a22 : At K "_law_firsts" s_l_firsts f22)
    (a23 : At K "_law_ring_right" s_l_ring_right f23)
    (a24 : At K "_law_right" s_l_right f24)
    (a25 : At K "law" s_law f25)
    (z0 : PySem.W.nsIn K mainGlobals "len" = some none)
    (z1 : PySem.W.nsIn K mainGlobals "int" = some none)
    (z2 : PySem.W.nsIn K mainGlobals "bool" = some none)
    (z3 : PySem.W.nsIn K mainGlobals "str" = some none)
    (z4 : PySem.W.nsIn K mainGlobals "list" = some none)
    (z5 : PySem.W.nsIn K mainGlobals "tuple" = some none)
    (z6 : PySem.W.nsIn K mainGlobals "range" = some none)
    (z7 : PySem.W.nsIn K mainGlobals "isinstance" = some none)
    (z8 : PySem.W.nsIn K mainGlobals "sum" = some none)
    (z9 : PySem.W.nsIn K mainGlobals "all" = some none)
    (z10 : PySem.W.nsIn K mainGlobals "enumerate" = some none)
    (z11 : PySem.W.nsIn K mainGlobals "max" = some none)
    (z12 : PySem.W.nsIn K mainGlobals "min" = some none)
    (z13 : PySem.W.nsIn K mainGlobals "repr" = some none)
    (z14 : PySem.W.nsIn K mainGlobals "set" = some none)
    (z15 : PySem.W.nsIn K mainGlobals "zip" = some none) :
    GoesT l.prog w K mg 9 fa "_law_script" 63 h := by
  have efa := hfa.symm.trans (PySem.W.mg_of X G a25.ns)
  cases efa
  have M : Free mg := ⟨PySem.W.mg_none_of X G z0, PySem.W.mg_none_of X G z1, PySem.W.mg_none_of X G z2, PySem.W.mg_none_of X G z3, PySem.W.mg_none_of X G z4, PySem.W.mg_none_of X G z5, PySem.W.mg_none_of X G z6, PySem.W.mg_none_of X G z7, PySem.W.mg_none_of X G z8⟩
  have m_all := PySem.W.mg_none_of X G z9
  have m_enumerate := PySem.W.mg_none_of X G z10
  have m_max := PySem.W.mg_none_of X G z11
  have m_min := PySem.W.mg_none_of X G z12
  have m_repr := PySem.W.mg_none_of X G z13
  have m_set := PySem.W.mg_none_of X G z14
  have m_zip := PySem.W.mg_none_of X G z15
  obtain ⟨d0, F0⟩ := a0.fn
  obtain ⟨d1, F1⟩ := a1.fn
  obtain ⟨d2, F2⟩ := a2.fn
  obtain ⟨d3, F3⟩ := a3.fn
  obtain ⟨d4, F4⟩ := a4.fn
  obtain ⟨d5, F5⟩ := a5.fn
  obtain ⟨d6, F6⟩ := a6.fn
  obtain ⟨d7, F7⟩ := a7.fn
  obtain ⟨d8, F8⟩ := a8.fn
  obtain ⟨d9, F9⟩ := a9.fn
  obtain ⟨d10, F10⟩ := a10.fn
  obtain ⟨d11, F11⟩ := a11.fn
  obtain ⟨d12, F12⟩ := a12.fn
  obtain ⟨d13, F13⟩ := a13.fn
  obtain ⟨d14, F14⟩ := a14.fn
  obtain ⟨d15, F15⟩ := a15.fn
  obtain ⟨d16, F16⟩ := a16.fn
  obtain ⟨d17, F17⟩ := a17.fn
  obtain ⟨d18, F18⟩ := a18.fn
  obtain ⟨d19, F19⟩ := a19.fn
  obtain ⟨d20, F20⟩ := a20.fn
  obtain ⟨d21, F21⟩ := a21.fn
  obtain ⟨d22, F22⟩ := a22.fn
  obtain ⟨d23, F23⟩ := a23.fn
  obtain ⟨d24, F24⟩ := a24.fn
  obtain ⟨d25, F25⟩ := a25.fn
  have g0 := PySem.W.mg_of X G a0.ns
  have g1 := PySem.W.mg_of X G a1.ns
  have g2 := PySem.W.mg_of X G a2.ns
  have g3 := PySem.W.mg_of X G a3.ns
  have g4 := PySem.W.mg_of X G a4.ns
  have g5 := PySem.W.mg_of X G a5.ns
  have g6 := PySem.W.mg_of X G a6.ns
  have g7 := PySem.W.mg_of X G a7.ns
  have g8 := PySem.W.mg_of X G a8.ns
  have g9 := PySem.W.mg_of X G a9.ns
  have g10 := PySem.W.mg_of X G a10.ns
  have g11 := PySem.W.mg_of X G a11.ns
  have g12 := PySem.W.mg_of X G a12.ns
  have g13 := PySem.W.mg_of X G a13.ns
  have g14 := PySem.W.mg_of X G a14.ns
  have g15 := PySem.W.mg_of X G a15.ns
  have g16 := PySem.W.mg_of X G a16.ns
  have g17 := PySem.W.mg_of X G a17.ns
  have g18 := PySem.W.mg_of X G a18.ns
  have g19 := PySem.W.mg_of X G a19.ns
  have g20 := PySem.W.mg_of X G a20.ns
  have g21 := PySem.W.mg_of X G a21.ns
  have g22 := PySem.W.mg_of X G a22.ns
  have g23 := PySem.W.mg_of X G a23.ns
  have g24 := PySem.W.mg_of X G a24.ns
  have hb0 : ∀ (s : Shared) (u : Value), BindsTo s d25 ⟨[u], []⟩ [("_law_script", u)] := by
    obtain ⟨oc, od, kV, doc, pm, an, cdv, ct, osl, rfl, _⟩ := F25.ex
    exact fun s u => .of_eq rfl
  refine ⟨d25, [(c5, P5), (c10, P10), (c12, P12)], (spLaw K [P5, P10, P12]), (List.forall_mem_cons.mpr ⟨a5.tab (t5 _ g5), (List.forall_mem_cons.mpr ⟨a10.tab (t10 _ g10), (List.forall_mem_cons.mpr ⟨a12.tab (t12 _ g12), (fun p hp => by simp at hp)⟩)⟩)⟩), (List.forall_mem_cons.mpr ⟨a5.nP, (List.forall_mem_cons.mpr ⟨a10.nP, (List.forall_mem_cons.mpr ⟨a12.nP, (fun p hp => by simp at hp)⟩)⟩)⟩), (List.forall_mem_cons.mpr ⟨a5.hd X, (List.forall_mem_cons.mpr ⟨a10.hd X, (List.forall_mem_cons.mpr ⟨a12.hd X, (fun p hp => by simp at hp)⟩)⟩)⟩), hb0, fun H a ns hl hT hS => ⟨a, ns, rfl, hS, hl, (List.forall_mem_cons.mpr ⟨⟨#[], hT (c5, P5) (by simp), by trivial⟩, (List.forall_mem_cons.mpr ⟨⟨#[], hT (c10, P10) (by simp), by trivial⟩, (List.forall_mem_cons.mpr ⟨⟨#[], hT (c12, P12) (by simp), by trivial⟩, (fun p hp => by simp at hp)⟩)⟩)⟩), fun _ => rfl⟩, fun base KB GB TB => ?_⟩
  have tb5 := TB (c5, P5) (by simp)
  have tb10 := TB (c10, P10) (by simp)
  have tb12 := TB (c12, P12) (by simp)
  have D0 : Df l.prog w K mg base 1 "neighbours" ["web"] spNeighbours := .of g0 F0 (ok_neighbours F0 M) fun _ _ _ _ _ _ us hl => match us, hl with | [_], _ => rfl
  have D1 : Df l.prog w K mg base 1 "sides_from" ["start", "around"] spSidesFrom := .of g1 F1 (ok_sides_from F1 M) fun _ _ _ _ _ _ us hl => match us, hl with | [_, _], _ => rfl
  have D2 : Df l.prog w K mg base 1 "is_whole" ["thing"] spWhole := .of g2 F2 (ok_is_whole F2 M) fun _ _ _ _ _ _ us hl => match us, hl with | [_], _ => rfl
  have D3 : Df l.prog w K mg base 2 "is_whole_below" ["limit", "thing"] spBelow := .of g3 F3 (ok_is_whole_below F3 D2) fun _ _ _ _ _ _ us hl => match us, hl with | [_, _], _ => rfl
  have D4 : Df l.prog w K mg base 1 "is_tuple_of" ["length", "thing"] spTupleOf := .of g4 F4 (ok_is_tuple_of F4 M) fun _ _ _ _ _ _ us hl => match us, hl with | [_, _], _ => rfl
  have D5 : Df l.prog w K mg base 4 "is_sides" ["web", "thing"] (spIsSidesX [P5, P10, P12]) := .of g5 F5.fn (ok_is_sides F5 ⟨tb5.code, tb5.bm, tb5.gP⟩ (show P5 ∈ [P5, P10, P12] by simp) m_all D4 D3) fun _ _ _ _ _ _ us hl => match us, hl with | [_, _], _ => rfl
  have D6 : Df l.prog w K mg base 1 "breaks" ["sides", "tie"] spBreaks := .of g6 F6 (ok_breaks F6) fun _ _ _ _ _ _ us hl => match us, hl with | [_, _], _ => rfl
  have D7 : Df l.prog w K mg base 2 "broken_by" ["web", "sides"] spBroken := .of g7 F7 (ok_broken_by F7 M m_enumerate D6) fun _ _ _ _ _ _ us hl => match us, hl with | [_, _], _ => rfl
  have D8 : Df l.prog w K mg base 5 "sides_hold" ["web", "thing"] (spSidesHold [P5, P10, P12]) := .of g8 F8 (ok_sides_hold F8 D5 D7) fun _ _ _ _ _ _ us hl => match us, hl with | [_, _], _ => rfl
  have D9 : Df l.prog w K mg base 3 "sides_of" ["web"] spFixed := .of g9 F9 (ok_sides_of F9 M D0 D1 D7) fun _ _ _ _ _ _ us hl => match us, hl with | [_], _ => rfl
  have D10 : Df l.prog w K mg base 4 "are_unlike_below" ["limit", "thing"] (spUnlike [P5, P10, P12]) := .of g10 F10.fn (ok_are_unlike F10 ⟨tb10.code, tb10.bm, tb10.gP⟩ (show P10 ∈ [P5, P10, P12] by simp) M m_all m_set D3) fun _ _ _ _ _ _ us hl => match us, hl with | [_, _], _ => rfl
  have D11 : Df l.prog w K mg base 1 "joins" ["tie", "one", "other"] spJoins := .of g11 F11 (ok_joins F11) fun _ _ _ _ _ _ us hl => match us, hl with | [_, _, _], _ => rfl
  have D12 : Df l.prog w K mg base 5 "ring_holds" ["web", "thing"] (spRing [P5, P10, P12]) := .of g12 F12.fn (ok_ring_holds F12 ⟨tb12.code, tb12.bm, tb12.gP⟩ (show P12 ∈ [P5, P10, P12] by simp) M m_all m_zip D4 D10 D11) fun _ _ _ _ _ _ us hl => match us, hl with | [_, _], _ => rfl
  have D13 : Df l.prog w K mg base 1 "foes_in" ["web", "ring"] spFoes := .of g13 F13 (ok_foes_in F13 M) fun _ _ _ _ _ _ us hl => match us, hl with | [_, _], _ => rfl
  have D14 : Df l.prog w K mg base 6 "odd_ring_holds" ["web", "thing"] (spOdd [P5, P10, P12]) := .of g14 F14 (ok_odd_ring F14 D12 D13) fun _ _ _ _ _ _ us hl => match us, hl with | [_, _], _ => rfl
  have D15 : Df l.prog w K mg base 1 "_law_deck" ["_law_script"] (spDeck K) := .of g15 F15 (ok_l_deck F15 M) fun _ _ _ _ _ _ us hl => match us, hl with | [_], _ => rfl
  have D16 : Df l.prog w K mg base 1 "_law_draw" ["_law_deck_here", "_law_most"] spDraw := .of g16 F16 (ok_l_draw F16) fun _ _ _ _ _ _ us hl => match us, hl with | [_, _], _ => rfl
  have D17 : Df l.prog w K mg base 1 "_law_same" ["_law_found", "_law_due"] spSameB := .of g17 F17 (ok_l_same F17 M) fun _ _ _ _ _ _ us hl => match us, hl with | [_, _], _ => rfl
  have D18 : Df l.prog w K mg base 2 "_law_web" ["_law_deck_here"] spWeb14 := .of g18 F18 (ok_l_web F18 M D16) fun _ _ _ _ _ _ us hl => match us, hl with | [_], _ => rfl
  have D19 : Df l.prog w K mg base 1 "_law_rings" ["_law_web_here"] spRings := .of g19 F19 (ok_l_rings F19 M) fun _ _ _ _ _ _ us hl => match us, hl with | [_], _ => rfl
  have D20 : Df l.prog w K mg base 1 "_law_all_sides" ["_law_many"] spAllSides := .of g20 F20 (ok_l_all_sides F20 M) fun _ _ _ _ _ _ us hl => match us, hl with | [_], _ => rfl
  have D21 : Df l.prog w K mg base 1 "_law_broken" ["_law_web_here", "_law_sides"] spBroken := .of g21 F21 (ok_l_broken F21 M) fun _ _ _ _ _ _ us hl => match us, hl with | [_, _], _ => rfl
  have D22 : Df l.prog w K mg base 1 "_law_firsts" ["_law_web_here"] spFirsts := .of g22 F22 (ok_l_firsts F22 M m_max m_min) fun _ _ _ _ _ _ us hl => match us, hl with | [_], _ => rfl
  have D23 : Df l.prog w K mg base 7 "_law_ring_right" ["_law_web_here", "_law_ring"] (spRingRight [P5, P10, P12]) := .of g23 F23 (ok_l_ring_right F23 M D13 D12 D14 D17 D9) fun _ _ _ _ _ _ us hl => match us, hl with | [_, _], _ => rfl
  have D24 : Df l.prog w K mg base 8 "_law_right" ["_law_web_here"] (spRight14 [P5, P10, P12]) := .of g24 F24 (ok_l_right F24 M D19 D9 D22 D21 D20 D8 D17 D7 D23) fun _ _ _ _ _ _ us hl => match us, hl with | [_], _ => rfl
  exact ok_law F25 M m_repr D15 D18 D24
end
end FF
open PySem PySem.W PyProof.Rows
set_option maxRecDepth 100000 in
set_option maxHeartbeats 0 in
theorem PySem.Challenge.cw_friendfoe_k14_whole_sides_or_odd_rings_holds : PySem.Challenge.rw_friendfoe_k14_whole_sides_or_odd_rings.Holds := by
  w_on; o_law; k_head; (case hw => w_witness2)
  k_fill
  refine FF.walk_gt (l := PySem.Challenge.rw_friendfoe_k14_whole_sides_or_odd_rings) (n := 63) (k := 9) (x := "_law_script") rfl (by decide) rfl ⟨rfl, by decide, by decide⟩ (fun w h Y => PySem.W.kIn_of Y) ?F
  case F =>
    intro w mg fa h KX G hmg tabs
    refine' FF.law_at KX G hmg (fun fy => tabs "is_sides" fy ?r5) (fun fy => tabs "are_unlike_below" fy ?r10) (fun fy => tabs "ring_holds" fy ?r12) ?a0 ?a1 ?a2 ?a3 ?a4 ?a5 ?a6 ?a7 ?a8 ?a9 ?a10 ?a11 ?a12 ?a13 ?a14 ?a15 ?a16 ?a17 ?a18 ?a19 ?a20 ?a21 ?a22 ?a23 ?a24 ?a25 ?z0 ?z1 ?z2 ?z3 ?z4 ?z5 ?z6 ?z7 ?z8 ?z9 ?z10 ?z11 ?z12 ?z13 ?z14 ?z15
    (case r5 => rfl)
    (case r10 => rfl)
    (case r12 => rfl)
    (case a0 => refine' FF.at_mk ?p1 ?p2 ?p3 ?p4; (case p1 => k_is); (case p2 => k_is); (case p3 => k_is); (case p4 => k_is))
    (case a1 => refine' FF.at_mk ?p1 ?p2 ?p3 ?p4; (case p1 => k_is); (case p2 => k_is); (case p3 => k_is); (case p4 => k_is))
    (case a2 => refine' FF.at_mk ?p1 ?p2 ?p3 ?p4; (case p1 => k_is); (case p2 => k_is); (case p3 => k_is); (case p4 => k_is))
    (case a3 => refine' FF.at_mk ?p1 ?p2 ?p3 ?p4; (case p1 => k_is); (case p2 => k_is); (case p3 => k_is); (case p4 => k_is))
    (case a4 => refine' FF.at_mk ?p1 ?p2 ?p3 ?p4; (case p1 => k_is); (case p2 => k_is); (case p3 => k_is); (case p4 => k_is))
    (case a5 => refine' FF.atC_mk ?p1 ?p2 ?p3 ?p4 ?p5 ?p6 ?p7 ?p8 ?p9 ?p10 ?p11 ?p12 ?p13; (case p1 => k_is); (case p2 => k_is); (case p3 => k_is); (case p4 => k_is); (case p5 => k_is); (case p6 => rfl); (case p7 => rfl); (case p8 => rfl); (case p9 => rfl); (case p10 => rfl); (case p11 => rfl); (case p12 => decide); (case p13 => rfl))
    (case a6 => refine' FF.at_mk ?p1 ?p2 ?p3 ?p4; (case p1 => k_is); (case p2 => k_is); (case p3 => k_is); (case p4 => k_is))
    (case a7 => refine' FF.at_mk ?p1 ?p2 ?p3 ?p4; (case p1 => k_is); (case p2 => k_is); (case p3 => k_is); (case p4 => k_is))
    (case a8 => refine' FF.at_mk ?p1 ?p2 ?p3 ?p4; (case p1 => k_is); (case p2 => k_is); (case p3 => k_is); (case p4 => k_is))
    (case a9 => refine' FF.at_mk ?p1 ?p2 ?p3 ?p4; (case p1 => k_is); (case p2 => k_is); (case p3 => k_is); (case p4 => k_is))
    (case a10 => refine' FF.atC_mk ?p1 ?p2 ?p3 ?p4 ?p5 ?p6 ?p7 ?p8 ?p9 ?p10 ?p11 ?p12 ?p13; (case p1 => k_is); (case p2 => k_is); (case p3 => k_is); (case p4 => k_is); (case p5 => k_is); (case p6 => rfl); (case p7 => rfl); (case p8 => rfl); (case p9 => rfl); (case p10 => rfl); (case p11 => rfl); (case p12 => decide); (case p13 => rfl))
    (case a11 => refine' FF.at_mk ?p1 ?p2 ?p3 ?p4; (case p1 => k_is); (case p2 => k_is); (case p3 => k_is); (case p4 => k_is))
    (case a12 => refine' FF.atC_mk ?p1 ?p2 ?p3 ?p4 ?p5 ?p6 ?p7 ?p8 ?p9 ?p10 ?p11 ?p12 ?p13; (case p1 => k_is); (case p2 => k_is); (case p3 => k_is); (case p4 => k_is); (case p5 => k_is); (case p6 => rfl); (case p7 => rfl); (case p8 => rfl); (case p9 => rfl); (case p10 => rfl); (case p11 => rfl); (case p12 => decide); (case p13 => rfl))
    (case a13 => refine' FF.at_mk ?p1 ?p2 ?p3 ?p4; (case p1 => k_is); (case p2 => k_is); (case p3 => k_is); (case p4 => k_is))
    (case a14 => refine' FF.at_mk ?p1 ?p2 ?p3 ?p4; (case p1 => k_is); (case p2 => k_is); (case p3 => k_is); (case p4 => k_is))
    (case a15 => refine' FF.at_mk ?p1 ?p2 ?p3 ?p4; (case p1 => k_is); (case p2 => k_is); (case p3 => k_is); (case p4 => k_is))
    (case a16 => refine' FF.at_mk ?p1 ?p2 ?p3 ?p4; (case p1 => k_is); (case p2 => k_is); (case p3 => k_is); (case p4 => k_is))
    (case a17 => refine' FF.at_mk ?p1 ?p2 ?p3 ?p4; (case p1 => k_is); (case p2 => k_is); (case p3 => k_is); (case p4 => k_is))
    (case a18 => refine' FF.at_mk ?p1 ?p2 ?p3 ?p4; (case p1 => k_is); (case p2 => k_is); (case p3 => k_is); (case p4 => k_is))
    (case a19 => refine' FF.at_mk ?p1 ?p2 ?p3 ?p4; (case p1 => k_is); (case p2 => k_is); (case p3 => k_is); (case p4 => k_is))
    (case a20 => refine' FF.at_mk ?p1 ?p2 ?p3 ?p4; (case p1 => k_is); (case p2 => k_is); (case p3 => k_is); (case p4 => k_is))
    (case a21 => refine' FF.at_mk ?p1 ?p2 ?p3 ?p4; (case p1 => k_is); (case p2 => k_is); (case p3 => k_is); (case p4 => k_is))
    (case a22 => refine' FF.at_mk ?p1 ?p2 ?p3 ?p4; (case p1 => k_is); (case p2 => k_is); (case p3 => k_is); (case p4 => k_is))
    (case a23 => refine' FF.at_mk ?p1 ?p2 ?p3 ?p4; (case p1 => k_is); (case p2 => k_is); (case p3 => k_is); (case p4 => k_is))
    (case a24 => refine' FF.at_mk ?p1 ?p2 ?p3 ?p4; (case p1 => k_is); (case p2 => k_is); (case p3 => k_is); (case p4 => k_is))
    (case a25 => refine' FF.at_mk ?p1 ?p2 ?p3 ?p4; (case p1 => k_is); (case p2 => k_is); (case p3 => k_is); (case p4 => k_is))
    (case z0 => k_is)
    (case z1 => k_is)
    (case z2 => k_is)
    (case z3 => k_is)
    (case z4 => k_is)
    (case z5 => k_is)
    (case z6 => k_is)
    (case z7 => k_is)
    (case z8 => k_is)
    (case z9 => k_is)
    (case z10 => k_is)
    (case z11 => k_is)
    (case z12 => k_is)
    (case z13 => k_is)
    (case z14 => k_is)
    (case z15 => k_is)
