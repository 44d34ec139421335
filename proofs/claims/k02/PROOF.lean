import PyProof.Rows.All
import Wide.All
import OpenK.AllK
import Wide.FinOn
import HandS.ForMost
import HandS.IsInst
import HandS.TupAny
import HandS.TupLe
import HandS.Wide
import HandS.Style
import HandS.SortInts
import HandS.Conv
import HandS.More
import HandS.EndTab
import HandS.EndOwn
import HandS.AnyAll
import HandS.GenOver
import HandS.Evl
import PySem.Challenge.RW_friendfoe_k02_weights
set_option Elab.async false
set_option linter.all false
set_option maxRecDepth 100000
namespace FF
open PySem PySem.Spec PyProof.Rows L2
/-! ### heaps: what is kept -/
/-- all that is tracked, but at d and c, is as it was -/
def Kp (d c : Addr) (H H' : Hp) : Prop := ∀ b o, b ≠ d → b ≠ c → H b = some o → H' b = some o
theorem Kp.refl {d c : Addr} {H : Hp} : Kp d c H H := fun _ _ _ _ h => h
theorem Kp.trans {d c : Addr} {H H1 H2 : Hp} (a : Kp d c H H1) (b : Kp d c H1 H2) : Kp d c H H2 := fun x o h1 h2 h => b x o h1 h2 (a x o h1 h2 h)
theorem Kp.at_d {d c : Addr} {H : Hp} {o : HO} : Kp d c H (upd H d o) := fun b u h1 _ h => by rw [upd_ne h1]; exact h
theorem Kp.at_c {d c : Addr} {H : Hp} {o : HO} : Kp d c H (upd H c o) := fun b u _ h2 h => by rw [upd_ne h2]; exact h
theorem Kp.new {d c p : Addr} {H : Hp} {o : HO} (hp : H p = none) : Kp d c H (upd H p o) := fun b u _ _ h => by rw [upd_ne (ne_of_none h hp)]; exact h
theorem same_new {H : Hp} {p : Addr} {o : HO} (h : H p = none) : Same H (upd H p o) := fun b x e => by
  rw [upd_ne (ne_of_none e h)]
  exact e
theorem Same.kp {d c : Addr} {H H' : Hp} (s : Same H H') : Kp d c H H' := fun b o _ _ h => s b o h
/-! ### defs as they are called -/
def Df (P : Program) (w : World) (K : PySem.W.Frag) (mg : Str → Option Value) (base : Heap) (k : Nat) (x : Str) (ps : List Str) (sp : Sp) : Prop :=
  ∃ (f : Addr) (fd : FuncData), FnOk P w K mg base CX0 k f fd ps sp ∧ mg x = some (.ref f) ∧ PySem.W.keepIn K (.ref f) = true ∧ Binds K fd ps []
/-- built-in names that the module has not taken -/
structure Free (mg : Str → Option Value) : Prop where
  len : mg "len" = none
  int : mg "int" = none
  bool : mg "bool" = none
  str : mg "str" = none
  list : mg "list" = none
  tuple : mg "tuple" = none
  range : mg "range" = none
  isinstance : mg "isinstance" = none
  sum : mg "sum" = none
/-! ### the deck -/
structure Deck (H : Hp) (d c : Addr) : Prop where
  ex : ∃ (cells : List Int) (st n : Int), H d = some (.lst [.ref c, .int st, .int n]) ∧ H c = some (.lst (cells.map V.int)) ∧ cells.length ≤ 63
theorem Deck.ne {H : Hp} {d c : Addr} (h : Deck H d c) : d ≠ c := by
  obtain ⟨cells, st, n, h1, h2, _⟩ := h
  intro e
  rw [e, h2] at h1
  have q := HO.lst.inj (Option.some.inj h1)
  cases cells with
  | nil => simp at q
  | cons x r => simp at q
theorem Deck.same {H H' : Hp} {d c : Addr} (h : Deck H d c) (s : Same H H') : Deck H' d c := by
  obtain ⟨cells, st, n, h1, h2, h3⟩ := h
  exact ⟨cells, st, n, s _ _ h1, s _ _ h2, h3⟩
theorem mod_rng {a m : Int} (h : 0 < m) : 0 ≤ a % m ∧ a % m < m := ⟨Int.emod_nonneg a (by omega), Int.emod_lt_of_pos a h⟩
/-- a draw below m: any number from 0 on, less than m -/
def spDraw : Sp := fun vs H Q _ => ∃ (d c : Addr) (m : Int), vs = [.ref d, .int m] ∧ Deck H d c ∧ 0 < m ∧ m.natAbs < 2 ^ 120 ∧
  ∀ v H', 0 ≤ v → v < m → Deck H' d c → Kp d c H H' → Q (.int v) H'
/-! ### a generator expression's own frame -/
/-- the context of a generator's turns: its frame cenv stands over the def's -/
abbrev gX (X : Cx) (s : Shared) (H : Hp) (A' : Around) (cenv : Env) (fp : List Addr) : Cx :=
  { X with A := A', s_0 := s, H_0 := H, env := cenv, outer := X.stack, stack := cenv :: X.stack, ex := fp, fn := fun _ => false, pn := [], xe := fun _ _ => False }
/-- what is asked of the expression's own scope -/
structure GnOk (scope : Scope) : Prop where
  co : scope.isCoroutine = false
  nocell : ∀ y ∈ scope.names, y.2 ≠ .cell
  dot : scope.names.lookup (".0" : Str) = some NameKind.local
section
variable {X : Cx} {pins : List (Addr × Obj)} {σ : L2.St} {H : Hp} {s : Shared}
theorem gen_start {scope : Scope} {own : List (Str × Nat)} {fp : List Addr} {A' : Around} {code : Value} {m0 : Str → Option Value} {h5 : Heap} {g5 : Array GenState} {t5 : Nat} {a : Addr} {go : Obj}
    (I : Inv X pins σ H s) (ok : BlkOk X.N X.env.scope scope own) (gk : GnOk scope) (hN : X.N.Nodup) (hfp : ∀ b ∈ fp, FpOk X pins H b ∧ b < s.heap.objs.size)
    (hA : A'.handled = none) (hF : A'.frames = some (genEnv scope (cloFrom X.env.cells scope.names []) s.heap.objs.size code builtinsNs X.env :: X.stack))
    (kp : ∀ b o, s.heap.get? b = some o → h5.get? b = some o) (hn : h5.Ns s.heap.objs.size m0) (hm0 : ∀ x, x ≠ (".0" : Str) → m0 x = none) (hdN : (".0" : Str) ∉ X.N) (hb5 : AllBare g5)
    (ha : s.heap.objs.size < a) (hgo : h5.get? a = some go) (hgd : ∀ v, go.data ≠ .cell v) :
    Inv (gX X s H A' (genEnv scope (cloFrom X.env.cells scope.names []) s.heap.objs.size code builtinsNs X.env) fp) [(a, go)] (wipe σ (own.map (·.2))) H { s with heap := h5, gens := g5, toks := t5 } := by
  have hfree : ∀ y ∈ scope.names, y.2 = .free → ∃ c, X.env.cells.lookup y.1 = some c := fun y hy e =>
    (ok.free y hy e).elim (fun k => I.ok.has _ (.inl k)) fun k => I.ok.has _ (.inr k)
  have cm : ∀ {y c}, (y, c) ∈ cloFrom X.env.cells scope.names [] → X.env.cells.lookup y = some c ∧ c < s.heap.objs.size := fun {y c} q => by
    rcases cloFrom_mem q with q | ⟨h1, e1⟩
    · cases q
    · obtain ⟨c1, hc1⟩ := hfree _ h1 rfl
      rw [hc1] at e1
      cases e1
      obtain ⟨w1, z1⟩ := I.cell _ _ hc1
      exact ⟨hc1, z1.lt⟩
  have cl : ∀ {y c}, (cloFrom X.env.cells scope.names []).lookup y = some c → X.env.cells.lookup y = some c ∧ c < s.heap.objs.size := fun {y c} e => cm (PySem.mem_of_lookup e)
  have look : ∀ {y}, scope.names.lookup y = some .free → ∃ c, (cloFrom X.env.cells scope.names []).lookup y = some c := fun {y} e =>
    mem_lookup (cloFrom_has (cells := X.env.cells) (acc := []) (PySem.mem_of_lookup e))
  generalize hce : genEnv scope (cloFrom X.env.cells scope.names []) s.heap.objs.size code builtinsNs X.env = ce at hF
  have cL : ce.locals = s.heap.objs.size := by rw [← hce]; rfl
  have cC : ce.cells = cloFrom X.env.cells scope.names [] := by rw [← hce]; rfl
  have cS : ce.scope = scope := by rw [← hce]; rfl
  have cF : ce.frame = some ce.locals := by rw [← hce]; rfl
  have okG : (gX X s H A' ce fp).Ok := by
    refine ⟨I.ok.mod, ?_, ?_, ?_, ?_, fun y z c e1 e2 => ?_, fun y hy => ?_, fun y c z e => ?_, fun _ => hA, hF, .inr ⟨rfl, cF⟩, fun b hb => ⟨?_, fun y c e z => ?_⟩, I.bs, Nat.le_trans I.ok.bsz I.sz, fun b o e hb => ?_, fun b hb z => ?_, I.stack, I.stkFree⟩
    · show ce.scope.kind = _
      rw [cS]
      exact ok.kind
    · show ce.globals = _
      rw [← hce]
      exact I.ok.glob
    · show ce.builtins = _
      rw [← hce]
      rfl
    · show s.heap.objs.size ≤ ce.locals
      rw [cL]
      exact Nat.le_refl _
    · have e1 : ce.cells.lookup y = some c := e1
      have e2 : ce.cells.lookup z = some c := e2
      rw [cC] at e1 e2
      exact I.ok.inj y z c (cl e1).1 (cl e2).1
    · show ∃ c, ce.cells.lookup y = some c
      rw [cC]
      have hy : scope.names.lookup y = some .cell ∨ scope.names.lookup y = some .free := by
        have hy' : ce.scope.names.lookup y = some .cell ∨ ce.scope.names.lookup y = some .free := hy
        rw [cS] at hy'
        exact hy'
      rcases hy with k | k
      · exact absurd rfl (gk.nocell _ (PySem.mem_of_lookup k))
      · exact look k
    · exact absurd (show false = true from z) Bool.false_ne_true
    · show b ≠ ce.locals
      rw [cL]
      exact Nat.ne_of_lt (hfp b hb).2
    · have e : ce.cells.lookup y = some c := e
      rw [cC] at e
      exact (hfp b hb).1.2.2.2.2.1 y c (cl e).1 z
    · rcases (hfp b hb).1.2.2.2.1 with q | q
      · exact I.ok.noex b o e q
      · exact absurd (Nat.lt_of_lt_of_le (Heap.lt_size e) (Nat.le_trans I.ok.bsz q)) (Nat.lt_irrefl _)
    · rcases List.mem_cons.mp (I.stkSub b z) with q | q
      · exact (hfp b hb).1.2.1 q
      · exact (hfp b hb).1.2.2.1 q
  refine ⟨okG, rfl, hb5, Un.kept kp, ⟨m0, ?_, fun i y av e1 e2 e3 => ?_⟩, fun y c e => ?_, ?_, fun y c e => ?_, fun p hp => ?_, I.hok.kept kp, by rw [wipe_length]; exact I.len⟩
  · show Heap.Ns _ ce.locals _
    rw [cL]
    exact hn
  · obtain ⟨e2, hne⟩ := wipe_some e2
    have e3 : Vis ce.scope y := e3
    rw [cS] at e3
    have hfr : scope.names.lookup y = some .free := by
      have no : ∀ k, scope.names.lookup y = some k → ¬ (k = .local ∨ k = .cell) := fun k hk hh => by
        rcases ok.own _ (PySem.mem_of_lookup hk) hh with q | q
        · obtain ⟨p, hp, hpy⟩ := List.mem_map.mp q
          have e4 := ok.ix p hp
          have hpy : p.1 = y := hpy
          rw [hpy] at e4
          exact hne (List.mem_map.mpr ⟨p, hp, nodup_ix hN e4 e1⟩)
        · exact q (List.mem_of_getElem? e1)
      rcases e3 with e3 | e3 | e3
      · exact absurd (.inl rfl) (no _ e3)
      · exact absurd (.inr rfl) (no _ e3)
      · exact e3
    obtain ⟨m, _, hl⟩ := I.loc
    have hvis : Vis X.env.scope y := (ok.free _ (PySem.mem_of_lookup hfr) rfl).elim (fun k => .inr (.inl k)) fun k => .inr (.inr k)
    obtain ⟨w1, r1, q1⟩ := hl i y av e1 e2 hvis
    obtain ⟨c, hc⟩ := look hfr
    refine ⟨w1, r1, .inr ⟨.inr (by show ce.scope.names.lookup y = _; rw [cS]; exact hfr), c, by show ce.cells.lookup y = _; rw [cC]; exact hc, ?_⟩⟩
    rcases q1 with ⟨k, _⟩ | ⟨_, c', e', z⟩
    · have k : X.env.scope.names.lookup y = some .local := k
      rcases ok.free _ (PySem.mem_of_lookup hfr) rfl with k' | k' <;> (have k' : X.env.scope.names.lookup y = _ := k'; rw [k'] at k; cases k)
    · rw [(cl hc).1] at e'
      cases e'
      exact z.keeps kp
  · have e : ce.cells.lookup y = some c := e
    rw [cC] at e
    obtain ⟨w1, z1⟩ := I.cell y c (cl e).1
    exact ⟨w1, z1.keeps kp⟩
  · show H ce.locals = none
    rw [cL]
    exact I.hok.fresh (Nat.le_refl _)
  · have e : ce.cells.lookup y = some c := e
    rw [cC] at e
    exact I.freeC y c (cl e).1
  · have hp : p = (a, go) := by simpa using hp
    subst hp
    refine ⟨hgo, I.hok.fresh (Nat.le_of_lt ha), ?_, fun z => ?_, hgd⟩
    · show a ≠ ce.locals
      rw [cL]
      exact Nat.ne_of_gt ha
    · have z : a ∈ frs X.stack := z
      obtain ⟨_, o, ho, _⟩ := I.stack.mem z
      exact absurd (Nat.lt_trans (Heap.lt_size ho) ha) (Nat.lt_irrefl _)
end
/-! ### all(..), any(..) of a generator, told by what each turn does -/
/-- between a yield and the next turn -/
structure Rs (s s' : Shared) : Prop where
  heap : s'.heap = s.heap
  os : s'.os = s.os
  bare : AllBare s'.gens
  size : s.gens.size ≤ s'.gens.size
theorem inv_gens {X : Cx} {pins : List (Addr × Obj)} {σ : L2.St} {H : Hp} {s s' : Shared} (I : Inv X pins σ H s) (h1 : s'.heap = s.heap) (h2 : s'.os = s.os) (h3 : AllBare s'.gens) : Inv X pins σ H s' := by
  obtain ⟨hh, g, d, t, o⟩ := s'
  have e1 : hh = s.heap := h1
  have e2 : o = s.os := h2
  subst e1 e2
  exact ⟨I.ok, I.os, h3, I.base, I.loc, I.cell, I.free, I.freeC, I.pin, I.hok, I.len⟩
theorem Rs.inv {X : Cx} {pins : List (Addr × Obj)} {σ : L2.St} {H : Hp} {s s' : Shared} (r : Rs s s') (I : Inv X pins σ H s) : Inv X pins σ H s' := by
  obtain ⟨h1, h2, h3, _⟩ := r
  obtain ⟨hh, g, d, t, o⟩ := s'
  have e1 : hh = s.heap := h1
  have e2 : o = s.os := h2
  subst e1 e2
  exact ⟨I.ok, I.os, h3, I.base, I.loc, I.cell, I.free, I.freeC, I.pin, I.hok, I.len⟩
theorem bare_set {gens : Array GenState} (h : AllBare gens) {g : Nat} {x : GenState} (hx : x.bare = true) : AllBare (gens.setIfInBounds g x) := fun y hy => by
  obtain ⟨i, hi, rfl⟩ := Array.mem_iff_getElem.mp hy
  rw [Array.size_setIfInBounds] at hi
  rw [Array.getElem_setIfInBounds hi]
  split
  · exact hx
  · exact h _ (Array.getElem_mem hi)
theorem Rs.set {s : Shared} (hb : AllBare s.gens) {g : Nat} {x : GenState} (hx : x.bare = true) : Rs s (s.setGen g x) :=
  ⟨rfl, rfl, bare_set hb hx, Nat.le_of_eq (GenW.setGen_size s g x).symm⟩
theorem Rs.trans {s s1 s2 : Shared} (a : Rs s s1) (b : Rs s1 s2) : Rs s s2 := ⟨b.heap.trans a.heap, b.os.trans a.os, b.bare, Nat.le_trans a.size b.size⟩
/-- the protocol of a generator whose items are truths: T b: what holds where b comes out -/
def gY (gi : Nat) (a : Addr) (stop : Bool) (Fin : Shared → Prop) : Protocol := fun n s₀ v s kap =>
  ∃ b, v = .bool b ∧ s.heap.IsGen a gi ∧ s.heap.NoLimit ∧ AllBare s.gens ∧ gi < s.gens.size ∧ (b = stop → Fin s) ∧ (b ≠ stop → ∀ s', Rs s s' → kap (.send .none) s')
def gR (End : Shared → Prop) : Nat → Shared → Shared → Prop := fun _ _ s => AllBare s.gens ∧ End s
/-- the generator waits -/
def Waits (prog : Program) (w : World) (A : Around) (gi : Nat) (a : Addr) (stop : Bool) (End Fin : Shared → Prop) (n : Nat) (s : Shared) : Prop :=
  s.heap.IsGen a gi ∧ s.heap.NoLimit ∧ AllBare s.gens ∧ ∃ gs, s.gens[gi]? = some gs ∧
    ∀ s', Rs s s' → gs.Goes (model prog w) A.in1 (fun n s₀ r s₁ => r = .ok .next ∧ gR End n s₀ s₁) (gY gi a stop Fin) n (.send .none) s'
section
variable {prog : Program} {w : World} {A : Around} {gi : Nat} {a : Addr} {stop : Bool} {End Fin : Shared → Prop}
theorem waits_next {n : Nat} {s : Shared} {Q : Option Value → Shared → Prop} {E : Value → Shared → Prop} (hh : A.handled = none) (hroom : A.depth < recursionLimit)
    (hE : ∀ s s' : Shared, End s → s'.os = s.os → AllBare s'.gens → (∀ b o, s.heap.get? b = some o → s'.heap.get? b = some o) → End s')
    (hF : ∀ s s' : Shared, Fin s → s'.os = s.os → AllBare s'.gens → (∀ b o, s.heap.get? b = some o → s'.heap.get? b = some o) → Fin s')
    (W : Waits prog w A gi a stop End Fin n s) (hN : ∀ s', End s' → Q none s') (hS : ∀ s', Fin s' → Q (some (.bool stop)) s')
    (hG : ∀ s' m, m < n → Waits prog w A gi a stop End Fin m s' → Q (some (.bool (!stop))) s') : wpAny (model prog w) A (pyNext (.ref a)) Q E s := by
  obtain ⟨hg, hl, hb, gs, hgs, hgo⟩ := W
  refine wpAny_pyNext_genexpQ (P := gR End) (Y := gY gi a stop Fin) hh hl hroom hg hgs (hgo _ (Rs.set hb rfl)) (fun v s₁ gs' hb' hv => ?_) fun s₁ hp h' hk => ?_
  · obtain ⟨b, rfl, g1, l1, b1, z1, f1, k1⟩ := hv
    by_cases e : b = stop
    · subst e
      exact hS _ (hF _ _ (f1 rfl) rfl (bare_set b1 hb') fun _ _ q => q)
    · have eb : b = !stop := by cases b <;> cases stop <;> first | rfl | exact absurd rfl e
      subst eb
      cases n with
      | zero => exact False.elim (k1 e s₁ ⟨rfl, rfl, b1, Nat.le_refl _⟩)
      | succ m =>
        refine hG _ m (Nat.lt_succ_self m) ⟨g1, l1, bare_set b1 hb', gs', ?_, fun s' r => k1 e s' ((Rs.set b1 hb').trans r)⟩
        show (s₁.gens.setIfInBounds gi gs')[gi]? = some gs'
        rw [Array.getElem?_setIfInBounds_self_of_lt z1]
  · obtain ⟨b1, e1⟩ := hp
    exact hN _ (hE _ _ e1 rfl (bare_set b1 rfl) fun b o q => hk b o q)
end
section
variable {prog : Program} {w : World} {A : Around} {gi : Nat} {a : Addr} {End Fin : Shared → Prop}
theorem all_loop (hh : A.handled = none) (hroom : A.depth < recursionLimit)
    (hE : ∀ s s' : Shared, End s → s'.os = s.os → AllBare s'.gens → (∀ b o, s.heap.get? b = some o → s'.heap.get? b = some o) → End s')
    (hF : ∀ s s' : Shared, Fin s → s'.os = s.os → AllBare s'.gens → (∀ b o, s.heap.get? b = some o → s'.heap.get? b = some o) → Fin s') :
    ∀ (n : Nat) (s : Shared), Waits prog w A.in1 gi a false End Fin n s →
      codeAny (model prog w) A (.builtin "all.loop" ⟨[.ref a], []⟩) (fun r s' => (r = .ok (.ret (.bool true)) ∧ End s') ∨ (r = .ok (.ret (.bool false)) ∧ Fin s')) s := by
  intro n
  induction n using Nat.strongRecOn with
  | ind n ih =>
    intro s W
    refine codeAny_builtin PySem.F.entry_all_loop ?_
    rw [Around.under_plainId PySem.F.plain_all_loop]
    show wpAny (model prog w) A.in1 (pyNext (.ref a) >>= _) _ _ s
    refine wpAny_bind (waits_next (A := A.in1) hh hroom hE hF W (fun s' e => ?_) (fun s' e => ?_) fun s' m hm W' => ?_)
    · exact wpAny_bind (wpAny_rule (wpAny_pure (.inl ⟨rfl, e⟩)))
    · refine wpAny_bind (wpAny_holding (wpAny_truthy_bool ?_))
      refine wpAny_bind (wpAny_letGo ?_)
      exact wpAny_bind (wpAny_rule (wpAny_pure (.inr ⟨rfl, e⟩)))
    · refine wpAny_bind (wpAny_holding (wpAny_truthy_bool ?_))
      refine wpAny_bind (wpAny_letGo ?_)
      exact wpAny_pure ⟨plainId_quiet PySem.F.plain_all_loop _, ih m hm s' W'⟩
end
/-! ### all(elt for target in iter) -/
/-- the reading: W by the turn and a measure; P: the def's table, which may grow -/
def tAll (P : Addr) (wi : TI) (g : TG) (te : TE) (vs : List Nat) : TE := fun σ H Q => wi σ H fun J H1 => GxR.TabG H1 P ∧ ∃ W : Nat → Nat → Hp → Prop, (∀ H2, GxR.Tabbed P H1 H2 → ∃ m, W 0 m H2) ∧ ∀ i m H, W i m H →
  (J.stop i H ∧ Q (.bl true) H) ∨ (J.go i H ∧ ∃ Nx : Hp → Prop, (∀ H', Nx H' → ∃ m', m' < m ∧ W (i + 1) m' H') ∧ ∀ x H', J.yld i H x H' → g x (wipe σ vs) H' fun σ2 H2 => wipe σ2 vs = wipe σ vs ∧
    te σ2 H2 fun y H3 => ∃ b, y = .bl b ∧ if b = true then Nx H3 else Q (.bl false) H3)
section
variable {X : Cx}
theorem pe_all {k : Nat} {c P : Addr} {elt tg iter : Expr} {scope : Scope} {own : List (Str × Nat)} {p pos gpos : Pos} {wi : TI} {g : TG} {te : TE}
    (hr : Room (k + 1) X.A) (TB : GxR.TabB X.base X.mg c P) (hcode : X.env.code = .ref c) (hc : X.calm = true) (hN : X.N.Nodup) (hG : Gl X "all") (hM : X.mg "all" = none) (hi : PI X tg iter wi) (ok : BlkOk X.N X.env.scope scope own) (gk : GnOk scope) (hdN : (".0" : Str) ∉ X.N)
    (hg : ∀ (s : Shared) (H : Hp) (A' : Around) (C : Addr) (cl : List (Str × Addr)) (code : Value) (fp : List Addr), PG (gX X s H A' (genEnv scope cl C code builtinsNs X.env) fp) tg g)
    (he : ∀ (s : Shared) (H : Hp) (A' : Around) (C : Addr) (cl : List (Str × Addr)) (code : Value) (fp : List Addr), Room k A' → PE (gX X s H A' (genEnv scope cl C code builtinsNs X.env) fp) elt te)
    (hs : ∀ v, genFold iter X.env v = pure v := by intro _; rfl)
    (hst : starEach [.GeneratorExp elt [⟨tg, iter, [], 0⟩] scope gpos] X.env = (false, eval (.GeneratorExp elt [⟨tg, iter, [], 0⟩] scope gpos) X.env) :: starEach [] X.env := by rfl) :
    PE X (.Call (.Name "all" p) [.GeneratorExp elt [⟨tg, iter, [], 0⟩] scope gpos] [] pos) (tAll P wi g te (own.map (·.2))) := by
  refine ⟨fun pins s σ H Q I h => ?_⟩
  have hh : X.A.handled = none := hr.hd
  refine wpAny_Call_Name_kw (ld_blt I hG hM PyProof.Rows.boot_all ?_)
  refine PyProof.Rows.callWith_builtin1 ?_ hst (by rfl)
  rw [hst]
  show wpAny _ _ (spliced ((false, eval (.GeneratorExp elt [⟨tg, iter, [], 0⟩] scope gpos) X.env) :: backTo pos (starEach [] X.env))) _ _ s
  have hfree : ∀ y ∈ scope.names, y.2 = .free → ∃ c, X.env.cells.lookup y.1 = some c := fun y hy e =>
    (ok.free y hy e).elim (fun k => I.ok.has _ (.inl k)) fun k => I.ok.has _ (.inr k)
  refine Calls.spliced_cons (wpAny_GeneratorExp_make gk.co (closure_ok hfree) gk.nocell gk.dot ok.kind (by have := hr.dp; omega) (thn (hi.run pins s σ H _ I h) fun xv s1 hx => thn hx fun itv s2 h2 => ?_) hs)
  obtain ⟨it, fp, tn, J, H2, e, I2, T, st2, f2, ⟨ps, hP, ht⟩, W, w0, turn⟩ := h2
  subst e
  refine ⟨I2.nolimit, ?_⟩
  have hPs : s2.heap.get? P = some { cls := .none, data := .fields ps } := I2.hok P _ hP
  have cd : PySem.W.CodeHd s2.heap c P := TB.code.keeps fun b u e => I2.bk b u e
  have sz2 : ∀ b ∈ fp, b < s2.heap.objs.size := fun b hb => by
    obtain ⟨o, e, _⟩ := T.obj _ _ st2 b hb
    exact Heap.lt_size e
  have nfP : ∀ b ∈ fp, b ≠ P := fun b hb z => by
    have q := (f2 b hb).1
    rw [z, hP] at q
    cases q
  -- behind the table
  have cont : ∀ (code : Value) (h3 : Heap) (tk : Nat) (more : Array Value), s2.heap.objs.size ≤ h3.objs.size → (∀ b o, b ≠ P → s2.heap.get? b = some o → h3.get? b = some o) → h3.get? P = some { cls := .none, data := .fields (ps ++ more) } → TriplesOk (ps ++ more).toList →
      wpAny (model X.prog X.w) X.A (builtinsFor X.env.globals X.env.builtins) (fun bi s4 => ∀ h', h'.Ns s4.heap.objs.size (fun y => if y = ".0" then some (.ref it) else none) → Heap.SameBut s4.heap.objs.size (s4.heap.push { cls := .type "frame", data := .dict #[] }) h' →
        wpAny (model X.prog X.w) X.A (spliced (backTo pos (starEach [] X.env))) (fun vs s5 => wpAny (model X.prog X.w) X.A (call (.builtin "all") (.ref h'.objs.size :: vs)) (EP X pins σ Q) X.xe s5) X.xe { s4 with
            gens := s4.gens.push (.fresh (.compStart (.GeneratorExp elt [⟨tg, iter, [], 0⟩] scope gpos) 0 (.ref it) .none (genEnv scope (cloFrom X.env.cells scope.names []) s4.heap.objs.size code bi X.env))), toks := s4.toks + 1 + 1 + 1,
            heap := h'.push { cls := .type "generator", data := .fields #[.int s4.gens.size 0, .str "<genexpr>" (s4.toks + 1), .str (X.env.qual ++ "<genexpr>") (s4.toks + 1 + 1)] } }) X.xe { s2 with heap := h3, toks := tk } := by
    intro code h3 tk more hle3 hk3 hP3 ht3
    have I3 : Inv X pins σ (upd H2 P (.tbl (ps ++ more))) { s2 with heap := h3, gens := s2.gens, drawn := s2.drawn, toks := tk } := GxR.inv_tab I2 hP hk3 hP3 I2.bare
    have tab3 : GxR.Tabbed P H2 (upd H2 P (.tbl (ps ++ more))) := ⟨⟨_, upd_same, ht3⟩, fun b hb => upd_ne hb⟩
    have st3 : tn 0 h3 := T.keep _ _ _ st2 fun b hb o e => hk3 b o (nfP b hb) e
    have f3 : ∀ b ∈ fp, FpOk X pins (upd H2 P (.tbl (ps ++ more))) b := fun b hb => ⟨by rw [upd_ne (nfP b hb)]; exact (f2 b hb).1, (f2 b hb).2⟩
    generalize upd H2 P (.tbl (ps ++ more)) = H3 at I3 tab3 f3
    obtain ⟨m0, hw0⟩ := w0 H3 tab3
    have sz3 : ∀ b ∈ fp, b < h3.objs.size := fun b hb => Nat.lt_of_lt_of_le (sz2 b hb) hle3
    have hs3 : ({ s2 with heap := h3, gens := s2.gens, drawn := s2.drawn, toks := tk } : Shared) = { s2 with heap := h3, toks := tk } := rfl
    rw [hs3] at I3
    generalize hsh : ({ s2 with heap := h3, toks := tk } : Shared) = s3 at I3 ⊢
    have eh : h3 = s3.heap := by rw [← hsh]
    rw [eh] at st3 sz3
    clear hsh hs3 eh hP3 hk3 hle3
    obtain ⟨bm, ob, e1, e2, e3, e4, e5, e6, e7, e8⟩ := TB.bm
    refine wpAny_builtinsFor (m := X.mg) (by rw [I3.ok.glob]; exact I3.mod.glob.keeps I3.bk) e1 e2 (I3.bk _ _ e5) e6 e7 e8 ?_
    intro h' hn' hs'
    refine Calls.spliced_nil ?_
    have hsz : h'.objs.size = s3.heap.objs.size + 1 := by rw [hs'.1, Heap.size_push]
    generalize hgo : ({ cls := .type "generator", data := .fields #[.int s3.gens.size 0, .str "<genexpr>" (s3.toks + 1), .str (X.env.qual ++ "<genexpr>") (s3.toks + 1 + 1)] } : Obj) = go
    have kp5 : ∀ b o, s3.heap.get? b = some o → (h'.push go).get? b = some o := fun b o e => Heap.get?_push_of_some _ (hs'.extBut b o (Nat.ne_of_lt (Heap.lt_size e)) (Heap.get?_push_of_some _ e))
    generalize hce : genEnv scope (cloFrom X.env.cells scope.names []) s3.heap.objs.size code builtinsNs X.env = ce
    have hhA : (X.A.in1.in1.over (.compLoop (.GeneratorExp elt [⟨tg, iter, [], 0⟩] scope gpos) 0 (.ref it) .none ce) []).handled = none := hh
    have hFr : (X.A.in1.in1.over (.compLoop (.GeneratorExp elt [⟨tg, iter, [], 0⟩] scope gpos) 0 (.ref it) .none ce) []).frames = some (ce :: X.stack) := by
      show pushEnvs [ce] (pushEnvs [] X.A.frames) = _
      rw [I3.ok.frames]
      rfl
    have hRm : Room k (X.A.in1.in1.over (.compLoop (.GeneratorExp elt [⟨tg, iter, [], 0⟩] scope gpos) 0 (.ref it) .none ce) []) := by
      have z1 := hr.dp
      have z2 := hr.un
      refine ⟨hhA, ?_, ?_⟩
      · show X.A.depth + 0 + 1 + 3 * k + 5 < recursionLimit
        omega
      · show X.A.units + 1 + 1 + 0 + 3 + 16 * k + 200 < cLine
        omega
    generalize hAg : X.A.in1.in1.over (.compLoop (.GeneratorExp elt [⟨tg, iter, [], 0⟩] scope gpos) 0 (.ref it) .none ce) [] = Ag at hhA hFr hRm
    have I5 : Inv (gX X s3 H3 Ag ce fp) [(h'.objs.size, go)] (wipe σ (own.map (·.2))) H3 { s3 with heap := h'.push go, gens := s3.gens.push (.fresh (.compStart (.GeneratorExp elt [⟨tg, iter, [], 0⟩] scope gpos) 0 (.ref it) .none ce)), toks := s3.toks + 1 + 1 + 1 } := by
      have q := gen_start (code := code) (A' := Ag) (h5 := h'.push go) (g5 := s3.gens.push (.fresh (.compStart (.GeneratorExp elt [⟨tg, iter, [], 0⟩] scope gpos) 0 (.ref it) .none ce))) (t5 := s3.toks + 1 + 1 + 1) (go := go) I3 ok gk hN (fun b hb => ⟨f3 b hb, sz3 b hb⟩) hhA (by rw [hce]; exact hFr) kp5 (hn'.push _)
        (fun x hx => if_neg hx) hdN (I3.bare.push rfl) (a := h'.objs.size) (by omega) (Heap.get?_push_size _ (by rw [← hgo]; rfl)) (by rw [← hgo]; intro v z; cases z)
      rw [hce] at q
      exact q
    have st5 : tn 0 (h'.push go) := T.keep _ _ _ st3 fun b _ o e => kp5 b o e
    have nfp : ∀ b ∈ fp, H3 b = none := fun b hb => (f3 b hb).1
    have pg := hg s3 H3 Ag s3.heap.objs.size (cloFrom X.env.cells scope.names []) code fp
    have pe := he s3 H3 Ag s3.heap.objs.size (cloFrom X.env.cells scope.names []) code fp hRm
    rw [hce] at pg pe
    have cCo : ce.scope.isCoroutine = false := by rw [← hce]; exact gk.co
    clear hn' hs' kp5 w0 hce
    -- back in the def's context
    have back : ∀ {σ' : L2.St} {H' : Hp} {s' : Shared} {pl : List (Addr × Obj)}, Inv (gX X s3 H3 Ag ce fp) pl σ' H' s' → Inv X pins σ H' s' := fun {σ' H' s' pl} J => I3.call' (ch := fp) J.os J.base J.hok J.bare fun b hb =>
      ⟨(f3 b hb).2.2.2.1, (f3 b hb).2.1, (f3 b hb).2.2.2.2.1, (f3 b hb).2.2.2.2.2⟩
    have stat : ∀ {σ' : L2.St} {H' : Hp} {s' : Shared}, Inv (gX X s3 H3 Ag ce fp) [(h'.objs.size, go)] σ' H' s' → (∀ b ∈ fp, H' b = none) → ∀ b ∈ fp, FpOk (gX X s3 H3 Ag ce fp) [(h'.objs.size, go)] H' b := fun {σ' H' s'} J hn b hb =>
      ⟨hn b hb, (J.ok.exf b hb).1, J.ok.exfs b hb, .inl hb, fun x c e => (J.ok.exf b hb).2 x c e, fun p hp => by
        have hp : p = (h'.objs.size, go) := by simpa using hp
        rw [hp]
        exact Nat.ne_of_gt (Nat.lt_trans (sz3 b hb) (by rw [hsz]; exact Nat.lt_succ_self _))⟩
    have gen : ∀ {σ' : L2.St} {H' : Hp} {s' : Shared} {pl : List (Addr × Obj)}, Inv (gX X s3 H3 Ag ce fp) ([(h'.objs.size, go)] ++ pl) σ' H' s' → s'.heap.IsGen h'.objs.size s3.gens.size := fun {σ' H' s' pl} J => by
      have q := (J.pin (h'.objs.size, go) (by simp)).1
      exact ⟨go, _, _, q, by rw [← hgo], by rw [← hgo], by rw [← hgo]⟩
    -- the turns
    have loop : ∀ (m n i : Nat) (s₀ s : Shared) (H : Hp), m < n → W i m H → Inv (gX X s3 H3 Ag ce fp) [(h'.objs.size, go)] (wipe σ (own.map (·.2))) H s → tn i s.heap → (∀ b ∈ fp, H b = none) → s3.gens.size + 1 ≤ s.gens.size →
        Seg (model X.prog X.w) X.A.in1.in1 (fun n s₀ r s₁ => r = .ok .next ∧ gR (fun s => ∃ H', Inv X pins σ H' s ∧ Q (.bl true) H') n s₀ s₁) (gY s3.gens.size h'.objs.size false fun s => ∃ H', Inv X pins σ H' s ∧ Q (.bl false) H') n s₀
          (.compLoop (.GeneratorExp elt [⟨tg, iter, [], 0⟩] scope gpos) 0 (.ref it) .none ce) ((model X.prog X.w).den (.compLoop (.GeneratorExp elt [⟨tg, iter, [], 0⟩] scope gpos) 0 (.ref it) .none ce)) [] s := by
      intro m
      induction m using Nat.strongRecOn with
      | ind m ih =>
        intro n i s₀ s H hmn w J st nf hz
        show Seg (model X.prog X.w) _ _ _ n s₀ _ ((compTurn (.GeneratorExp elt [⟨tg, iter, [], 0⟩] scope gpos) 0 (.ref it) .none ce).onRaise (leaving ce)) [] s
        rw [compTurn_gen]
        rw [Sem.onRaise_eq_wrap]
        refine seg_bind_wrap (wpAny_standAt (seg_bind_wrap ?_))
        rw [hAg]
        rcases turn i m H w with ⟨stp, qq⟩ | ⟨go', Nx, hNx, step⟩
        · refine thnF (T.done (gX X s3 H3 Ag ce fp) rfl rfl rfl hc i _ s _ H (fun _ _ => False) J (stat J nf) st stp) fun r s6 ⟨hr6, J6⟩ => ?_
          subst hr6
          exact seg_end (.ok .next) ⟨rfl, J6.bare, H, back J6, qq⟩
        · refine GenW.wpAny_gsz hz (thnF (T.item (gX X s3 H3 Ag ce fp) rfl rfl rfl hc i _ s _ H (fun _ _ => False) J (stat J nf) st go') fun r s6 ⟨u, hr6, h6⟩ hz6 => ?_)
          subst hr6
          refine seg_bind_wrap ?_
          rw [hAg]
          refine GenW.wpAny_gsz hz6 (thnF h6 fun _ s7 ⟨x, H7, J7, r7, y7, st7, n7⟩ hz7 => ?_)
          have J7' := J7.pinned (stat J7 n7) (T.obj _ _ st7)
          refine seg_bind_wrap ?_
          rw [hAg]
          refine GenW.wpAny_gsz hz7 (thnF (pg.run _ s7 _ H7 x u _ J7' r7 (step x H7 y7)) fun _ s8 ⟨σ8, H8, J8, hw8, q8⟩ hz8 => ?_)
          simp only [List.forIn_nil]
          refine seg_bind_wrap (wpAny_pure ?_)
          simp only [if_true]
          have hy : ∀ v, yieldOut ce v = yieldValue v := fun v => by simp only [yieldOut, cCo, Bool.false_eq_true, if_false]
          simp only [hy]
          rw [Sem.bind_eq_wrap', Sem.bind_eq_wrap']
          rw [Sem.wrap_wrap, Sem.wrap_wrap]
          refine seg_wrap ?_
          rw [hAg]
          refine GenW.wpAny_gsz hz8 (thnF (pe.run _ s8 σ8 H8 _ J8 q8) fun z s9 ⟨yv, H9, J9, r9, b, eb, qb⟩ hz9 => ?_)
          subst eb
          obtain rfl : z = Value.bool b := r9
          obtain ⟨n', rfl⟩ : ∃ n', n = n' + 1 := ⟨n - 1, by omega⟩
          refine seg_at (seg_yield rfl rfl rfl ⟨b, rfl, gen J9, J9.nolimit, J9.bare, hz9, fun e => ?_, fun e s' r => ?_⟩)
          · subst e
            exact ⟨H9, back J9, qb⟩
          · have e : b = true := by
              cases b with
              | true => rfl
              | false => exact absurd rfl e
            subst e
            rw [if_pos rfl] at qb
            obtain ⟨m', hm', w'⟩ := hNx H9 qb
            have pin' : ∀ b ∈ fp, ∀ o, s7.heap.get? b = some o → s9.heap.get? b = some o ∧ H9 b = none := fun b hb o e =>
              let z := J9.pin (b, o) (List.mem_append_right _ (List.mem_append_right _ (mem_pinsAt hb e)))
              ⟨z.1, z.2.1⟩
            have hl : (wipe σ (own.map (·.2))).length = σ8.length := by rw [← hw8, wipe_length]
            have K9 : Inv (gX X s3 H3 Ag ce fp) [(h'.objs.size, go)] (wipe σ (own.map (·.2))) H9 s9 := J9.unpinned.weak hl fun j v e => by
              rw [← hw8] at e
              exact (wipe_some e).1
            refine seg_again rfl (ih m' hm' n' (i + 1) s' s' H9 (by omega) w' (r.inv K9) ?_ (fun b hb => ?_) (Nat.le_trans hz9 r.size))
            · rw [r.heap]
              exact T.keep _ _ _ st7 fun b hb o e => (pin' b hb o e).1
            · obtain ⟨o, e, _⟩ := T.obj _ _ st7 b hb
              exact (pin' b hb o e).2
    have mono : ∀ (b : Bool) (s s' : Shared), (∃ H', Inv X pins σ H' s ∧ Q (.bl b) H') → s'.os = s.os → AllBare s'.gens → (∀ b o, s.heap.get? b = some o → s'.heap.get? b = some o) → ∃ H', Inv X pins σ H' s' ∧ Q (.bl b) H' := fun b s s' ⟨H', J, q⟩ h1 h2 h3 =>
      ⟨H', inv_gens (J.kept (t' := s'.toks) h3) rfl h1 h2, q⟩
    generalize hs5 : ({ s3 with heap := h'.push go, gens := s3.gens.push (.fresh (.compStart (.GeneratorExp elt [⟨tg, iter, [], 0⟩] scope gpos) 0 (.ref it) .none ce)), toks := s3.toks + 1 + 1 + 1 } : Shared) = s5 at I5
    have hg5 : s5.gens[s3.gens.size]? = some (.fresh (.compStart (.GeneratorExp elt [⟨tg, iter, [], 0⟩] scope gpos) 0 (.ref it) .none ce)) := by
      rw [← hs5]
      exact Array.getElem?_push_size ..
    have hz5 : s3.gens.size + 1 ≤ s5.gens.size := by
      rw [← hs5]
      exact Nat.le_of_eq (Array.size_push ..).symm
    have ht5 : tn 0 s5.heap := by rw [← hs5]; exact st5
    have wt : Waits X.prog X.w X.A.in1 s3.gens.size h'.objs.size false (fun s => ∃ H', Inv X pins σ H' s ∧ Q (.bl true) H') (fun s => ∃ H', Inv X pins σ H' s ∧ Q (.bl false) H') (m0 + 1) s5 := by
      refine ⟨gen (pl := []) I5, I5.nolimit, I5.bare, _, hg5, fun s' r => ⟨rfl, ?_⟩⟩
      have lp := loop m0 (m0 + 1) 0 s' s' H3 (Nat.lt_succ_self _) hw0 (r.inv I5) (by rw [r.heap]; exact ht5) nfp (Nat.le_trans hz5 r.size)
      show Seg (model X.prog X.w) _ _ _ _ s' _ ((compStart (.GeneratorExp elt [⟨tg, iter, [], 0⟩] scope gpos) 0 (.ref it) .none ce).onRaise (leaving ce)) [] s'
      unfold compStart
      rw [Sem.onRaise_eq_wrap]
      show Seg (model X.prog X.w) _ _ _ _ s' _ ((ask >>= _).wrap _ _ _ _) [] s'
      refine seg_bind_wrap (wpAny_askSetting ?_)
      have ts : tn 0 s'.heap := by rw [r.heap]; exact ht5
      split
      · exact seg_again rfl lp
      · first
          | exact seg_bind_wrap (wpAny_rule (seg_bind_wrap (wpAny_standAt (seg_bind_wrap (T.self _ 0 s' _ _ ts (seg_again rfl lp))))))
          | (refine seg_bind_wrap (wpAny_rule ?_); show Seg (model X.prog X.w) _ _ _ _ s' _ ((standAt iter.pos >>= _).wrap _ _ _ _) [] s'; exact seg_bind_wrap (wpAny_standAt (seg_bind_wrap (T.self _ 0 s' _ _ ts (seg_again rfl lp)))))
    refine call_function_tree PySem.F.kind_all PySem.F.plain_all PySem.F.entry_all (PySem.F.args_all1 _) ?_
    unfold Builtin.«all»
    refine wpAny_bind (m := oneArg "all" _) (wpAny_pure ?_)
    refine wpAny_bind (wpAny_pyIter_gen (gen (pl := []) I5) ?_)
    refine wpAny_pure ⟨plainId_quiet PySem.F.plain_all_loop _, codeAny_mono (all_loop hh hr.depth (mono true) (mono false) (m0 + 1) s5 wt) fun r s' hq => ?_⟩
    rcases hq with ⟨rfl, H', J, q⟩ | ⟨rfl, H', J, q⟩
    · exact ⟨.bl true, H', J, rfl, q⟩
    · exact ⟨.bl false, H', J, rfl, q⟩
  cases hf : codeAmong gpos ps.toList with
  | none =>
    refine wpAny_genexprCodeX hcode (cd.code hPs ht) (cd.tab hPs) hf fun c' h' tk hx hge hlt hco' _ htab' _ => ?_
    obtain ⟨o1, vs, f1, tf, fl, tg1, inF, tx, tt, op, _, _, _, _, _, _, _, _, _, htr, _⟩ := hco'
    exact cont _ h' tk _ (Nat.le_trans hge (Nat.le_of_lt hlt)) (fun b o hb e => hx b o hb e) htab'.2 htr
  | some cv =>
    refine wpAny_genexprCode_hit hcode (cd.code hPs ht) hf ?_
    have := cont cv s2.heap s2.toks #[] (Nat.le_refl _) (fun _ _ _ e => e) (by rw [hPs]; simp) (by simpa using ht)
    exact this
end
def topS (i : Nat) : Stmt := PySem.Challenge.pw_friendfoe_k02_weights.main.body.getD i (.Pass ⟨0, 0, 0, 0⟩)
abbrev s_is_whole : Stmt := topS 1
abbrev N_is_whole : List Str := ["thing"]
theorem sc_is_whole : FnScope N_is_whole ["thing"] (defScope s_is_whole) := ⟨rfl, rfl, rfl, by decide +kernel, rfl, by decide +kernel, by decide +kernel⟩
abbrev s_is_whole_from : Stmt := topS 2
abbrev N_is_whole_from : List Str := ["low", "thing"]
theorem sc_is_whole_from : FnScope N_is_whole_from ["low", "thing"] (defScope s_is_whole_from) := ⟨rfl, rfl, rfl, by decide +kernel, rfl, by decide +kernel, by decide +kernel⟩
abbrev s_is_tuple_of : Stmt := topS 3
abbrev N_is_tuple_of : List Str := ["length", "thing"]
theorem sc_is_tuple_of : FnScope N_is_tuple_of ["length", "thing"] (defScope s_is_tuple_of) := ⟨rfl, rfl, rfl, by decide +kernel, rfl, by decide +kernel, by decide +kernel⟩
abbrev s_is_weights : Stmt := topS 5
abbrev N_is_weights : List Str := ["web", "thing", "weight"]
theorem sc_is_weights : FnScope N_is_weights ["web", "thing"] (defScope s_is_weights) := ⟨rfl, rfl, rfl, by decide +kernel, rfl, by decide +kernel, by decide +kernel⟩
abbrev s_weight_of : Stmt := topS 6
abbrev N_weight_of : List Str := ["weights", "tie"]
theorem sc_weight_of : FnScope N_weight_of ["weights", "tie"] (defScope s_weight_of) := ⟨rfl, rfl, rfl, by decide +kernel, rfl, by decide +kernel, by decide +kernel⟩
abbrev s_l_deck : Stmt := topS 8
abbrev N_l_deck : List Str := ["_law_script"]
theorem sc_l_deck : FnScope N_l_deck ["_law_script"] (defScope s_l_deck) := ⟨rfl, rfl, rfl, by decide +kernel, rfl, by decide +kernel, by decide +kernel⟩
abbrev s_l_draw : Stmt := topS 9
abbrev N_l_draw : List Str := ["_law_deck_here", "_law_many", "_law_cell", "_law_number"]
theorem sc_l_draw : FnScope N_l_draw ["_law_deck_here", "_law_many"] (defScope s_l_draw) := ⟨rfl, rfl, rfl, by decide +kernel, rfl, by decide +kernel, by decide +kernel⟩
abbrev s_l_web : Stmt := topS 10
abbrev N_l_web : List Str := ["_law_deck_here", "_law_many", "_law_count", "_law_ties", "_law_k", "_law_one", "_law_other"]
theorem sc_l_web : FnScope N_l_web ["_law_deck_here"] (defScope s_l_web) := ⟨rfl, rfl, rfl, by decide +kernel, rfl, by decide +kernel, by decide +kernel⟩
abbrev s_l_whole : Stmt := topS 11
abbrev N_l_whole : List Str := ["_law_thing"]
theorem sc_l_whole : FnScope N_l_whole ["_law_thing"] (defScope s_l_whole) := ⟨rfl, rfl, rfl, by decide +kernel, rfl, by decide +kernel, by decide +kernel⟩
abbrev s_l_weights : Stmt := topS 12
abbrev N_l_weights : List Str := ["_law_deck_here", "_law_many", "_law_most", "_law_k"]
theorem sc_l_weights : FnScope N_l_weights ["_law_deck_here", "_law_many"] (defScope s_l_weights) := ⟨rfl, rfl, rfl, by decide +kernel, rfl, by decide +kernel, by decide +kernel⟩
abbrev s_l_are : Stmt := topS 13
abbrev N_l_are : List Str := ["_law_thing", "_law_many", "_law_one"]
theorem sc_l_are : FnScope N_l_are ["_law_thing", "_law_many"] (defScope s_l_are) := ⟨rfl, rfl, rfl, by decide +kernel, rfl, by decide +kernel, by decide +kernel⟩
abbrev s_l_otherwise : Stmt := topS 14
abbrev N_l_otherwise : List Str := ["_law_deck_here", "_law_weights_here", "_law_at", "_law_some", "_law_odd", "_law_way"]
theorem sc_l_otherwise : FnScope N_l_otherwise ["_law_deck_here", "_law_weights_here"] (defScope s_l_otherwise) := ⟨rfl, rfl, rfl, by decide +kernel, rfl, by decide +kernel, by decide +kernel⟩
abbrev s_l_right : Stmt := topS 15
abbrev N_l_right : List Str := ["_law_web_here", "_law_thing", "_law_found"]
theorem sc_l_right : FnScope N_l_right ["_law_web_here", "_law_thing"] (defScope s_l_right) := ⟨rfl, rfl, rfl, by decide +kernel, rfl, by decide +kernel, by decide +kernel⟩
abbrev s_law : Stmt := topS 16
abbrev N_law : List Str := ["_law_script", "_law_deck_here", "_law_web_here", "_law_weights_here", "_law_thing", "_law_k", "_law_turn", "_law_tie", "_law_found", "_law_due"]
theorem sc_law : FnScope N_law ["_law_script"] (defScope s_law) := ⟨rfl, rfl, rfl, by decide +kernel, rfl, by decide +kernel, by decide +kernel⟩
/-! ### own rules: a list against [] -/
section
variable {X : Cx}
def rEqE (K : PySem.W.Frag) : R2 := fun x y H Q => ∃ (a b : Addr) (xs : List V), x = .ref a ∧ y = .ref b ∧ SqL K H a xs ∧ SqL K H b [] ∧ Q (.bl xs.isEmpty) H
def rNeE (K : PySem.W.Frag) : R2 := fun x y H Q => ∃ (a b : Addr) (xs : List V), x = .ref a ∧ y = .ref b ∧ SqL K H a xs ∧ SqL K H b [] ∧ Q (.bl (!xs.isEmpty)) H
theorem op_eqE (hu : X.A.units < cLine) : OpR X (compareOp .Eq) (rEqE X.K) := by
  intro pins s σ H x y v u Q I rx ry h
  obtain ⟨a, b, xs, rfl, rfl, ha, hb, q⟩ := h
  obtain rfl : v = Value.ref a := rx
  obtain rfl : u = Value.ref b := ry
  obtain ⟨its, r1, p1, _⟩ := I.list ha
  obtain ⟨its2, r2, p2, _⟩ := I.list hb
  cases r2
  cases xs with
  | nil =>
    cases r1
    exact SeqAt.eq_listAt (e := fun _ => true) p1.isList p2.isList rfl hu (fun j h1 _ => absurd h1 (by simp)) ⟨.bl true, H, I, rfl, q⟩
  | cons z zs =>
    cases r1 with
    | cons r t => exact SeqAt.eq_list_lengthsAt p1.isList p2.isList (by simp) hu ⟨.bl false, H, I, rfl, q⟩
theorem op_neE (hu : X.A.units < cLine) : OpR X (compareOp .NotEq) (rNeE X.K) := by
  intro pins s σ H x y v u Q I rx ry h
  obtain ⟨a, b, xs, rfl, rfl, ha, hb, q⟩ := h
  obtain rfl : v = Value.ref a := rx
  obtain rfl : u = Value.ref b := ry
  obtain ⟨its, r1, p1, _⟩ := I.list ha
  obtain ⟨its2, r2, p2, _⟩ := I.list hb
  cases r2
  cases xs with
  | nil =>
    cases r1
    exact SeqAt.RcNeAt.lists (e := fun _ => true) p1.isList p2.isList rfl hu (fun j h1 _ => absurd h1 (by simp)) _ _ _ _ ⟨.bl false, H, I, rfl, q⟩
  | cons z zs =>
    cases r1 with
    | cons r t => exact SeqAt.RcNeAt.lists_lengths p1.isList p2.isList (by simp) hu _ _ _ _ ⟨.bl true, H, I, rfl, q⟩
end
section
variable {P : Program} {w : World} {K : PySem.W.Frag} {mg : Str → Option Value} {base : Heap}
/-! ### a draw -/
theorem ok_l_draw {f : Addr} {fd : FuncData} (F : Fun K "_law_draw" "_law_draw" s_l_draw f fd) : FnOk P w K mg base CX0 1 f fd ["_law_deck_here", "_law_many"] spDraw := by
  refine F.ok sc_l_draw (fun vs H Q E h => ?_) (fun cdv A outer s H vs Q E hr h => ?_)
  · obtain ⟨d, c, m, rfl, _⟩ := h
    rfl
  · obtain ⟨d, c, m, rfl, hD, hm, hb, q⟩ := h
    have ndc := hD.ne
    obtain ⟨cells, st, n, hd, hc, hl⟩ := hD
    refine ⟨_, (pss_cons (ps_asg (pe_op op_add (pe_ix ix_list (pv 0) pe_int (fun _ _ => rfl)) pe_int) (pg_sub (pv 0) pe_int set_list))
      (pss_cons (ps_set (i := 2) sc_l_draw.nd rfl (.inl rfl) (pe_ix ix_list (pv 0) pe_int (fun _ _ => rfl)))
      (Evl.pss_cut (ps_if (pt_cmpR (op_neE hr.units0) (pe_ix ix_list (pv 0) pe_int (fun _ _ => rfl)) (pe_lst pa_nil) (nomark _))
        (pss_cons (ps_set (i := 2) sc_l_draw.nd rfl (.inl rfl) (pe_bm0 PySem.F.plainAttrs_list PySem.F.slot_list_pop PySem.F.type_list_pop mt_pop (pe_ix ix_list (pv 0) pe_int (fun _ _ => rfl))))
        (pss_one (ps_if (pt_cmpR op_ge (pv 2) (pe_op op_pow pe_int pe_int) (nomark _))
          (pss_cons (ps_expr (pe_bm PySem.F.plainAttrs_list PySem.F.slot_list_append PySem.F.type_list_append mt_append (pe_ix ix_list (pv 0) pe_int (fun _ _ => rfl)) (pa_cons (pe_op op_fdivW (pv 2) (pv 1)) pa_nil)))
          (pss_one (ps_ret (pe_op op_mod (pv 2) (pv 1)))))
          pss_nil)))
        pss_nil)
      (Evl.pss_cut (ps_set (i := 3) sc_l_draw.nd rfl (.inl rfl) (pe_op op_mod (pe_op op_mul (pe_op op_add (pe_op op_add (pe_op op_mod (pv 2) pe_int) (pe_op op_mul pe_int (pe_ix ix_list (pv 0) pe_int (fun _ _ => rfl)))) pe_int) pe_int) pe_int))
      (Evl.pss_cut (ps_set (i := 3) sc_l_draw.nd rfl (.inl rfl) (pe_op op_mod (pe_op op_add (pe_op op_add (pe_op op_mul (pv 3) (pv 3)) (pe_op op_mul pe_int (pv 3))) (pe_ix ix_list (pv 0) pe_int (fun _ _ => rfl))) pe_int))
      (pss_one (ps_ret (pe_op op_mod (pe_op op_fdiv (pe_op op_mod (pe_op op_mul (pv 3) (pv 3)) pe_int) pe_int) (pv 1))))))))), ?_⟩
    -- deck[2] = deck[2] + 1
    refine ⟨.ref d, rfl, d, _, 2, .int n, rfl, rfl, SqL.of hd, rfl, n, 1, rfl, rfl, .ref d, rfl, d, _, 2, 2, rfl, rfl, hd, rfl, ?_⟩
    generalize hH1 : upd H d (.lst ([V.ref c, .int st, .int n].set 2 (.int (n + 1)))) = H1
    have hd1 : H1 d = some (.lst [.ref c, .int st, .int (n + 1)]) := by rw [← hH1]; exact upd_same
    have hc1 : H1 c = some (.lst (cells.map V.int)) := by rw [← hH1, upd_ne (Ne.symm ndc)]; exact hc
    have k1 : Kp d c H H1 := by rw [← hH1]; exact Kp.at_d
    clear hH1
    -- cell = deck[1]
    refine ⟨.ref d, rfl, d, _, 1, .int st, rfl, rfl, SqL.of hd1, rfl, ?_⟩
    -- if deck[0] != []
    refine ⟨fun σ' H3 => ∃ x : Int, σ' = [some (.ref d), some (.int m), some (.int x), none] ∧ H3 d = some (.lst [.ref c, .int st, .int (n + 1)]) ∧ (∃ cs : List Int, H3 c = some (.lst (cs.map V.int)) ∧ cs.length ≤ 63) ∧ Kp d c H H3, ?_, ?_⟩
    · refine ⟨.ref d, rfl, d, _, 0, .ref c, rfl, rfl, SqL.of hd1, rfl, Nat.zero_le _, fun p np => ?_⟩
      have hd2 : (upd H1 p (.lst [])) d = some (.lst [.ref c, .int st, .int (n + 1)]) := by rw [upd_ne (ne_of_none hd1 np)]; exact hd1
      have hc2 : (upd H1 p (.lst [])) c = some (.lst (cells.map V.int)) := by rw [upd_ne (ne_of_none hc1 np)]; exact hc1
      have k2 : Kp d c H (upd H1 p (.lst [])) := k1.trans (Kp.new np)
      refine ⟨c, p, cells.map V.int, rfl, rfl, SqL.of hc2, SqL.of upd_same, _, rfl, ?_⟩
      generalize upd H1 p (.lst []) = H2 at hd2 hc2 k2
      cases hcs : cells with
      | nil =>
        subst hcs
        exact ⟨st, rfl, hd2, ⟨[], hc2, by simp⟩, k2⟩
      | cons z zs =>
        rw [hcs] at hc2 hl
        obtain ⟨ys, y, e⟩ : ∃ (ys : List Int) (y : Int), z :: zs = ys ++ [y] := ⟨(z :: zs).dropLast, (z :: zs).getLast (by simp), (List.dropLast_concat_getLast (by simp)).symm⟩
        rw [e] at hc2 hl
        have hl2 : ys.length ≤ 62 := by rw [List.length_append] at hl; simp at hl; omega
        -- cell = deck[0].pop()
        refine ⟨.ref d, rfl, d, _, 0, .ref c, rfl, rfl, SqL.of hd2, rfl, .inl ⟨rfl, _, SqL.of hc2⟩, c, _, .int y, rfl, rfl, hc2, by simp, ?_⟩
        have e3 : ((ys ++ [y]).map V.int).dropLast = ys.map V.int := by simp
        rw [e3]
        have hd3 : (upd H2 c (.lst (ys.map V.int))) d = some (.lst [.ref c, .int st, .int (n + 1)]) := by rw [upd_ne ndc]; exact hd2
        have hc3 : (upd H2 c (.lst (ys.map V.int))) c = some (.lst (ys.map V.int)) := upd_same
        have k3 : Kp d c H (upd H2 c (.lst (ys.map V.int))) := k2.trans Kp.at_c
        generalize upd H2 c (.lst (ys.map V.int)) = H3 at hd3 hc3 k3
        -- if cell >= 10 ** 18
        refine ⟨.int y, rfl, 10, 18, rfl, rfl, ⟨by decide, by decide, by decide⟩, y, _, rfl, rfl, _, rfl, ?_⟩
        refine ite2 (fun _ => ?_) (fun _ => ?_)
        · refine ⟨.ref d, rfl, d, _, 0, .ref c, rfl, rfl, SqL.of hd3, rfl, .inl ⟨rfl, _, SqL.of hc3⟩, .int y, rfl, .int m, rfl, y, m, rfl, rfl, wide_div hm hb (by decide) (by decide), c, _, _, rfl, rfl, hc3, ?_, ?_⟩
          · rw [List.length_map]
            exact small1000 (by omega)
          · refine ⟨.int y, rfl, .int m, rfl, y, m, rfl, rfl, hm, ?_⟩
            refine q _ _ (mod_rng hm).1 (mod_rng hm).2 ⟨ys ++ [y / m], st, n + 1, ?_, ?_, ?_⟩ (k3.trans Kp.at_c)
            · rw [upd_ne ndc]
              exact hd3
            · rw [upd_same, List.map_append]
              rfl
            · rw [List.length_append]
              show ys.length + 1 ≤ 63
              omega
        · exact ⟨y, rfl, hd3, ⟨ys, hc3, by omega⟩, k3⟩
    · rintro σ' H3 ⟨x, rfl, hd3, ⟨cs, hc3, hl3⟩, k3⟩
      refine ⟨fun σ' H4 => ∃ N : Int, σ' = [some (.ref d), some (.int m), some (.int x), some (.int N)] ∧ 0 ≤ N ∧ N < 2147483647 ∧ H4 = H3, ?_, ?_⟩
      · exact ⟨.int x, rfl, x, 2147483629, rfl, rfl, show (0 : Int) < 2147483629 by decide, .ref d, rfl, d, _, 2, .int (n + 1), rfl, rfl, SqL.of hd3, rfl, 7919, n + 1, rfl, rfl, .inl ⟨by decide, by decide⟩, _, _, rfl, rfl, _, 11, rfl, rfl, _, 48271, rfl, rfl, .inr ⟨by decide, by decide⟩, _, 2147483647, rfl, rfl, show (0 : Int) < 2147483647 by decide, _, rfl, (mod_rng (by decide)).1, (mod_rng (by decide)).2, rfl⟩
      rintro σ' H4 ⟨N, rfl, hN0, hN1, rfl⟩
      refine ⟨fun σ' H5 => ∃ M : Int, σ' = [some (.ref d), some (.int m), some (.int x), some (.int M)] ∧ 0 ≤ M ∧ M < 2147483587 ∧ H5 = H4, ?_, ?_⟩
      · exact ⟨.int N, rfl, .int N, rfl, N, N, rfl, rfl, .inl ⟨by omega, by omega⟩, .int N, rfl, 69621, N, rfl, rfl, .inl ⟨by decide, by decide⟩, _, _, rfl, rfl, .ref d, rfl, d, _, 2, .int (n + 1), rfl, rfl, SqL.of hd3, rfl, _, _, rfl, rfl, _, 2147483587, rfl, rfl, show (0 : Int) < 2147483587 by decide, _, rfl, (mod_rng (by decide)).1, (mod_rng (by decide)).2, rfl⟩
      rintro σ' H5 ⟨M, rfl, hM0, hM1, rfl⟩
      refine ⟨.int M, rfl, .int M, rfl, M, M, rfl, rfl, .inl ⟨by omega, by omega⟩, _, 2147483563, rfl, rfl, show (0 : Int) < 2147483563 by decide, _, 32, rfl, rfl, ⟨by decide, by decide⟩, .int m, rfl, _, m, rfl, rfl, hm, ?_⟩
      exact q _ _ (mod_rng hm).1 (mod_rng hm).2 ⟨cs, st, n + 1, hd3, hc3, hl3⟩ k3
/-! ### the deck is laid -/
theorem cutV_ints (ns : List Int) (lo hi : Option Int) : ∃ ms : List Int, cutV (ns.map V.int) lo hi = ms.map V.int ∧ ms.length ≤ ns.length := by
  refine ⟨(ns.drop (HT.sIx ns.length 0 lo)).take (HT.sIx ns.length ns.length hi - HT.sIx ns.length 0 lo), ?_, ?_⟩
  · unfold cutV
    rw [List.length_map, List.map_take, List.map_drop]
  · rw [List.length_take, List.length_drop]
    omega
def spDeck (K : PySem.W.Frag) : Sp := fun vs H Q _ => ∃ (a : Addr) (ns : List Int), vs = [.ref a] ∧ SqL K H a (ns.map V.int) ∧ ns.length ≤ 63 ∧
  ∀ d c H', Same H H' → H d = none → H c = none → Deck H' d c → Q (.ref d) H'
theorem ok_l_deck {f : Addr} {fd : FuncData} (F : Fun K "_law_deck" "_law_deck" s_l_deck f fd) (M : Free mg) : FnOk P w K mg base CX0 1 f fd ["_law_script"] (spDeck K) := by
  refine F.ok sc_l_deck (fun vs H Q E h => ?_) (fun cdv A outer s H vs Q E hr h => ?_)
  · obtain ⟨a, ns, rfl, _⟩ := h
    rfl
  · obtain ⟨a, ns, rfl, hS, hl, q⟩ := h
    refine ⟨_, (pss_one (ps_ret (pe_lst (pa_cons (pe_revL (pe_callTy call_list_of (by rfl) M.list (by decide +kernel) (pa_cons (pe_slice sl_list (pv 0) po_none (po_some pe_int)) pa_nil))) (pa_cons (pe_op op_add (pe_callB (cr_sum rfl) (by rfl) M.sum (by decide +kernel) (pa_cons (pe_slice sl_list (pv 0) po_none (po_some pe_int)) pa_nil)) (pe_op op_mul pe_int (pe_callB call_len_seq (by rfl) M.len PySem.boot_len (pa_cons (pe_slice sl_list (pv 0) po_none (po_some pe_int)) pa_nil)))) (pa_cons pe_int pa_nil)))))), ?_⟩
    obtain ⟨ms, em, lm⟩ := cutV_ints ns none (some 63)
    refine ⟨.ref a, rfl, 63, rfl, a, _, rfl, hS, fun p1 n1 => ⟨p1, _, rfl, .inl (SqL.of upd_same), fun p2 n2 => ⟨p2, _, rfl, SqL.of upd_same, fun p3 n3 => ?_⟩⟩⟩
    rw [em] at n2 n3 ⊢
    have s1 : Same H (upd H p1 (.lst (ms.map V.int))) := same_new n1
    have s2 := s1.trans (same_new (o := .lst (ms.map V.int)) n2)
    have s3 := s2.trans (same_new (o := .lst (ms.map V.int).reverse) n3)
    have h3 : (upd (upd (upd H p1 (.lst (ms.map V.int))) p2 (.lst (ms.map V.int))) p3 (.lst (ms.map V.int).reverse)) p3 = some (.lst (ms.reverse.map V.int)) := by
      rw [upd_same, List.map_reverse]
    have f3 : H p3 = none := s2.free n3
    generalize upd (upd (upd H p1 (.lst (ms.map V.int))) p2 (.lst (ms.map V.int))) p3 (.lst (ms.map V.int).reverse) = H3 at s3 h3
    refine ⟨.ref a, rfl, 63, rfl, a, _, rfl, s3.seq hS, fun p4 n4 => ⟨p4, ms, rfl, SqL.of (by rw [upd_same, em]), .ref a, rfl, 63, rfl, a, _, rfl, (s3.trans (same_new n4)).seq hS, fun p5 n5 => ?_⟩⟩
    have s5 := (s3.trans (same_new (o := .lst (cutV (ns.map V.int) none (some 63))) n4)).trans (same_new (o := .lst (cutV (ns.map V.int) none (some 63))) n5)
    have h5 := same_new (o := .lst (cutV (ns.map V.int) none (some 63))) n5 _ _ (same_new (o := .lst (cutV (ns.map V.int) none (some 63))) n4 _ _ h3)
    refine ⟨p5, _, rfl, .inl (SqL.of upd_same), 31, _, rfl, rfl, .inl ⟨by decide, by decide⟩, _, _, rfl, rfl, (by show 3 ≤ sizeLine; decide), fun d nd => ?_⟩
    refine q d p3 _ (s5.trans (same_new nd)) (s5.free nd) f3 ⟨ms.reverse, _, 0, upd_same, ?_, ?_⟩
    · rw [upd_ne (ne_of_none h5 nd)]
      exact h5
    · rw [List.length_reverse]
      omega
/-! ### webs -/
structure Tie where
  one : Int
  other : Int
  foe : Bool
def kindS : Bool → Str
  | true => "foe"
  | false => "friend"
def TieV (H : Hp) (v : V) (t : Tie) : Prop := ∃ a, v = .ref a ∧ H a = some (.tup [.int t.one, .int t.other, .str (kindS t.foe)])
def TieOk (n : Int) (t : Tie) : Prop := 0 ≤ t.one ∧ t.one < n ∧ 0 ≤ t.other ∧ t.other < n ∧ t.one ≠ t.other
def WebAt (H : Hp) (v : V) (n : Int) (ts : List Tie) : Prop := ∃ a b vs, v = .ref a ∧ H a = some (.tup [.int n, .ref b]) ∧ H b = some (.tup vs) ∧ Paired (TieV H) vs ts
structure WebOk (n : Int) (ts : List Tie) : Prop where
  lo : 1 ≤ n
  hi : n ≤ 40
  few : ts.length ≤ 120
  ok : ∀ t ∈ ts, TieOk n t
/-- tuples stay -/
def Tk (H H' : Hp) : Prop := ∀ b xs, H b = some (.tup xs) → H' b = some (.tup xs)
theorem Tk.trans {H H1 H2 : Hp} (a : Tk H H1) (b : Tk H1 H2) : Tk H H2 := fun x xs h => b x xs (a x xs h)
theorem Same.tk {H H' : Hp} (s : Same H H') : Tk H H' := fun b xs h => s b _ h
theorem tk_lst {H : Hp} {l : Addr} {xs ys : List V} (h : H l = some (.lst xs)) : Tk H (upd H l (.lst ys)) := fun b zs e => by
  rw [upd_ne (ne_of e h (by intro z; cases z))]
  exact e
theorem TieV.tk {H H' : Hp} (k : Tk H H') {v : V} {t : Tie} (h : TieV H v t) : TieV H' v t := by
  obtain ⟨a, rfl, e⟩ := h
  exact ⟨a, rfl, k _ _ e⟩
theorem ties_tk {H H' : Hp} (k : Tk H H') {vs : List V} {ts : List Tie} (h : Paired (TieV H) vs ts) : Paired (TieV H') vs ts := Paired.mono (fun _ _ x => x.tk k) h
theorem WebAt.tk {H H' : Hp} (k : Tk H H') {v : V} {n : Int} {ts : List Tie} (h : WebAt H v n ts) : WebAt H' v n ts := by
  obtain ⟨a, b, vs, rfl, h1, h2, h3⟩ := h
  exact ⟨a, b, vs, rfl, k _ _ h1, k _ _ h2, ties_tk k h3⟩
theorem Kp.tk {d c : Addr} {H H' : Hp} (k : Kp d c H H') (D : Deck H d c) : Tk H H' := fun b xs e => by
  obtain ⟨cells, st, n, h1, h2, _⟩ := D
  exact k b _ (ne_of e h1 (by intro z; cases z)) (ne_of e h2 (by intro z; cases z)) e
theorem Kp.mut {d c l : Addr} {H H' : Hp} {o : HO} (k : Kp d c H H') (h : H l = none) : Kp d c H (upd H' l o) := fun b u h1 h2 e => by
  rw [upd_ne (ne_of_none e h)]
  exact k b u h1 h2 e
theorem Deck.mut {H : Hp} {d c l : Addr} {o : HO} (D : Deck H d c) (h1 : l ≠ d) (h2 : l ≠ c) : Deck (upd H l o) d c := by
  obtain ⟨cells, st, n, e1, e2, e3⟩ := D
  exact ⟨cells, st, n, by rw [upd_ne (Ne.symm h1)]; exact e1, by rw [upd_ne (Ne.symm h2)]; exact e2, e3⟩
theorem Deck.new {H : Hp} {d c l : Addr} {o : HO} (D : Deck H d c) (h : H l = none) : Deck (upd H l o) d c := D.same (same_new h)
theorem Deck.ned {H : Hp} {d c l : Addr} (D : Deck H d c) (h : H l = none) : l ≠ d ∧ l ≠ c := by
  obtain ⟨cells, st, n, e1, e2, e3⟩ := D
  exact ⟨(ne_of_none e1 h).symm, (ne_of_none e2 h).symm⟩
theorem Paired.at {α β : Type} {F : α → β → Prop} : ∀ {l : List α} {m : List β} {i : Nat} {a : α}, Paired F l m → l[i]? = some a → ∃ b, m[i]? = some b ∧ F a b
  | _, _, _, _, .nil, e => by simp at e
  | _, _, 0, _, .cons r _, e => by simp at e; subst e; exact ⟨_, rfl, r⟩
  | _, _, i + 1, a, .cons _ t, e => by
    obtain ⟨u, h1, h2⟩ := Paired.at (i := i) (a := a) t (by simpa using e)
    exact ⟨u, by simpa using h1, h2⟩
theorem Paired.at' {α β : Type} {F : α → β → Prop} : ∀ {l : List α} {m : List β} {i : Nat} {b : β}, Paired F l m → m[i]? = some b → ∃ a, l[i]? = some a ∧ F a b
  | _, _, _, _, .nil, e => by simp at e
  | _, _, 0, _, .cons r _, e => by simp at e; subst e; exact ⟨_, rfl, r⟩
  | _, _, i + 1, b, .cons _ t, e => by
    obtain ⟨u, h1, h2⟩ := Paired.at' (i := i) (b := b) t (by simpa using e)
    exact ⟨u, by simpa using h1, h2⟩
theorem getI {α : Type} {xs : List α} {i : Int} (h0 : 0 ≤ i) (h1 : i < (xs.length : Int)) : ∃ v, atI xs i = some v ∧ xs[i.toNat]? = some v := by
  obtain ⟨j, rfl⟩ : ∃ j : Nat, i = (j : Int) := ⟨i.toNat, by omega⟩
  have h2 : j < xs.length := by omega
  exact ⟨xs[j], atI_nat (List.getElem?_eq_getElem h2), by rw [Int.toNat_natCast]; exact List.getElem?_eq_getElem h2⟩
theorem other_ne {n a b : Int} (h0 : 0 ≤ a) (h1 : a < n) (g0 : 0 ≤ b) (g1 : b < n - 1) : a ≠ (a + 1 + b) % n := by
  by_cases h : a + 1 + b < n
  · rw [Int.emod_eq_of_lt (by omega) h]
    omega
  · have e : a + 1 + b = (a + 1 + b - n) + 1 * n := by omega
    rw [e, Int.add_mul_emod_self_right, Int.emod_eq_of_lt (by omega) (by omega)]
    omega
theorem pick2 {α : Type} (a b : α) (k : Bool) : atI [a, b] (if k then 1 else 0) = some (if k then b else a) := by
  cases k <;> rfl
def spWeb : Sp := fun vs H Q _ => ∃ (d c : Addr), vs = [.ref d] ∧ Deck H d c ∧
  ∀ v n ts H', WebAt H' v n ts → WebOk n ts → Deck H' d c → Kp d c H H' → Q v H'
theorem ok_l_web {f : Addr} {fd : FuncData} (F : Fun K "_law_web" "_law_web" s_l_web f fd) (M : Free mg) (Dd : Df P w K mg base 1 "_law_draw" ["_law_deck_here", "_law_many"] spDraw) : FnOk P w K mg base CX0 2 f fd ["_law_deck_here"] spWeb := by
  obtain ⟨fD, fdD, GD, gD, kD, bD⟩ := Dd
  refine F.ok sc_l_web (fun vs H Q E h => ?_) (fun cdv A outer s H vs Q E hr h => ?_)
  · obtain ⟨d, c, rfl, _⟩ := h
    rfl
  · obtain ⟨d, c, rfl, hD, q⟩ := h
    refine ⟨_, (Evl.pss_cut (ps_set (i := 1) sc_l_web.nd rfl (.inl rfl) (pe_ix ix_list (pe_lst (pa_cons (pe_op op_add pe_int (pe_call GD hr (by rfl) gD kD bD .nil pass0 (pa_cons (pv 0) (pa_cons pe_int pa_nil)))) (pa_cons (pe_op op_add pe_int (pe_call GD hr (by rfl) gD kD bD .nil pass0 (pa_cons (pv 0) (pa_cons pe_int pa_nil)))) pa_nil))) (pe_callTy call_int1 (by rfl) M.int (by decide +kernel) (pa_cons (pe_cmpR op_eq (pe_call GD hr (by rfl) gD kD bD .nil pass0 (pa_cons (pv 0) (pa_cons pe_int pa_nil))) pe_int (nomark _)) pa_nil)) (fun _ _ => rfl)))
      (Evl.pss_cut (ps_set (i := 2) sc_l_web.nd rfl (.inl rfl) (pe_ix ix_list (pe_lst (pa_cons (pe_call GD hr (by rfl) gD kD bD .nil pass0 (pa_cons (pv 0) (pa_cons pe_int pa_nil))) (pa_cons (pe_call GD hr (by rfl) gD kD bD .nil pass0 (pa_cons (pv 0) (pa_cons pe_int pa_nil))) pa_nil))) (pe_callTy call_int1 (by rfl) M.int (by decide +kernel) (pa_cons (pe_cmpR op_eq (pe_call GD hr (by rfl) gD kD bD .nil pass0 (pa_cons (pv 0) (pa_cons pe_int pa_nil))) pe_int (nomark _)) pa_nil)) (fun _ _ => rfl)))
      (pss_cons (ps_set (i := 3) sc_l_web.nd rfl (.inl rfl) (pe_lst pa_nil))
      (pss_cons (ps_for PassesOwn.never rfl (pi_range1 (by rfl) M.range (pa_cons (pe_op op_mul (pv 2) (pe_callTy call_int1 (by rfl) M.int (by decide +kernel) (pa_cons (pe_cmpR op_gt (pv 1) pe_int (nomark _)) pa_nil))) pa_nil)) (pg_name (i := 4) sc_l_web.nd rfl (.inl rfl))
        (pss_cons (ps_set (i := 5) sc_l_web.nd rfl (.inl rfl) (pe_call GD hr (by rfl) gD kD bD .nil pass0 (pa_cons (pv 0) (pa_cons (pv 1) pa_nil))))
        (pss_cons (ps_set (i := 6) sc_l_web.nd rfl (.inl rfl) (pe_op op_mod (pe_op op_add (pe_op op_add (pv 5) pe_int) (pe_call GD hr (by rfl) gD kD bD .nil pass0 (pa_cons (pv 0) (pa_cons (pe_op op_sub (pv 1) pe_int) pa_nil)))) (pv 1)))
        (Evl.pss_cut (ps_if (PW.pt (pw_and (pt_cmpR (op_neE hr.units0) (pv 3) (pe_lst pa_nil) (nomark _)) (pw_and1 (pt_cmpR op_eq (pe_call GD hr (by rfl) gD kD bD .nil pass0 (pa_cons (pv 0) (pa_cons pe_int pa_nil))) pe_int (nomark _)))))
          (pss_one (ps_asg (pe_slice sl_tupA (pe_ix ix_list (pv 3) (pe_call GD hr (by rfl) gD kD bD .nil pass0 (pa_cons (pv 0) (pa_cons (pe_callB call_len_seq (by rfl) M.len PySem.boot_len (pa_cons (pv 3) pa_nil)) pa_nil))) (fun _ _ => rfl)) po_none (po_some pe_int)) (pg_tup rfl (pgs_cons (pg_name (i := 6) sc_l_web.nd rfl (.inl rfl)) (pgs_cons (pg_name (i := 5) sc_l_web.nd rfl (.inl rfl)) pgs_nil)))))
          pss_nil)
        (pss_one (ps_expr (pe_bm PySem.F.plainAttrs_list PySem.F.slot_list_append PySem.F.type_list_append mt_append (pv 3) (pa_cons (pe_tup (pa_cons (pv 5) (pa_cons (pv 6) (pa_cons (pe_ix ix_list (pe_lst (pa_cons pe_str (pa_cons pe_str pa_nil))) (pe_call GD hr (by rfl) gD kD bD .nil pass0 (pa_cons (pv 0) (pa_cons pe_int pa_nil))) (fun _ _ => rfl)) pa_nil)))) pa_nil))))))))
      (pss_one (ps_ret (pe_tup (pa_cons (pv 1) (pa_cons (pe_callTy call_tuple_of (by rfl) M.tuple (by decide +kernel) (pa_cons (pv 3) pa_nil)) pa_nil))))))))), ?_⟩
    -- many
    refine ⟨fun σ' H' => ∃ n : Int, σ' = [some (.ref d), some (.int n), none, none, none, none, none] ∧ 1 ≤ n ∧ n ≤ 40 ∧ Deck H' d c ∧ Kp d c H H', ?_, ?_⟩
    · refine ⟨.ref d, rfl, d, c, 6, rfl, hD, by decide, by decide, fun v1 H1 a1 b1 D1 K1 => ⟨1, v1, rfl, rfl, .ref d, rfl, d, c, 40, rfl, D1, by decide, by decide, fun v2 H2 a2 b2 D2 K2 => ⟨1, v2, rfl, rfl, by show 2 ≤ sizeLine; decide, fun p np => ?_⟩⟩⟩
      refine ⟨.ref d, rfl, d, c, 8, rfl, D2.new np, by decide, by decide, fun v3 H3 a3 b3 D3 K3 => ⟨rfl, .inr ⟨_, rfl, p, _, _, _, rfl, rfl, SqL.of (K3 p _ (D2.ned np).1 (D2.ned np).2 upd_same), pick2 _ _ _, ?_⟩⟩⟩
      have K := ((K1.trans K2).trans (Kp.new (o := .lst [.int (1 + v1), .int (1 + v2)]) np)).trans K3
      by_cases hk : decide (V.int v3 = V.int 5) = true
      · rw [hk]
        exact ⟨1 + v2, rfl, by omega, by omega, D3, K⟩
      · rw [Bool.not_eq_true] at hk
        rw [hk]
        exact ⟨1 + v1, rfl, by omega, by omega, D3, K⟩
    rintro σ' H0 ⟨n, rfl, hn1, hn2, hD0, K0⟩
    -- count
    refine ⟨fun σ' H' => ∃ k : Int, σ' = [some (.ref d), some (.int n), some (.int k), none, none, none, none] ∧ 0 ≤ k ∧ k ≤ 120 ∧ Deck H' d c ∧ Kp d c H H', ?_, ?_⟩
    · refine ⟨.ref d, rfl, d, c, 13, rfl, hD0, by decide, by decide, fun v1 H1 a1 b1 D1 K1 => ⟨.ref d, rfl, d, c, 121, rfl, D1, by decide, by decide, fun v2 H2 a2 b2 D2 K2 => ⟨by show 2 ≤ sizeLine; decide, fun p np => ?_⟩⟩⟩
      refine ⟨.ref d, rfl, d, c, 8, rfl, D2.new np, by decide, by decide, fun v3 H3 a3 b3 D3 K3 => ⟨rfl, .inr ⟨_, rfl, p, _, _, _, rfl, rfl, SqL.of (K3 p _ (D2.ned np).1 (D2.ned np).2 upd_same), pick2 _ _ _, ?_⟩⟩⟩
      have K := (((K0.trans K1).trans K2).trans (Kp.new (o := .lst [.int v1, .int v2]) np)).trans K3
      by_cases hk : decide (V.int v3 = V.int 3) = true
      · rw [hk]
        exact ⟨v2, rfl, by omega, by omega, D3, K⟩
      · rw [Bool.not_eq_true] at hk
        rw [hk]
        exact ⟨v1, rfl, by omega, by omega, D3, K⟩
    clear hD0 K0 H0
    rintro σ' H0 ⟨k, rfl, hk1, hk2, hD0, K0⟩
    -- ties = []
    refine ⟨Nat.zero_le _, fun L nL => ?_⟩
    have hLd := hD0.ned nL
    have nL0 : H L = none := by
      cases e : H L with
      | none => rfl
      | some o =>
        rw [K0 L o hLd.1 hLd.2 e] at nL
        cases nL
    -- the loop
    refine ⟨.int k, rfl, .int n, rfl, n, 1, rfl, rfl, .inr ⟨_, rfl, k, _, rfl, rfl, .inl ⟨by omega, by omega⟩, _, rfl, ?_, ?_, ?_⟩⟩
    · by_cases hb : decide ((1 : Int) < n) = true
      · rw [hb]
        show -(2 ^ 62) ≤ k * 1
        omega
      · rw [Bool.not_eq_true] at hb
        rw [hb]
        show -(2 ^ 62) ≤ k * 0
        omega
    · by_cases hb : decide ((1 : Int) < n) = true
      · rw [hb]
        show k * 1 < 2 ^ 62
        omega
      · rw [Bool.not_eq_true] at hb
        rw [hb]
        show k * 0 < 2 ^ 62
        omega
    generalize hN : (k * (if decide ((1 : Int) < n) = true then 1 else 0)).toNat = N
    have hN2 : N ≤ 120 ∧ (0 < N → 1 < n) := by
      by_cases hb : (1 : Int) < n
      · rw [if_pos (decide_eq_true hb)] at hN
        exact ⟨by omega, fun _ => hb⟩
      · rw [if_neg (by simpa using hb)] at hN
        exact ⟨by omega, fun z => by omega⟩
    refine for_range (lo := 0) (n := N) (fun i σ' H' => ∃ (y4 y5 y6 : Option V) (vs : List V) (ts : List Tie), σ' = [some (.ref d), some (.int n), some (.int k), some (.ref L), y4, y5, y6] ∧ H' L = some (.lst vs) ∧ Paired (TieV H') vs ts ∧ ts.length = i ∧ (∀ t ∈ ts, TieOk n t) ∧ Deck H' d c ∧ Kp d c H H') ?_ ?_ ?_
    · exact ⟨none, none, none, [], [], rfl, upd_same, .nil, rfl, fun t ht => by simp at ht, hD0.new nL, K0.trans (Kp.new nL)⟩
    · rintro i σ' H1 hi ⟨y4, y5, y6, vs, ts, rfl, hL, hP, hlen, hok, D1, K1⟩
      have hn := hN2.2 (by omega)
      -- one, other
      refine ⟨.ref d, rfl, .int n, rfl, d, c, n, rfl, D1, by omega, by omega, fun v1 H2 a1 b1 D2 K2 => ?_⟩
      refine ⟨.int v1, rfl, v1, 1, rfl, rfl, .ref d, rfl, .int n, rfl, n, 1, rfl, rfl, d, c, n - 1, rfl, D2, by omega, by omega, fun v2 H3 a2 b2 D3 K3 => ⟨v1 + 1, v2, rfl, rfl, .int n, rfl, _, n, rfl, rfl, show (0 : Int) < n by omega, ?_⟩⟩
      have hL3 : H3 L = some (.lst vs) := K3 _ _ hLd.1 hLd.2 (K2 _ _ hLd.1 hLd.2 hL)
      have hP3 : Paired (TieV H3) vs ts := ties_tk ((K2.tk D1).trans (K3.tk D2)) hP
      have K13 : Kp d c H H3 := (K1.trans K2).trans K3
      -- as one ahead, the other way about
      refine ⟨fun σ' H' => ∃ (y4 : Option V) (t : Tie), σ' = [some (.ref d), some (.int n), some (.int k), some (.ref L), y4, some (.int t.one), some (.int t.other)] ∧ TieOk n t ∧ H' L = some (.lst vs) ∧ Paired (TieV H') vs ts ∧ Deck H' d c ∧ Kp d c H H', ?_, ?_⟩
      · have ok1 : TieOk n ⟨v1, (v1 + 1 + v2) % n, false⟩ := ⟨a1, b1, (mod_rng (by omega)).1, (mod_rng (by omega)).2, other_ne a1 b1 a2 b2⟩
        refine ⟨.ref L, rfl, Nat.zero_le _, fun p np => ⟨L, p, vs, rfl, rfl, SqL.of (same_new np _ _ hL3), SqL.of upd_same, _, rfl, ?_⟩⟩
        by_cases hvs : vs = []
        · subst hvs
          exact ⟨_, ⟨v1, (v1 + 1 + v2) % n, false⟩, rfl, ok1, same_new np _ _ hL3, ties_tk (Same.tk (same_new np)) hP3, D3.new np, K13.trans (Kp.new np)⟩
        · have hpos : 0 < vs.length := List.length_pos_iff.mpr hvs
          have hb : (!vs.isEmpty) = true := by
            cases vs with
            | nil => exact absurd rfl hvs
            | cons z zs => rfl
          rw [hb]
          refine ⟨.ref d, rfl, d, c, 4, rfl, D3.new np, by decide, by decide, fun v3 H4 a3 b3 D4 K4 => ⟨rfl, _, rfl, ?_⟩⟩
          have hL4 : H4 L = some (.lst vs) := K4 _ _ hLd.1 hLd.2 (same_new np _ _ hL3)
          have hP4 : Paired (TieV H4) vs ts := ties_tk (K4.tk (D3.new np)) (ties_tk (Same.tk (same_new np)) hP3)
          have K14 : Kp d c H H4 := (K13.trans (Kp.new np)).trans K4
          refine ite2 (fun _ => ?_) (fun _ => ?_)
          · have hlv : vs.length = ts.length := Paired.length hP4
            refine ⟨.ref L, rfl, .ref d, rfl, .ref L, rfl, L, vs, rfl, .inl (SqL.of hL4), d, c, vs.length, rfl, D4, by omega, by omega, fun v4 H5 a4 b4 D5 K5 => ?_⟩
            have hL5 : H5 L = some (.lst vs) := K5 _ _ hLd.1 hLd.2 hL4
            have hP5 : Paired (TieV H5) vs ts := ties_tk (K5.tk D4) hP4
            obtain ⟨v, e1, e2⟩ := getI a4 b4
            obtain ⟨t, e3, a, rfl, e4⟩ := Paired.at hP5 e2
            have okt : TieOk n t := hok t (List.mem_of_getElem? e3)
            refine ⟨L, vs, v4, _, rfl, rfl, SqL.of hL5, e1, 2, rfl, a, _, rfl, SqT.of e4, fun z => absurd z.2 (show ¬ (HT.sIx 3 3 (some 2) = 3) by decide), fun _ q2 nq => ?_⟩
            refine ⟨q2, _, rfl, SqT.of upd_same, rfl, _, _, rfl, _, _, rfl, rfl, _, ⟨t.other, t.one, false⟩, rfl, ⟨okt.2.2.1, okt.2.2.2.1, okt.1, okt.2.1, Ne.symm okt.2.2.2.2⟩, same_new nq _ _ hL5, ties_tk (Same.tk (same_new nq)) hP5, D5.new nq, (K14.trans K5).trans (Kp.new nq)⟩
          · exact ⟨_, ⟨v1, (v1 + 1 + v2) % n, false⟩, rfl, ok1, hL4, hP4, D4, K14⟩
      rintro σ' H4 ⟨y, t, rfl, okt, hL4, hP4, D4, K4⟩
      -- append
      refine ⟨.ref L, rfl, .inl ⟨rfl, _, SqL.of hL4⟩, .int t.one, rfl, .int t.other, rfl, by show 2 ≤ sizeLine; decide, fun p np => ⟨.ref d, rfl, d, c, 2, rfl, D4.new np, by decide, by decide, fun v5 H5 a5 b5 D5 K5 => ?_⟩⟩
      have e5 : atI [V.str "friend", V.str "foe"] v5 = some (.str (kindS (decide (v5 = 1)))) := by
        have h01 : v5 = 0 ∨ v5 = 1 := by omega
        rcases h01 with e | e <;> subst e <;> rfl
      refine ⟨p, _, v5, _, rfl, rfl, SqL.of (K5 p _ (D4.ned np).1 (D4.ned np).2 upd_same), e5, by show 3 ≤ sizeLine; decide, fun q2 nq => ?_⟩
      have hL5 : H5 L = some (.lst vs) := K5 _ _ hLd.1 hLd.2 (same_new np _ _ hL4)
      have hL6 : (upd H5 q2 (.tup [.int t.one, .int t.other, .str (kindS (decide (v5 = 1)))])) L = some (.lst vs) := same_new nq _ _ hL5
      have hP6 := ties_tk (Same.tk (same_new (o := .tup [.int t.one, .int t.other, .str (kindS (decide (v5 = 1)))]) nq)) (ties_tk (K5.tk (D4.new np)) (ties_tk (Same.tk (same_new np)) hP4))
      have hlv : vs.length = ts.length := Paired.length hP4
      refine ⟨L, vs, _, rfl, rfl, hL6, small1000 (by omega), ?_⟩
      refine ⟨_, _, _, vs ++ [.ref q2], ts ++ [⟨t.one, t.other, decide (v5 = 1)⟩], rfl, upd_same, Paired.snoc (ties_tk (tk_lst hL6) hP6) ⟨q2, rfl, tk_lst hL6 _ _ upd_same⟩, by rw [List.length_append, hlen]; rfl, fun t' ht => ?_, (D5.new nq).mut hLd.1 hLd.2, (((K4.trans (Kp.new np)).trans K5).trans (Kp.new nq)).mut nL0⟩
      rcases List.mem_append.mp ht with h | h
      · exact hok t' h
      · rw [List.mem_singleton.mp h]
        exact okt
    · rintro σ' H1 ⟨y4, y5, y6, vs, ts, rfl, hL, hP, hlen, hok, D1, K1⟩
      -- return
      refine ⟨.int n, rfl, .ref L, rfl, L, vs, rfl, .inl ⟨SqL.of hL, fun b nb => ⟨by show 2 ≤ sizeLine; decide, fun a na => ?_⟩⟩⟩
      have s2 := (same_new (o := .tup vs) nb).trans (same_new (o := .tup [.int n, .ref b]) na)
      exact q _ n ts _ ⟨a, b, vs, rfl, upd_same, same_new na _ _ upd_same, ties_tk (Same.tk s2) hP⟩ ⟨hn1, hn2, by omega, hok⟩ (D1.same s2) (K1.trans (Same.kp s2))
end
/-! ### tuples cut and put together -/
section
variable {X : Cx}
theorem cutV_whole {xs : List V} {lo hi : Option Int} (h : HT.sIx xs.length 0 lo = 0 ∧ HT.sIx xs.length xs.length hi = xs.length) : cutV xs lo hi = xs := by
  unfold cutV
  rw [h.1, h.2]
  simp
def rSlU : V → Option Int → Option Int → Hp → VK → Prop := fun x lo hi H Q => ∃ a xs, x = .ref a ∧ H a = some (.tup xs) ∧ ∀ r H', Same H H' → H' r = some (.tup (cutV xs lo hi)) → Q (.ref r) H'
theorem sl_tupU : SlR X rSlU := by
  intro pins s σ H x v vl vu lo hi sl Q I rx hs pl pu h
  obtain ⟨a, xs, rfl, hx, q⟩ := h
  refine sl_tupA pins s σ H _ v vl vu lo hi sl Q I rx hs pl pu ⟨a, xs, rfl, SqT.of hx, fun hw => ?_, fun _ p np => ?_⟩
  · exact q a H (Same.refl H) (by rw [cutV_whole hw]; exact hx)
  · exact q p _ (same_new np) upd_same
def rCatU : R2 := fun x y H Q => ∃ a b xs ys, x = .ref a ∧ y = .ref b ∧ H a = some (.tup xs) ∧ H b = some (.tup ys) ∧ xs.length + ys.length ≤ 100000 ∧ ∀ r H', Same H H' → H' r = some (.tup (xs ++ ys)) → Q (.ref r) H'
theorem op_catU : OpR X (binaryOp .Add) rCatU := by
  intro pins s σ H x y v u Q I rx ry h
  obtain ⟨a, b, xs, ys, rfl, rfl, ha, hb, hz, q⟩ := h
  refine op_catA pins s σ H _ _ v u Q I rx ry ⟨a, b, xs, ys, rfl, rfl, SqT.of ha, SqT.of hb, Evl.sz_of hz, fun e => ?_, fun _ e => ?_, fun _ _ p np => ?_⟩
  · subst e
    exact q b H (Same.refl H) hb
  · subst e
    exact q a H (Same.refl H) (by rw [List.append_nil]; exact ha)
  · exact q p _ (same_new np) upd_same
end
/-! ### things of any kind -/
/-- its kind is known -/
def Kn (H : Hp) : V → Prop
  | .non => True
  | .bl _ => True
  | .int _ => True
  | .str _ => True
  | .ref a => (∃ xs, H a = some (.lst xs)) ∨ (∃ xs, H a = some (.tup xs)) ∨ ∃ kvs, H a = some (.dK kvs)
  | _ => False
def isI : V → Bool
  | .int _ => true
  | .bl _ => true
  | _ => false
def isB : V → Bool
  | .bl _ => true
  | _ => false
def isW : V → Bool
  | .int _ => true
  | _ => false
def isT (H : Hp) : V → Bool
  | .ref a => match H a with
    | some (.tup _) => true
    | _ => false
  | _ => false
section
variable {K : PySem.W.Frag} {H : Hp}
theorem kn_int {v : V} (h : Kn H v) : ∃ t, TyX K H v t ∧ PySem.W.kitOne K t (.type "int") = some (isI v) := by
  cases v with
  | non => exact ⟨_, .base .non, kit_ty (r := false) (by decide +kernel)⟩
  | bl b => exact ⟨_, .base (.bl b), kit_ty (r := true) (by decide +kernel)⟩
  | int i => exact ⟨_, .base (.int i), kit_ty (r := true) (by decide +kernel)⟩
  | str x => exact ⟨_, .base (.str x), kit_ty (r := false) (by decide +kernel)⟩
  | ref a =>
    rcases h with ⟨xs, h⟩ | ⟨xs, h⟩ | ⟨xs, h⟩
    · exact ⟨_, .base (.lst h), kit_ty (r := false) (by decide +kernel)⟩
    · exact ⟨_, .base (.tup h), kit_ty (r := false) (by decide +kernel)⟩
    · exact ⟨_, .base (.dK h), kit_ty (r := false) (by decide +kernel)⟩
  | byt b => exact h.elim
  | flt b => exact h.elim
  | ty n => exact h.elim
theorem kn_bool {v : V} (h : Kn H v) : ∃ t, TyX K H v t ∧ PySem.W.kitOne K t (.type "bool") = some (isB v) := by
  cases v with
  | non => exact ⟨_, .base .non, kit_ty (r := false) (by decide +kernel)⟩
  | bl b => exact ⟨_, .base (.bl b), kit_ty (r := true) (by decide +kernel)⟩
  | int i => exact ⟨_, .base (.int i), kit_ty (r := false) (by decide +kernel)⟩
  | str x => exact ⟨_, .base (.str x), kit_ty (r := false) (by decide +kernel)⟩
  | ref a =>
    rcases h with ⟨xs, h⟩ | ⟨xs, h⟩ | ⟨xs, h⟩
    · exact ⟨_, .base (.lst h), kit_ty (r := false) (by decide +kernel)⟩
    · exact ⟨_, .base (.tup h), kit_ty (r := false) (by decide +kernel)⟩
    · exact ⟨_, .base (.dK h), kit_ty (r := false) (by decide +kernel)⟩
  | byt b => exact h.elim
  | flt b => exact h.elim
  | ty n => exact h.elim
theorem kn_tup {v : V} (h : Kn H v) : ∃ t, TyX K H v t ∧ PySem.W.kitOne K t (.type "tuple") = some (isT H v) := by
  cases v with
  | non => exact ⟨_, .base .non, kit_ty (r := false) (by decide +kernel)⟩
  | bl b => exact ⟨_, .base (.bl b), kit_ty (r := false) (by decide +kernel)⟩
  | int i => exact ⟨_, .base (.int i), kit_ty (r := false) (by decide +kernel)⟩
  | str x => exact ⟨_, .base (.str x), kit_ty (r := false) (by decide +kernel)⟩
  | ref a =>
    unfold isT
    rcases h with ⟨xs, h⟩ | ⟨xs, h⟩ | ⟨xs, h⟩
    · exact ⟨_, .base (.lst h), by simp only [h]; exact kit_ty (r := false) (by decide +kernel)⟩
    · exact ⟨_, .base (.tup h), by simp only [h]; exact kit_ty (r := true) (by decide +kernel)⟩
    · exact ⟨_, .base (.dK h), by simp only [h]; exact kit_ty (r := false) (by decide +kernel)⟩
  | byt b => exact h.elim
  | flt b => exact h.elim
  | ty n => exact h.elim
theorem isT_at {v : V} (h : isT H v = true) : ∃ a xs, v = .ref a ∧ H a = some (.tup xs) := by
  cases v with
  | ref a =>
    unfold isT at h
    cases e : H a with
    | none => simp only [e] at h; cases h
    | some o =>
      cases o with
      | tup xs => exact ⟨a, xs, rfl, e⟩
      | _ => simp only [e] at h; cases h
  | _ => cases h
theorem isT_of {a : Addr} {xs : List V} (h : H a = some (.tup xs)) : isT H (.ref a) = true := by
  unfold isT
  simp only [h]
end
section
variable {P : Program} {w : World} {K : PySem.W.Frag} {mg : Str → Option Value} {base : Heap}
def spWhole : Sp := fun vs H Q _ => ∃ v, vs = [v] ∧ Kn H v ∧ Q (.bl (isW v)) H
theorem and_whole {v : V} : (isI v && !isB v) = isW v := by cases v <;> rfl
theorem ok_is_whole {f : Addr} {fd : FuncData} (F : Fun K "is_whole" "is_whole" s_is_whole f fd) (M : Free mg) : FnOk P w K mg base CX0 1 f fd ["thing"] spWhole := by
  refine F.ok sc_is_whole (fun vs H Q E h => ?_) (fun cdv A outer s H vs Q E hr h => ?_)
  · obtain ⟨v, rfl, _⟩ := h
    rfl
  · obtain ⟨v, rfl, hk, q⟩ := h
    refine ⟨_, (pss_one (ps_ret (pe_and (pe_callB call_isi (by rfl) M.isinstance (by decide +kernel) (pa_cons (pv 0) (pa_cons (pe_bltn (v := .ty "int") (by rfl) M.int (by decide +kernel) rfl) pa_nil))) (pe_one (pe_not (pe_callB call_isi (by rfl) M.isinstance (by decide +kernel) (pa_cons (pv 0) (pa_cons (pe_bltn (v := .ty "bool") (by rfl) M.bool (by decide +kernel) rfl) pa_nil)))))))), ?_⟩
    obtain ⟨t1, h1, e1⟩ := kn_int (K := K) hk
    obtain ⟨t2, h2, e2⟩ := kn_bool (K := K) hk
    refine ⟨v, rfl, v, _, t1, _, _, rfl, .ty "int", h1, e1, _, rfl, ?_⟩
    rw [← and_whole] at q
    cases hi : isI v with
    | false =>
      rw [hi] at q
      exact q
    | true =>
      rw [hi] at q
      exact ⟨v, rfl, v, _, t2, _, _, rfl, .ty "bool", h2, e2, _, rfl, q⟩
theorem ok_l_whole {f : Addr} {fd : FuncData} (F : Fun K "_law_whole" "_law_whole" s_l_whole f fd) (M : Free mg) : FnOk P w K mg base CX0 1 f fd ["_law_thing"] spWhole := by
  refine F.ok sc_l_whole (fun vs H Q E h => ?_) (fun cdv A outer s H vs Q E hr h => ?_)
  · obtain ⟨v, rfl, _⟩ := h
    rfl
  · obtain ⟨v, rfl, hk, q⟩ := h
    refine ⟨_, (pss_one (ps_ret (pe_and (pe_callB call_isi (by rfl) M.isinstance (by decide +kernel) (pa_cons (pv 0) (pa_cons (pe_bltn (v := .ty "int") (by rfl) M.int (by decide +kernel) rfl) pa_nil))) (pe_one (pe_not (pe_callB call_isi (by rfl) M.isinstance (by decide +kernel) (pa_cons (pv 0) (pa_cons (pe_bltn (v := .ty "bool") (by rfl) M.bool (by decide +kernel) rfl) pa_nil)))))))), ?_⟩
    obtain ⟨t1, h1, e1⟩ := kn_int (K := K) hk
    obtain ⟨t2, h2, e2⟩ := kn_bool (K := K) hk
    refine ⟨v, rfl, v, _, t1, _, _, rfl, .ty "int", h1, e1, _, rfl, ?_⟩
    rw [← and_whole] at q
    cases hi : isI v with
    | false =>
      rw [hi] at q
      exact q
    | true =>
      rw [hi] at q
      exact ⟨v, rfl, v, _, t2, _, _, rfl, .ty "bool", h2, e2, _, rfl, q⟩
def wfrom (lo : Int) : V → Bool
  | .int i => decide (lo ≤ i)
  | _ => false
def spFrom : Sp := fun vs H Q _ => ∃ lo v, vs = [.int lo, v] ∧ Kn H v ∧ Q (.bl (wfrom lo v)) H
theorem ok_is_whole_from {f : Addr} {fd : FuncData} (F : Fun K "is_whole_from" "is_whole_from" s_is_whole_from f fd) (Dw : Df P w K mg base 1 "is_whole" ["thing"] spWhole) : FnOk P w K mg base CX0 2 f fd ["low", "thing"] spFrom := by
  obtain ⟨fW, fdW, GW, gW, kW, bW⟩ := Dw
  refine F.ok sc_is_whole_from (fun vs H Q E h => ?_) (fun cdv A outer s H vs Q E hr h => ?_)
  · obtain ⟨lo, v, rfl, _⟩ := h
    rfl
  · obtain ⟨lo, v, rfl, hk, q⟩ := h
    refine ⟨_, (pss_one (ps_ret (pe_and (pe_call GW hr (by rfl) gW kW bW .nil pass0 (pa_cons (pv 1) pa_nil)) (pe_one (pe_cmpR op_ge (pv 1) (pv 0) (nomark _)))))), ?_⟩
    refine ⟨v, rfl, v, rfl, hk, _, rfl, ?_⟩
    cases v with
    | int i => exact ⟨.int i, rfl, .int lo, rfl, i, lo, rfl, rfl, q⟩
    | _ => exact q
/-- the parts of a tuple -/
def parts (H : Hp) : V → Option (List V)
  | .ref a => match H a with
    | some (.tup xs) => some xs
    | _ => none
  | _ => none
theorem parts_of' {H : Hp} {a : Addr} {xs : List V} (h : H a = some (.tup xs)) : parts H (.ref a) = some xs := by
  unfold parts
  simp only [h]
theorem parts_none {H : Hp} {v : V} (h : isT H v = false) : parts H v = none := by
  cases v with
  | ref a =>
    unfold isT at h
    unfold parts
    cases e : H a with
    | none => simp only [e]
    | some o =>
      cases o with
      | tup xs => simp only [e] at h; cases h
      | _ => simp only [e]
  | _ => rfl
def lenIs (H : Hp) (v : V) (n : Int) : Bool := match parts H v with
  | some xs => decide ((xs.length : Int) = n)
  | none => false
def spTupleOf : Sp := fun vs H Q _ => ∃ n v, vs = [.int n, v] ∧ Kn H v ∧ Q (.bl (lenIs H v n)) H
theorem dec_int (a b : Int) : decide (V.int a = V.int b) = decide (a = b) := by
  by_cases h : a = b
  · rw [decide_eq_true h, h, decide_eq_true rfl]
  · rw [decide_eq_false h, decide_eq_false (fun z => h (V.int.inj z))]
theorem ok_is_tuple_of {f : Addr} {fd : FuncData} (F : Fun K "is_tuple_of" "is_tuple_of" s_is_tuple_of f fd) (M : Free mg) : FnOk P w K mg base CX0 1 f fd ["length", "thing"] spTupleOf := by
  refine F.ok sc_is_tuple_of (fun vs H Q E h => ?_) (fun cdv A outer s H vs Q E hr h => ?_)
  · obtain ⟨n, v, rfl, _⟩ := h
    rfl
  · obtain ⟨n, v, rfl, hk, q⟩ := h
    refine ⟨_, (pss_one (ps_ret (pe_and (pe_callB call_isi (by rfl) M.isinstance (by decide +kernel) (pa_cons (pv 1) (pa_cons (pe_bltn (v := .ty "tuple") (by rfl) M.tuple (by decide +kernel) rfl) pa_nil))) (pe_one (pe_cmpR op_eq (pe_callB call_len_seq (by rfl) M.len PySem.boot_len (pa_cons (pv 1) pa_nil)) (pv 0) (nomark _)))))), ?_⟩
    obtain ⟨t1, h1, e1⟩ := kn_tup (K := K) hk
    refine ⟨v, rfl, v, _, t1, _, _, rfl, .ty "tuple", h1, e1, _, rfl, ?_⟩
    unfold lenIs at q
    cases hi : isT H v with
    | false =>
      rw [parts_none hi] at q
      exact q
    | true =>
      obtain ⟨a, xs, rfl, e⟩ := isT_at hi
      rw [parts_of' e] at q
      refine ⟨.ref a, rfl, a, xs, rfl, .inr (SqT.of e), .int n, rfl, rfl, ?_⟩
      rw [dec_int]
      exact q
/-! ### a def whose code object stands at c: its own table is at Pt -/
structure FunC (K : PySem.W.Frag) (x qual : Str) (st : Stmt) (f : Addr) (fd : FuncData) (c : Addr) : Prop where
  ex : ∃ (oc : Value) (od : Option Addr) (kV doc pm : Value) (an : Option Addr) (ct : Value) (osl : Array (Option Value)),
    fd = PySem.W.fnOf x qual (defArgs st) (defBody st) (defScope st) .none kV doc pm an (.ref c) ct ∧ K.lookup f = some ⟨oc, od, .func fd, osl⟩ ∧ PySem.W.codeIn K (.ref c) qual = true
  kp : PySem.W.keepIn K (.ref f) = true
theorem FunC.ok {x qual : Str} {st : Stmt} {f c : Addr} {fd : FuncData} {N ps : List Str} {k : Nat} {sp : Sp} (F : FunC K x qual st f fd c) (S : FnScope N ps (defScope st)) (len : ∀ vs H Q E, sp vs H Q E → vs.length = ps.length)
    (hbody : ∀ (A : Around) (outer : List Env) (s : Shared) (H : Hp) (vs : List V) (Q : VK) (E : XK), Room k (A.deeper (envOfC qual (defScope st) s.heap.objs.size f (.ref c))) → sp vs H Q E →
      ∃ t, PSs (cxOf CX0 P w K mg base N qual (defScope st) f (.ref c) A outer s H E).nox (defBody st) t ∧ t { nx := fun _ H' => Q .non H', rt := Q } (start N vs) H) : FnOk P w K mg base CX0 (k + 1) f fd ps sp := by
  obtain ⟨oc, od, kV, doc, pm, an, ct, osl, rfl, lk, hcd⟩ := F.ex
  refine fn_of lk hcd S len fun A outer s H vs Q E hr hsp => ?_
  obtain ⟨t, h, q⟩ := hbody A outer s H vs Q E hr hsp
  exact ⟨t, h.nox, q⟩
theorem FunC.fn {x qual : Str} {st : Stmt} {f c : Addr} {fd : FuncData} (F : FunC K x qual st f fd c) : Fun K x qual st f fd := by
  obtain ⟨oc, od, kV, doc, pm, an, ct, osl, rfl, lk, hcd⟩ := F.ex
  exact ⟨⟨oc, od, kV, doc, pm, an, _, ct, osl, rfl, lk, hcd⟩, F.kp⟩
/-- all but the table at Pt is kept -/
structure KT (Pt : Addr) (H H' : Hp) : Prop where
  tab : GxR.TabG H' Pt
  keep : ∀ b o, b ≠ Pt → H b = some o → H' b = some o
theorem KT.refl {Pt : Addr} {H : Hp} (h : GxR.TabG H Pt) : KT Pt H H := ⟨h, fun _ _ _ e => e⟩
theorem KT.trans {Pt : Addr} {H H1 H2 : Hp} (a : KT Pt H H1) (b : KT Pt H1 H2) : KT Pt H H2 := ⟨b.tab, fun x o h e => b.keep x o h (a.keep x o h e)⟩
theorem KT.same {Pt : Addr} {H H' : Hp} (h : GxR.TabG H Pt) (s : Same H H') : KT Pt H H' := ⟨by obtain ⟨ps, e, t⟩ := h; exact ⟨ps, s _ _ e, t⟩, fun b o _ e => s b o e⟩
theorem tabbed_kt {Pt : Addr} {H H' : Hp} (h : GxR.Tabbed Pt H H') : KT Pt H H' := ⟨h.1, fun b o hb e => by rw [h.2 b hb]; exact e⟩
theorem KT.lst {Pt a : Addr} {H H' : Hp} {xs : List V} (k : KT Pt H H') (t : GxR.TabG H Pt) (h : H a = some (.lst xs)) : H' a = some (.lst xs) := by
  obtain ⟨ps, e, _⟩ := t
  exact k.keep a _ (ne_of h e (by intro z; cases z)) h
theorem KT.tup {Pt a : Addr} {H H' : Hp} {xs : List V} (k : KT Pt H H') (t : GxR.TabG H Pt) (h : H a = some (.tup xs)) : H' a = some (.tup xs) := by
  obtain ⟨ps, e, _⟩ := t
  exact k.keep a _ (ne_of h e (by intro z; cases z)) h
theorem KT.dct {Pt a : Addr} {H H' : Hp} {xs : List (Key × V)} (k : KT Pt H H') (t : GxR.TabG H Pt) (h : H a = some (.dK xs)) : H' a = some (.dK xs) := by
  obtain ⟨ps, e, _⟩ := t
  exact k.keep a _ (ne_of h e (by intro z; cases z)) h
theorem KT.kn {Pt : Addr} {H H' : Hp} (k : KT Pt H H') (t : GxR.TabG H Pt) {v : V} (h : Kn H v) : Kn H' v := by
  cases v with
  | ref a =>
    rcases h with ⟨xs, h⟩ | ⟨xs, h⟩ | ⟨xs, h⟩
    · exact .inl ⟨xs, k.lst t h⟩
    · exact .inr (.inl ⟨xs, k.tup t h⟩)
    · exact .inr (.inr ⟨xs, k.dct t h⟩)
  | _ => exact h
theorem KT.tk {Pt : Addr} {H H' : Hp} (k : KT Pt H H') (t : GxR.TabG H Pt) : Tk H H' := fun _ _ e => k.tup t e
theorem KT.deck {Pt d c : Addr} {H H' : Hp} (k : KT Pt H H') (t : GxR.TabG H Pt) (D : Deck H d c) : Deck H' d c := by
  obtain ⟨cells, st, n, e1, e2, e3⟩ := D
  exact ⟨cells, st, n, k.lst t e1, k.lst t e2, e3⟩
/-- a thing: its kind is known, and those of its parts, where it is a tuple -/
structure Thg (H : Hp) (v : V) : Prop where
  kn : Kn H v
  sub : ∀ xs, parts H v = some xs → ∀ x ∈ xs, Kn H x
theorem parts_at {H : Hp} {v : V} {xs : List V} (h : parts H v = some xs) : ∃ a, v = .ref a ∧ H a = some (.tup xs) := by
  cases v with
  | ref a =>
    unfold parts at h
    cases e : H a with
    | none => simp only [e] at h; cases h
    | some o =>
      cases o with
      | tup ys => simp only [e] at h; cases h; exact ⟨a, rfl, e⟩
      | _ => simp only [e] at h; cases h
  | _ => cases h
theorem kt_parts {Pt : Addr} {H H' : Hp} (k : KT Pt H H') (t : GxR.TabG H Pt) {v : V} (h : Kn H v) : parts H' v = parts H v := by
  cases v with
  | ref a =>
    unfold parts
    rcases h with ⟨xs, h⟩ | ⟨xs, h⟩ | ⟨xs, h⟩
    · simp only [h, k.lst t h]
    · simp only [h, k.tup t h]
    · simp only [h, k.dct t h]
  | _ => rfl
theorem KT.thg {Pt : Addr} {H H' : Hp} (k : KT Pt H H') (t : GxR.TabG H Pt) {v : V} (h : Thg H v) : Thg H' v :=
  ⟨k.kn t h.kn, fun xs e x hx => k.kn t (h.sub xs (by rw [← kt_parts k t h.kn]; exact e) x hx)⟩
/-- what are weights of n ties -/
def wtsP (n : Nat) : Option (List V) → Bool
  | some xs => decide (xs.length = n) && xs.all (wfrom 1)
  | none => false
def wts (H : Hp) (v : V) (n : Nat) : Bool := decide (v = .non) || wtsP n (parts H v)
theorem kt_wts {Pt : Addr} {H H' : Hp} (k : KT Pt H H') (t : GxR.TabG H Pt) {v : V} {n : Nat} (h : Kn H v) : wts H' v n = wts H v n := by
  unfold wts
  rw [kt_parts k t h]
theorem wts_non {H : Hp} {v : V} {n : Nat} (h : v = .non) : wts H v n = true := by
  unfold wts
  rw [decide_eq_true h]
  rfl
theorem wts_tup {H : Hp} {v : V} {n : Nat} {xs : List V} (hp : parts H v = some xs) : wts H v n = (decide (xs.length = n) && xs.all (wfrom 1)) := by
  obtain ⟨a, rfl, _⟩ := parts_at hp
  unfold wts
  rw [hp, decide_eq_false (fun z => by cases z)]
  rfl
theorem wts_other {H : Hp} {v : V} {n : Nat} (h : v ≠ .non) (hp : parts H v = none) : wts H v n = false := by
  unfold wts
  rw [hp, decide_eq_false h]
  rfl
theorem lenIs_tup {H : Hp} {v : V} {n : Nat} {xs : List V} (hp : parts H v = some xs) : lenIs H v (n : Int) = decide (xs.length = n) := by
  unfold lenIs
  rw [hp]
  show decide ((xs.length : Int) = (n : Int)) = _
  by_cases e : xs.length = n
  · rw [decide_eq_true e, decide_eq_true (by omega)]
  · rw [decide_eq_false e, decide_eq_false (by omega)]
theorem lenIs_other {H : Hp} {v : V} {n : Int} (hp : parts H v = none) : lenIs H v n = false := by
  unfold lenIs
  rw [hp]
def spIsWeights (Pt : Addr) : Sp := fun vs H Q _ => ∃ wv n ts v, vs = [wv, v] ∧ WebAt H wv n ts ∧ Thg H v ∧ GxR.TabG H Pt ∧ ∀ H', KT Pt H H' → Q (.bl (wts H v ts.length)) H'
theorem web_len {H : Hp} {v : V} {n : Int} {ts : List Tie} (h : WebAt H v n ts) : ∃ a b vs, v = .ref a ∧ H a = some (.tup [.int n, .ref b]) ∧ H b = some (.tup vs) ∧ vs.length = ts.length := by
  obtain ⟨a, b, vs, e, h1, h2, h3⟩ := h
  exact ⟨a, b, vs, e, h1, h2, Paired.length h3⟩
theorem all_take {xs : List V} {p : V → Bool} {i : Nat} {x : V} (h : xs[i]? = some x) (ha : (xs.take i).all p = true) : (xs.take (i + 1)).all p = p x := by
  rw [List.take_add_one, h, List.all_append, ha]
  simp
theorem all_false {xs : List V} {p : V → Bool} {i : Nat} {x : V} (h : xs[i]? = some x) (hp : p x = false) : xs.all p = false := by
  rw [Bool.eq_false_iff]
  intro z
  rw [List.all_eq_true] at z
  rw [z x (List.mem_of_getElem? h)] at hp
  cases hp
theorem ok_is_weights {f c Pt : Addr} {fd : FuncData} (F : FunC K "is_weights" "is_weights" s_is_weights f fd c) (TB : GxR.TabB base mg c Pt) (M : Free mg) (hall : mg "all" = none) (Df1 : Df P w K mg base 2 "is_whole_from" ["low", "thing"] spFrom)
    (Dt : Df P w K mg base 1 "is_tuple_of" ["length", "thing"] spTupleOf) : FnOk P w K mg base CX0 4 f fd ["web", "thing"] (spIsWeights Pt) := by
  obtain ⟨fW, fdW, GW, gW, kW, bW⟩ := Df1
  obtain ⟨fT, fdT, GT, gT, kT, bT⟩ := Dt
  refine F.ok sc_is_weights (fun vs H Q E h => ?_) (fun A outer s H vs Q E hr h => ?_)
  · obtain ⟨wv, n, ts, v, rfl, _⟩ := h
    rfl
  · obtain ⟨wv, n, ts, v, rfl, hW, hT, hG, q⟩ := h
    refine ⟨_, (pss_cons (ps_if (pt_cmpR op_isN (pv 1) pe_non (nomark _))
        (pss_one (ps_ret pe_bl))
        pss_nil)
      (pss_cons (ps_if (pt_not (pt_val (pe_call GT (hr.mono (by decide)) (by rfl) gT kT bT .nil pass0 (pa_cons (pe_callB call_len_seq (by rfl) M.len PySem.boot_len (pa_cons (pe_ix ix_tup (pv 0) pe_int (fun _ _ => rfl)) pa_nil)) (pa_cons (pv 1) pa_nil)))))
        (pss_one (ps_ret pe_bl))
        pss_nil)
      (pss_one (ps_ret (pe_all (k := 2) (own := [("weight", 2)]) (g := gName 2) hr TB rfl rfl sc_is_weights.nd (by rfl) hall (pi_tup (pv 1)) (blkOk_by (N := N_is_weights) (sc := defScope s_is_weights) (own := [("weight", 2)]) (by decide +kernel)) ⟨rfl, by decide +kernel, by decide +kernel⟩ (show (".0" : Str) ∉ N_is_weights by decide +kernel)
        (fun _ _ _ _ _ _ _ => pg_name (i := 2) sc_is_weights.nd rfl (.inl rfl)) (fun _ _ _ _ _ _ _ hr' => pe_call GW hr' (by rfl) gW kW bW .nil pass0 (pa_cons pe_int (pa_cons (pv 2) pa_nil)))))))), ?_⟩
    obtain ⟨a, b, ws, rfl, h1, h2, hl⟩ := web_len hW
    refine ⟨v, rfl, rfl, _, rfl, ite2 (fun e => ?_) (fun e => ?_)⟩
    · rw [wts_non (of_decide_eq_true e)] at q
      exact q _ (KT.refl hG)
    have hv : v ≠ .non := fun z => e (decide_eq_true z)
    refine ⟨.ref a, rfl, a, _, 1, .ref b, rfl, rfl, SqT.of h1, rfl, b, ws, rfl, .inr (SqT.of h2), v, rfl, _, v, rfl, hT.kn, _, rfl, ?_⟩
    rw [hl]
    cases hp : parts H v with
    | none =>
      rw [lenIs_other hp]
      rw [wts_other hv hp] at q
      exact q _ (KT.refl hG)
    | some xs =>
      rw [lenIs_tup hp]
      rw [wts_tup hp] at q
      obtain ⟨av, rfl, hav⟩ := parts_at hp
      by_cases hlen : xs.length = ts.length
      · rw [decide_eq_true hlen] at q ⊢
        refine ⟨.ref av, rfl, av, rfl, ⟨_, SqT.of hav⟩, hG, fun i m H' => i + m = xs.length ∧ KT Pt H H' ∧ (xs.take i).all (wfrom 1) = true, fun H2 hH2 => ⟨xs.length, by omega, tabbed_kt hH2, rfl⟩, fun i m H' hw => ?_⟩
        obtain ⟨em, kt, ha⟩ := hw
        have hav' := kt.tup hG hav
        by_cases hi : i < xs.length
        · refine .inr ⟨⟨_, _, SqT.of hav', List.getElem?_eq_getElem hi⟩, fun H3 => KT Pt H H3 ∧ (xs.take (i + 1)).all (wfrom 1) = true, fun H3 n3 => ⟨m - 1, by omega, by omega, n3.1, n3.2⟩, fun x H3 hy => ?_⟩
          obtain ⟨rfl, fy⟩ := hy
          have ex : xs[i]? = some x := fy _ (SqT.of hav')
          refine ⟨rfl, x, rfl, 1, x, rfl, kt.kn hG (hT.sub xs hp x (List.mem_of_getElem? ex)), _, rfl, ?_⟩
          cases hb : wfrom 1 x with
          | true => exact ⟨kt, (all_take ex ha).trans hb⟩
          | false =>
            rw [all_false ex hb] at q
            exact q _ kt
        · refine .inl ⟨⟨_, SqT.of hav', by omega⟩, ?_⟩
          rw [List.take_of_length_le (by omega)] at ha
          rw [ha] at q
          exact q _ kt
      · rw [decide_eq_false hlen] at q ⊢
        exact q _ (KT.refl hG)
def spWeightOf : Sp := fun vs H Q _ => (∃ i, vs = [.non, .int i] ∧ Q (.int 1) H) ∨ ∃ a xs i v, vs = [.ref a, .int i] ∧ H a = some (.tup xs) ∧ atI xs i = some v ∧ Q v H
theorem ok_weight_of {f : Addr} {fd : FuncData} (F : Fun K "weight_of" "weight_of" s_weight_of f fd) : FnOk P w K mg base CX0 1 f fd ["weights", "tie"] spWeightOf := by
  refine F.ok sc_weight_of (fun vs H Q E h => ?_) (fun cdv A outer s H vs Q E hr h => ?_)
  · rcases h with ⟨i, rfl, _⟩ | ⟨a, xs, i, v, rfl, _⟩ <;> rfl
  · refine ⟨_, (pss_cons (ps_if (pt_cmpR op_isN (pv 0) pe_non (nomark _))
        (pss_one (ps_ret pe_int))
        pss_nil)
      (pss_one (ps_ret (pe_ix ix_tup (pv 0) (pv 1) (fun _ _ => rfl))))), ?_⟩
    rcases h with ⟨i, rfl, q⟩ | ⟨a, xs, i, v, rfl, h1, h2, q⟩
    · exact ⟨.non, rfl, rfl, _, rfl, q⟩
    · exact ⟨.ref a, rfl, rfl, _, rfl, .ref a, rfl, .int i, rfl, a, xs, i, v, rfl, rfl, SqT.of h1, h2, q⟩
/-! ### weights drawn -/
def spWeights : Sp := fun vs H Q _ => ∃ (d c : Addr) (k : Nat), vs = [.ref d, .int k] ∧ Deck H d c ∧ k ≤ 120 ∧
  ∀ (a : Addr) (ws : List Int) (H' : Hp), H' a = some (.tup (ws.map V.int)) → ws.length = k → (∀ x ∈ ws, 1 ≤ x) → Deck H' d c → Kp d c H H' → Q (.ref a) H'
theorem ok_l_weights {f : Addr} {fd : FuncData} (F : Fun K "_law_weights" "_law_weights" s_l_weights f fd) (M : Free mg) (Dd : Df P w K mg base 1 "_law_draw" ["_law_deck_here", "_law_many"] spDraw) : FnOk P w K mg base CX0 2 f fd ["_law_deck_here", "_law_many"] spWeights := by
  obtain ⟨fD, fdD, GD, gD, kD, bD⟩ := Dd
  refine F.ok sc_l_weights (fun vs H Q E h => ?_) (fun cdv A outer s H vs Q E hr h => ?_)
  · obtain ⟨d, c, k, rfl, _⟩ := h
    rfl
  · obtain ⟨d, c, k, rfl, hD, hk, q⟩ := h
    refine ⟨_, (Evl.pss_cut (ps_set (i := 2) sc_l_weights.nd rfl (.inr rfl) (pe_ix ix_list (pe_lst (pa_cons pe_int (pa_cons pe_int (pa_cons pe_int (pa_cons (pe_op op_pow pe_int pe_int) pa_nil))))) (pe_call GD hr (by rfl) gD kD bD .nil pass0 (pa_cons (pv 0) (pa_cons pe_int pa_nil))) (fun _ _ => rfl)))
      (pss_one (ps_ret (pe_callTy call_tuple_of (by rfl) M.tuple (by decide +kernel) (pa_cons (pe_lc (own := [("_law_k", 3)]) (g := gName 3) (tt := tYes) rfl sc_l_weights.nd (pi_range1 (by rfl) M.range (pa_cons (pv 1) pa_nil)) (blkOk_by (N := N_l_weights) (sc := defScope s_l_weights) (own := [("_law_k", 3)]) (by decide +kernel)) (fun _ _ _ _ _ => (pg_name (i := 3) sc_l_weights.nd rfl (.inl rfl))) (fun _ _ _ _ _ => pts_nil) (fun _ _ _ _ _ => (pe_ix (r := rIxL K) ix_list (pe_lst (pa_cons (pe_op op_add pe_int (pe_call GD hr (by rfl) gD kD bD .nil pass0 (pa_cons (pv 0) (pa_cons (pv 2) pa_nil)))) (pa_cons (pv 2) pa_nil))) (pe_callTy call_int1 (by rfl) M.int (by decide +kernel) (pa_cons (pe_cmpR op_eq (pe_call GD hr (by rfl) gD kD bD .nil pass0 (pa_cons (pv 0) (pa_cons pe_int pa_nil))) pe_int (nomark _)) pa_nil)) (fun _ _ => rfl)))) pa_nil))))), ?_⟩
    refine ⟨fun σ' H' => ∃ n : Int, σ' = [some (.ref d), some (.int k), some (.int n), none] ∧ 1 ≤ n ∧ n.natAbs < 2 ^ 120 ∧ Deck H' d c ∧ Kp d c H H', ?_, ?_⟩
    · refine ⟨10, 30, rfl, rfl, ⟨by decide, by decide, by decide⟩, by show 4 ≤ sizeLine; decide, fun p np => ⟨.ref d, rfl, d, c, 4, rfl, hD.new np, by decide, by decide, fun v1 H1 a1 b1 D1 K1 => ?_⟩⟩
      have hp := K1 p _ (hD.ned np).1 (hD.ned np).2 upd_same
      have kk := (Kp.new (o := .lst [.int 1, .int 2, .int 9, .int (10 ^ (30 : Int).toNat)]) np).trans K1
      have h4 : v1 = 0 ∨ v1 = 1 ∨ v1 = 2 ∨ v1 = 3 := by omega
      rcases h4 with e | e | e | e <;> subst e
      · exact ⟨p, _, 0, _, rfl, rfl, SqL.of hp, rfl, 1, rfl, by decide, by decide, D1, kk⟩
      · exact ⟨p, _, 1, _, rfl, rfl, SqL.of hp, rfl, 2, rfl, by decide, by decide, D1, kk⟩
      · exact ⟨p, _, 2, _, rfl, rfl, SqL.of hp, rfl, 9, rfl, by decide, by decide, D1, kk⟩
      · exact ⟨p, _, 3, _, rfl, rfl, SqL.of hp, rfl, 10 ^ 30, rfl, by decide, by decide, D1, kk⟩
    rintro σ' H0 ⟨n, rfl, hn, hn2, hD0, K0⟩
    refine ⟨.int k, rfl, k, rfl, by omega, by omega, fun L nL => ?_⟩
    have hLd := hD0.ned nL
    have nL0 : H L = none := by
      cases e : H L with
      | none => rfl
      | some o =>
        rw [K0 L o hLd.1 hLd.2 e] at nL
        cases nL
    rw [Int.toNat_natCast]
    refine lc_range (lo := 0) (n := k) (fun i H' => ∃ ws : List Int, H' L = some (.lst (ws.map V.int)) ∧ ws.length = i ∧ (∀ x ∈ ws, 1 ≤ x) ∧ Deck H' d c ∧ Kp d c H H') ?_ ?_ ?_
    · exact ⟨[], upd_same, rfl, fun x hx => by simp at hx, hD0.new nL, K0.trans (Kp.new nL)⟩
    · rintro i H1 hi ⟨ws, hL, hl, hw, D1, K1⟩
      refine ⟨rfl, .ref d, rfl, .int n, rfl, d, c, n, rfl, D1, by omega, hn2, fun v1 H2 a1 b1 D2 K2 => ⟨1, v1, rfl, rfl, .int n, rfl, by show 2 ≤ sizeLine; decide, fun p np => ?_⟩⟩
      refine ⟨.ref d, rfl, d, c, 8, rfl, D2.new np, by decide, by decide, fun v2 H3 a2 b2 D3 K3 => ⟨rfl, .inr ⟨_, rfl, p, _, _, _, rfl, rfl, SqL.of (K3 p _ (D2.ned np).1 (D2.ned np).2 upd_same), pick2 _ _ _, ?_⟩⟩⟩
      have hL3 : H3 L = some (.lst (ws.map V.int)) := K3 _ _ hLd.1 hLd.2 (same_new np _ _ (K2 _ _ hLd.1 hLd.2 hL))
      have kk := ((K1.trans K2).trans (Kp.new (o := .lst [.int (1 + v1), .int n]) np)).trans K3
      have fin : ∀ x : Int, 1 ≤ x → ∃ acc, H3 L = some (.lst acc) ∧ acc.length < sizeLine ∧ ∃ ws' : List Int, (upd H3 L (.lst (acc ++ [.int x]))) L = some (.lst (ws'.map V.int)) ∧ ws'.length = i + 1 ∧ (∀ x ∈ ws', 1 ≤ x) ∧ Deck (upd H3 L (.lst (acc ++ [.int x]))) d c ∧ Kp d c H (upd H3 L (.lst (acc ++ [.int x]))) := fun x hx => by
        refine ⟨_, hL3, by rw [List.length_map]; exact small1000 (by omega), ws ++ [x], by rw [upd_same, List.map_append]; rfl, by rw [List.length_append, hl]; rfl, fun y hy => ?_, D3.mut hLd.1 hLd.2, kk.mut nL0⟩
        rcases List.mem_append.mp hy with h | h
        · exact hw y h
        · rw [List.mem_singleton.mp h]
          exact hx
      by_cases hb : decide (V.int v2 = V.int 1) = true
      · rw [hb]
        exact fin n hn
      · rw [Bool.not_eq_true] at hb
        rw [hb]
        exact fin (1 + v1) (by omega)
    · rintro H1 ⟨ws, hL, hl, hw, D1, K1⟩
      refine ⟨L, _, rfl, .inl ⟨SqL.of hL, fun a na => ?_⟩⟩
      exact q a ws _ upd_same hl hw (D1.new na) (K1.trans (Kp.new na))
/-! ### the law's own look -/
def spAre : Sp := fun vs H Q _ => ∃ (v : V) (k : Nat), vs = [v, .int k] ∧ Thg H v ∧ (∀ xs, parts H v = some xs → xs.length ≤ 1000) ∧ ∀ H', Same H H' → Q (.bl (wts H v k)) H'
theorem filter_all {xs : List V} {p : V → Bool} : (xs.filter fun x => !p x).isEmpty = xs.all p := by
  induction xs with
  | nil => rfl
  | cons x r ih =>
    rw [List.filter_cons, List.all_cons]
    cases h : p x with
    | true =>
      rw [if_neg (by simp)]
      exact ih
    | false =>
      rw [if_pos (by simp)]
      rfl
theorem ok_l_are {f : Addr} {fd : FuncData} (F : Fun K "_law_are" "_law_are" s_l_are f fd) (M : Free mg) (Dw : Df P w K mg base 1 "_law_whole" ["_law_thing"] spWhole) : FnOk P w K mg base CX0 2 f fd ["_law_thing", "_law_many"] spAre := by
  obtain ⟨fW, fdW, GW, gW, kW, bW⟩ := Dw
  refine F.ok sc_l_are (fun vs H Q E h => ?_) (fun cdv A outer s H vs Q E hr h => ?_)
  · obtain ⟨v, k, rfl, _⟩ := h
    rfl
  · obtain ⟨v, k, rfl, hT, hle, q⟩ := h
    refine ⟨_, (pss_cons (ps_if (pt_cmpR op_isN (pv 0) pe_non (nomark _))
        (pss_one (ps_ret pe_bl))
        pss_nil)
      (pss_cons (ps_if (PW.pt (pw_or (pt_not (pt_val (pe_callB call_isi (by rfl) M.isinstance (by decide +kernel) (pa_cons (pv 0) (pa_cons (pe_bltn (v := .ty "tuple") (by rfl) M.tuple (by decide +kernel) rfl) pa_nil))))) (pw_or1 (pt_cmpR op_ne (pe_callB call_len_seq (by rfl) M.len PySem.boot_len (pa_cons (pv 0) pa_nil)) (pv 1) (nomark _)))))
        (pss_one (ps_ret pe_bl))
        pss_nil)
      (pss_one (ps_ret (pe_cmpR (op_eqE hr.units0) (pe_lc (own := [("_law_one", 2)]) (g := gName 2) rfl sc_l_are.nd (pi_tup (pv 0)) (blkOk_by (N := N_l_are) (sc := defScope s_l_are) (own := [("_law_one", 2)]) (by decide +kernel)) (fun _ _ _ _ _ => (pg_name (i := 2) sc_l_are.nd rfl (.inl rfl))) (fun _ _ _ _ _ => (pts_one (PW.pt (pw_or (pt_not (pt_val (pe_call GW hr (by rfl) gW kW bW .nil pass0 (pa_cons (pv 2) pa_nil)))) (pw_or1 (pt_cmpR op_lt (pv 2) pe_int (nomark _))))))) (fun _ _ _ _ _ => (pv 2))) (pe_lst pa_nil) (nomark _)))))), ?_⟩
    refine ⟨v, rfl, rfl, _, rfl, ite2 (fun e => ?_) (fun e => ?_)⟩
    · rw [wts_non (of_decide_eq_true e)] at q
      exact q _ (Same.refl H)
    have hv : v ≠ .non := fun z => e (decide_eq_true z)
    obtain ⟨t1, h1, e1⟩ := kn_tup (K := K) hT.kn
    refine ⟨v, rfl, v, _, t1, _, _, rfl, .ty "tuple", h1, e1, _, rfl, ?_⟩
    cases hi : isT H v with
    | false =>
      rw [wts_other hv (parts_none hi)] at q
      exact q _ (Same.refl H)
    | true =>
      obtain ⟨a, xs, rfl, ea⟩ := isT_at hi
      have hp := parts_of' ea
      have hx1000 := hle xs hp
      rw [wts_tup hp] at q
      refine ⟨.ref a, rfl, a, xs, rfl, .inr (SqT.of ea), .int k, rfl, rfl, _, rfl, ?_⟩
      rw [dec_int]
      by_cases hlen : xs.length = k
      · rw [decide_eq_true hlen] at q
        rw [decide_eq_true (show ((xs.length : Int) = (k : Int)) by omega)]
        refine ⟨.ref a, rfl, a, rfl, ⟨_, SqT.of ea⟩, fun L nL => ?_⟩
        refine lc_tup (K := K) (a := a) (xs := xs) (fun i H' => H' L = some (.lst ((xs.take i).filter fun x => !wfrom 1 x)) ∧ Same H H') ⟨upd_same, same_new nL⟩ (fun i H' _ h => SqT.of (h.2 _ _ ea)) ?_ ?_
        · rintro i x H1 hx ⟨hL, s1⟩
          have hk : Kn H1 x := by
            have hk0 := hT.sub xs hp x (List.mem_of_getElem? hx)
            cases x with
            | ref b =>
              rcases hk0 with ⟨ys, h⟩ | ⟨ys, h⟩ | ⟨ys, h⟩
              · exact .inl ⟨ys, s1 _ _ h⟩
              · exact .inr (.inl ⟨ys, s1 _ _ h⟩)
              · exact .inr (.inr ⟨ys, s1 _ _ h⟩)
            | _ => exact hk0
          have et : (xs.take (i + 1)).filter (fun x => !wfrom 1 x) = (xs.take i).filter (fun x => !wfrom 1 x) ++ (if wfrom 1 x then [] else [x]) := by
            rw [List.take_add_one, hx, List.filter_append]
            congr 1
            show List.filter _ [x] = _
            rw [List.filter_cons]
            cases wfrom 1 x <;> rfl
          have lb : ((xs.take i).filter fun x => !wfrom 1 x).length < sizeLine := Nat.lt_of_le_of_lt (List.length_filter_le _ _) (Nat.lt_of_le_of_lt (by rw [List.length_take]; exact Nat.min_le_right _ _) (small1000 hx1000))
          have bad : wfrom 1 x = false → (∃ acc, H1 L = some (.lst acc) ∧ acc.length < sizeLine ∧ (upd H1 L (.lst (acc ++ [x]))) L = some (.lst ((xs.take (i + 1)).filter fun x => !wfrom 1 x)) ∧ Same H (upd H1 L (.lst (acc ++ [x])))) := fun hb => by
            refine ⟨_, hL, lb, ?_, fun b o eb => ?_⟩
            · rw [upd_same, et, hb]
              rfl
            · rw [upd_ne (ne_of_none eb nL)]
              exact s1 b o eb
          refine ⟨rfl, x, rfl, x, rfl, hk, _, rfl, ?_⟩
          cases x with
          | int i' =>
            refine ⟨.int i', rfl, i', 1, rfl, rfl, _, rfl, ?_⟩
            by_cases hlt : i' < 1
            · rw [decide_eq_true hlt]
              exact ⟨.int i', rfl, bad (decide_eq_false (by omega))⟩
            · rw [decide_eq_false hlt]
              refine ⟨?_, s1⟩
              rw [et, show wfrom 1 (.int i') = true from decide_eq_true (by omega), hL]
              simp
          | non => exact ⟨_, rfl, bad rfl⟩
          | bl b => exact ⟨_, rfl, bad rfl⟩
          | str z => exact ⟨_, rfl, bad rfl⟩
          | ref b => exact ⟨_, rfl, bad rfl⟩
          | byt b => exact ⟨_, rfl, bad rfl⟩
          | flt b => exact ⟨_, rfl, bad rfl⟩
          | ty b => exact ⟨_, rfl, bad rfl⟩
        · rintro H1 ⟨hL, s1⟩
          rw [List.take_length] at hL
          refine ⟨Nat.zero_le _, fun p np => ⟨L, p, _, rfl, rfl, SqL.of (same_new np _ _ hL), SqL.of upd_same, ?_⟩⟩
          rw [filter_all]
          exact q _ (s1.trans (same_new np))
      · rw [decide_eq_false hlen] at q
        rw [decide_eq_false (show ¬ ((xs.length : Int) = (k : Int)) by omega)]
        exact q _ (Same.refl H)
/-! ### things made of weights -/
/-- a thing of known kind that is a tuple, or new since H -/
def KnN (H H' : Hp) (x : V) : Prop := Kn H' x ∧ ∀ r, x = .ref r → (∃ xs, H' r = some (.tup xs)) ∨ H r = none
structure ThgN (H H' : Hp) (v : V) : Prop where
  kn : KnN H H' v
  sub : ∀ xs, parts H' v = some xs → xs.length ≤ 1000 ∧ ∀ x ∈ xs, KnN H H' x
theorem kn_same {H H' : Hp} (s : Same H H') {x : V} (h : Kn H x) : Kn H' x := by
  cases x with
  | ref a =>
    rcases h with ⟨xs, h⟩ | ⟨xs, h⟩ | ⟨xs, h⟩
    · exact .inl ⟨xs, s _ _ h⟩
    · exact .inr (.inl ⟨xs, s _ _ h⟩)
    · exact .inr (.inr ⟨xs, s _ _ h⟩)
  | _ => exact h
theorem parts_same {H H' : Hp} (s : Same H H') {x : V} (h : Kn H x) : parts H' x = parts H x := by
  cases x with
  | ref a =>
    unfold parts
    rcases h with ⟨xs, h⟩ | ⟨xs, h⟩ | ⟨xs, h⟩
    · simp only [h, s _ _ h]
    · simp only [h, s _ _ h]
    · simp only [h, s _ _ h]
  | _ => rfl
theorem KnN.same {H H1 H2 : Hp} {x : V} (h : KnN H H1 x) (s : Same H1 H2) : KnN H H2 x :=
  ⟨kn_same s h.1, fun r e => (h.2 r e).elim (fun ⟨xs, z⟩ => .inl ⟨xs, s _ _ z⟩) .inr⟩
theorem ThgN.same {H H1 H2 : Hp} {v : V} (h : ThgN H H1 v) (s : Same H1 H2) : ThgN H H2 v :=
  ⟨h.kn.same s, fun xs e => by
    rw [parts_same s h.kn.1] at e
    exact ⟨(h.sub xs e).1, fun x hx => ((h.sub xs e).2 x hx).same s⟩⟩
/-- what a keep by Kp keeps of such a thing: it is none of the deck's lists -/
theorem kp_at {d c : Addr} {H H1 H2 : Hp} (D : Deck H d c) (D1 : Deck H1 d c) (k : Kp d c H1 H2) {r : Addr} {o : HO} (h : (∃ xs, H1 r = some (.tup xs)) ∨ H r = none) (e : H1 r = some o) : H2 r = some o := by
  rcases h with ⟨xs, z⟩ | z
  · rw [z] at e
    cases e
    exact k.tk D1 _ _ z
  · exact k r o (D.ned z).1 (D.ned z).2 e
theorem KnN.kp {d c : Addr} {H H1 H2 : Hp} {x : V} (h : KnN H H1 x) (D : Deck H d c) (D1 : Deck H1 d c) (k : Kp d c H1 H2) : KnN H H2 x := by
  refine ⟨?_, fun r e => (h.2 r e).elim (fun ⟨xs, z⟩ => .inl ⟨xs, k.tk D1 _ _ z⟩) .inr⟩
  have h0 := h.1
  cases x with
  | ref a =>
    rcases h0 with ⟨xs, z⟩ | ⟨xs, z⟩ | ⟨xs, z⟩
    · exact .inl ⟨xs, kp_at D D1 k (h.2 a rfl) z⟩
    · exact .inr (.inl ⟨xs, kp_at D D1 k (h.2 a rfl) z⟩)
    · exact .inr (.inr ⟨xs, kp_at D D1 k (h.2 a rfl) z⟩)
  | _ => exact h0
theorem KnN.parts_kp {d c : Addr} {H H1 H2 : Hp} {x : V} (h : KnN H H1 x) (D : Deck H d c) (D1 : Deck H1 d c) (k : Kp d c H1 H2) : parts H2 x = parts H1 x := by
  have h0 := h.1
  cases x with
  | ref a =>
    unfold parts
    rcases h0 with ⟨xs, z⟩ | ⟨xs, z⟩ | ⟨xs, z⟩
    · simp only [z, kp_at D D1 k (h.2 a rfl) z]
    · simp only [z, kp_at D D1 k (h.2 a rfl) z]
    · simp only [z, kp_at D D1 k (h.2 a rfl) z]
  | _ => rfl
theorem ThgN.kp {d c : Addr} {H H1 H2 : Hp} {v : V} (h : ThgN H H1 v) (D : Deck H d c) (D1 : Deck H1 d c) (k : Kp d c H1 H2) : ThgN H H2 v :=
  ⟨h.kn.kp D D1 k, fun xs e => by
    rw [h.kn.parts_kp D D1 k] at e
    exact ⟨(h.sub xs e).1, fun x hx => ((h.sub xs e).2 x hx).kp D D1 k⟩⟩
theorem Kp.free {d c p : Addr} {H H' : Hp} (k : Kp d c H H') (D : Deck H' d c) (h : H' p = none) : H p = none := by
  cases e : H p with
  | none => rfl
  | some o =>
    rw [k p o (D.ned h).1 (D.ned h).2 e] at h
    cases h
theorem knN_int {H H' : Hp} {i : Int} : KnN H H' (.int i) := ⟨trivial, fun r e => by cases e⟩
theorem knN_bl {H H' : Hp} {i : Bool} : KnN H H' (.bl i) := ⟨trivial, fun r e => by cases e⟩
theorem knN_str {H H' : Hp} {i : Str} : KnN H H' (.str i) := ⟨trivial, fun r e => by cases e⟩
theorem knN_non {H H' : Hp} : KnN H H' .non := ⟨trivial, fun r e => by cases e⟩
theorem knN_tup {H H' : Hp} {a : Addr} {xs : List V} (h : H' a = some (.tup xs)) : KnN H H' (.ref a) := ⟨.inr (.inl ⟨xs, h⟩), fun r e => by cases e; exact .inl ⟨xs, h⟩⟩
theorem knN_lst {H H' : Hp} {a : Addr} {xs : List V} (h : H' a = some (.lst xs)) (n : H a = none) : KnN H H' (.ref a) := ⟨.inl ⟨xs, h⟩, fun r e => by cases e; exact .inr n⟩
theorem knN_dct {H H' : Hp} {a : Addr} {xs : List (Key × V)} (h : H' a = some (.dK xs)) (n : H a = none) : KnN H H' (.ref a) := ⟨.inr (.inr ⟨xs, h⟩), fun r e => by cases e; exact .inr n⟩
theorem thgN_of {H H' : Hp} {v : V} (h : KnN H H' v) (hp : parts H' v = none) : ThgN H H' v := ⟨h, fun xs e => by rw [hp] at e; cases e⟩
theorem thgN_tup {H H' : Hp} {a : Addr} {xs : List V} (h : H' a = some (.tup xs)) (hl : xs.length ≤ 1000) (hx : ∀ x ∈ xs, KnN H H' x) : ThgN H H' (.ref a) := ⟨knN_tup h, fun ys e => by
  rw [parts_of' h] at e
  cases e
  exact ⟨hl, hx⟩⟩
theorem parts_lst {H : Hp} {a : Addr} {xs : List V} (h : H a = some (.lst xs)) : parts H (.ref a) = none := by
  unfold parts
  simp only [h]
theorem parts_dct {H : Hp} {a : Addr} {xs : List (Key × V)} (h : H a = some (.dK xs)) : parts H (.ref a) = none := by
  unfold parts
  simp only [h]
theorem mem_cutV {xs : List V} {lo hi : Option Int} {x : V} (h : x ∈ cutV xs lo hi) : x ∈ xs := List.mem_of_mem_drop (List.mem_of_mem_take h)
def spOtherwise : Sp := fun vs H Q _ => ∃ (d c a : Addr) (ws : List Int), vs = [.ref d, .ref a] ∧ Deck H d c ∧ H a = some (.tup (ws.map V.int)) ∧ ws.length ≤ 120 ∧
  ∀ v H', ThgN H H' v → Deck H' d c → Kp d c H H' → Q v H'
theorem ok_l_otherwise {f : Addr} {fd : FuncData} (F : Fun K "_law_otherwise" "_law_otherwise" s_l_otherwise f fd) (M : Free mg) (Dd : Df P w K mg base 1 "_law_draw" ["_law_deck_here", "_law_many"] spDraw) : FnOk P w K mg base CX0 2 f fd ["_law_deck_here", "_law_weights_here"] spOtherwise := by
  obtain ⟨fD, fdD, GD, gD, kD, bD⟩ := Dd
  refine F.ok sc_l_otherwise (fun vs H Q E h => ?_) (fun cdv A outer s H vs Q E hr h => ?_)
  · obtain ⟨d, c, a, ws, rfl, _⟩ := h
    rfl
  · obtain ⟨d, c, a, ws, rfl, hD, ha, hl, q⟩ := h
    refine ⟨_, (pss_cons (ps_set (i := 2) sc_l_otherwise.nd rfl (.inl rfl) (pe_call GD hr (by rfl) gD kD bD .nil pass0 (pa_cons (pv 0) (pa_cons (pe_op op_add (pe_callB call_len_seq (by rfl) M.len PySem.boot_len (pa_cons (pv 1) pa_nil)) pe_int) pa_nil))))
      (Evl.pss_cut (ps_set (i := 3) sc_l_otherwise.nd rfl (.inl rfl) (pe_lst (pa_cons pe_int (pa_cons (pe_un un_neg pe_int) (pa_cons pe_bl (pa_cons pe_bl (pa_cons pe_str (pa_cons pe_non (pa_cons (pe_tup (pa_cons pe_int pa_nil)) (pa_cons (pe_lst (pa_cons pe_int pa_nil)) (pa_cons pe_dnewK (pa_cons (pe_op op_pow pe_int pe_int) (pa_cons pe_int (pa_cons (pe_un un_neg (pe_op op_pow pe_int pe_int)) (pa_cons pe_str (pa_cons pe_int pa_nil))))))))))))))))
      (pss_cons (ps_set (i := 4) sc_l_otherwise.nd rfl (.inl rfl) (pe_ix ix_list (pv 3) (pe_call GD hr (by rfl) gD kD bD .nil pass0 (pa_cons (pv 0) (pa_cons pe_int pa_nil))) (fun _ _ => rfl)))
      (Evl.pss_cut (ps_set (i := 5) sc_l_otherwise.nd rfl (.inl rfl) (pe_call GD hr (by rfl) gD kD bD .nil pass0 (pa_cons (pv 0) (pa_cons pe_int pa_nil))))
      (Evl.pss_cut (ps_if (PW.pt (pw_and (pt_cmpR op_lt (pv 5) pe_int (nomark _)) (pw_and1 (pt_cmpR op_lt (pv 2) (pe_callB call_len_seq (by rfl) M.len PySem.boot_len (pa_cons (pv 1) pa_nil)) (nomark _)))))
        (pss_one (ps_ret (pe_op op_catU (pe_op op_catU (pe_slice sl_tupU (pv 1) po_none (po_some (pv 2))) (pe_tup (pa_cons (pv 4) pa_nil))) (pe_slice sl_tupU (pv 1) (po_some (pe_op op_add (pv 2) pe_int)) po_none))))
        pss_nil)
      (Evl.pss_cut (ps_if (pt_cmpR op_eq (pv 5) pe_int (nomark _))
        (pss_one (ps_ret (pe_op op_catU (pe_op op_catU (pe_slice sl_tupU (pv 1) po_none (po_some (pv 2))) (pe_tup (pa_cons (pv 4) pa_nil))) (pe_slice sl_tupU (pv 1) (po_some (pv 2)) po_none))))
        pss_nil)
      (Evl.pss_cut (ps_if (PW.pt (pw_and (pt_cmpR op_eq (pv 5) pe_int (nomark _)) (pw_and1 (pt_cmpR op_lt (pv 2) (pe_callB call_len_seq (by rfl) M.len PySem.boot_len (pa_cons (pv 1) pa_nil)) (nomark _)))))
        (pss_one (ps_ret (pe_op op_catU (pe_slice sl_tupU (pv 1) po_none (po_some (pv 2))) (pe_slice sl_tupU (pv 1) (po_some (pe_op op_add (pv 2) pe_int)) po_none))))
        pss_nil)
      (pss_one (ps_ret (pe_ix ix_list (pe_lst (pa_cons (pe_callTy call_list_of (by rfl) M.list (by decide +kernel) (pa_cons (pv 1) pa_nil)) (pa_cons (pe_op op_catU (pv 1) (pe_tup (pa_cons pe_int pa_nil))) (pa_cons (pe_tup (pa_cons (pv 1) pa_nil)) (pa_cons pe_int (pa_cons pe_str (pa_cons pe_dnewK (pa_cons (pe_lst pa_nil) (pa_cons pe_bl (pa_cons (pe_tup pa_nil) (pa_cons (pv 1) pa_nil))))))))))) (pe_call GD hr (by rfl) gD kD bD .nil pass0 (pa_cons (pv 0) (pa_cons pe_int pa_nil))) (fun _ _ => rfl))))))))))), ?_⟩
    -- at
    refine ⟨.ref d, rfl, .ref a, rfl, a, _, rfl, .inr (SqT.of ha), _, 1, rfl, rfl, d, c, _, rfl, hD, by rw [List.length_map]; omega, by rw [List.length_map]; omega, fun at1 H1 a1 b1 D1 K1 => ?_⟩
    -- some
    refine ⟨fun σ' H' => ∃ (L : Addr) (xs : List V), σ' = [some (.ref d), some (.ref a), some (.int at1), some (.ref L), none, none] ∧ H' L = some (.lst xs) ∧ xs.length = 14 ∧ (∀ x ∈ xs, KnN H H' x) ∧ L ≠ d ∧ L ≠ c ∧ Deck H' d c ∧ Kp d c H H', ?_, ?_⟩
    · refine ⟨1, rfl, by show 1 ≤ sizeLine; decide, fun p1 n1 => ⟨by show 1 ≤ sizeLine; decide, fun p2 n2 p3 n3 => ⟨10, 59, rfl, rfl, ⟨by decide, by decide, by decide⟩, 10, 30, rfl, rfl, ⟨by decide, by decide, by decide⟩, _, rfl, by show 14 ≤ sizeLine; decide, fun L nL => ?_⟩⟩⟩
      have D2 := D1.new (o := .tup [.int 1]) n1
      have k2 := K1.trans (Kp.new (o := .tup [.int 1]) n1)
      have D3 := D2.new (o := .lst [.int 1]) n2
      have k3 := k2.trans (Kp.new (o := .lst [.int 1]) n2)
      have D4 := D3.new (o := .dK []) n3
      have k4 := k3.trans (Kp.new (o := .dK []) n3)
      have s4 := same_new (o := .lst [.int 1]) n2
      have s5 := same_new (o := .dK []) n3
      have s6 := same_new (o := .lst [.int 0, .int (-1), .bl true, .bl false, .str "1", .non, .ref p1, .ref p2, .ref p3, .int (10 ^ (59 : Int).toNat), .int 1, .int (-(10 ^ (30 : Int).toNat)), .str "", .int 2]) nL
      refine ⟨L, _, rfl, upd_same, rfl, fun x hx => ?_, (D4.ned nL).1, (D4.ned nL).2, D4.new nL, k4.trans (Kp.new nL)⟩
      have t1 : KnN H _ (.ref p1) := knN_tup (s6 _ _ (s5 _ _ (s4 _ _ upd_same)))
      have t2 : KnN H _ (.ref p2) := knN_lst (s6 _ _ (s5 _ _ upd_same)) (k2.free D2 n2)
      have t3 : KnN H _ (.ref p3) := knN_dct (s6 _ _ upd_same) (k3.free D3 n3)
      simp only [List.mem_cons, List.not_mem_nil, or_false] at hx
      rcases hx with e | e | e | e | e | e | e | e | e | e | e | e | e | e <;> subst e
      · exact knN_int
      · exact knN_int
      · exact knN_bl
      · exact knN_bl
      · exact knN_str
      · exact knN_non
      · exact t1
      · exact t2
      · exact t3
      · exact knN_int
      · exact knN_int
      · exact knN_int
      · exact knN_str
      · exact knN_int
    rintro σ' H2 ⟨L, xs, rfl, hL, hx14, hxs, hLd, hLc, D2, K2⟩
    -- odd
    refine ⟨.ref L, rfl, .ref d, rfl, d, c, 14, rfl, D2, by decide, by decide, fun v3 H3 a3 b3 D3 K3 => ?_⟩
    obtain ⟨odd, eo1, eo2⟩ := getI (xs := xs) a3 (by omega)
    refine ⟨L, xs, v3, odd, rfl, rfl, SqL.of (K3 _ _ hLd hLc hL), eo1, ?_⟩
    have hodd : KnN H H3 odd := (hxs odd (List.mem_of_getElem? eo2)).kp hD D2 K3
    have k3 := K2.trans K3
    -- way
    refine ⟨fun σ' H' => ∃ (way : Int), σ' = [some (.ref d), some (.ref a), some (.int at1), some (.ref L), some odd, some (.int way)] ∧ KnN H H' odd ∧ Deck H' d c ∧ Kp d c H H', ?_, ?_⟩
    · exact ⟨.ref d, rfl, d, c, 6, rfl, D3, by decide, by decide, fun v4 H4 a4 b4 D4 K4 => ⟨v4, rfl, hodd.kp hD D3 K4, D4, k3.trans K4⟩⟩
    rintro σ' H4 ⟨way, rfl, hodd4, D4, K4⟩
    have ha4 : H4 a = some (.tup (ws.map V.int)) := K4.tk hD _ _ ha
    have lw : (ws.map V.int).length ≤ 120 := by rw [List.length_map]; exact hl
    have kw : ∀ {H' : Hp} {x : V}, x ∈ ws.map V.int → KnN H H' x := fun {H' x} hx => by
      obtain ⟨i, _, e⟩ := List.mem_map.mp hx
      subst e
      exact knN_int
    -- tuples put together
    have three : ∀ (lo hi : Option Int) (H5 : Hp), Same H4 H5 → ∀ r, H5 r = some (.tup (cutV (ws.map V.int) none hi ++ [odd] ++ cutV (ws.map V.int) lo none)) → Q (.ref r) H5 := fun lo hi H5 s5 r er => by
      refine q _ _ (thgN_tup er ?_ fun x hx => ?_) (D4.same s5) (K4.trans (Same.kp s5))
      · rw [List.length_append, List.length_append]
        have z1 := cutV_length (ws.map V.int) none hi
        have z2 := cutV_length (ws.map V.int) lo none
        show _ + 1 + _ ≤ 1000
        omega
      · rcases List.mem_append.mp hx with h | h
        · rcases List.mem_append.mp h with h | h
          · exact kw (mem_cutV h)
          · rw [List.mem_singleton.mp h]
            exact hodd4.same s5
        · exact kw (mem_cutV h)
    have back : [some (V.ref d), some (.ref a), some (.int at1), some (.ref L), some odd, some (.int way)] = [some (V.ref d), some (.ref a), some (.int at1), some (.ref L), some odd, some (.int way)] ∧ H4 = H4 := ⟨rfl, rfl⟩
    -- one put otherwise
    refine ⟨fun σ' H' => σ' = [some (.ref d), some (.ref a), some (.int at1), some (.ref L), some odd, some (.int way)] ∧ H4 = H', ?_, ?_⟩
    · refine ⟨.int way, rfl, way, 3, rfl, rfl, _, rfl, ?_⟩
      by_cases h1 : way < 3
      · rw [decide_eq_true h1]
        refine ⟨.int at1, rfl, .ref a, rfl, a, _, rfl, .inr (SqT.of ha4), at1, _, rfl, rfl, _, rfl, ite2 (fun _ => ?_) (fun _ => back)⟩
        refine ⟨.ref a, rfl, .int at1, rfl, at1, rfl, a, _, rfl, ha4, fun r1 H5 s5 e5 => ⟨odd, rfl, by show 1 ≤ sizeLine; decide, fun p np => ?_⟩⟩
        refine ⟨r1, p, _, _, rfl, rfl, same_new np _ _ e5, upd_same, ?_, fun r2 H6 s6 e6 => ?_⟩
        · have z1 := cutV_length (ws.map V.int) none (some at1)
          show _ + 1 ≤ 100000
          omega
        have s46 := (s5.trans (same_new np)).trans s6
        refine ⟨.ref a, rfl, .int at1, rfl, at1, 1, rfl, rfl, _, rfl, a, _, rfl, s46 _ _ ha4, fun r3 H7 s7 e7 => ⟨r2, r3, _, _, rfl, rfl, s7 _ _ e6, e7, ?_, fun r4 H8 s8 e8 => three _ _ H8 ((s46.trans s7).trans s8) r4 e8⟩⟩
        have z1 := cutV_length (ws.map V.int) none (some at1)
        have z2 := cutV_length (ws.map V.int) (some (at1 + 1)) none
        rw [List.length_append]
        show _ + 1 + _ ≤ 100000
        omega
      · rw [decide_eq_false h1]
        exact back
    rintro σ' H' ⟨rfl, rfl⟩
    -- one put in
    refine ⟨fun σ' H' => σ' = [some (.ref d), some (.ref a), some (.int at1), some (.ref L), some odd, some (.int way)] ∧ H4 = H', ?_, ?_⟩
    · refine ⟨.int way, rfl, rfl, _, rfl, ite2 (fun _ => ?_) (fun _ => back)⟩
      refine ⟨.ref a, rfl, .int at1, rfl, at1, rfl, a, _, rfl, ha4, fun r1 H5 s5 e5 => ⟨odd, rfl, by show 1 ≤ sizeLine; decide, fun p np => ?_⟩⟩
      refine ⟨r1, p, _, _, rfl, rfl, same_new np _ _ e5, upd_same, ?_, fun r2 H6 s6 e6 => ?_⟩
      · have z1 := cutV_length (ws.map V.int) none (some at1)
        show _ + 1 ≤ 100000
        omega
      have s46 := (s5.trans (same_new np)).trans s6
      refine ⟨.ref a, rfl, .int at1, rfl, at1, rfl, a, _, rfl, s46 _ _ ha4, fun r3 H7 s7 e7 => ⟨r2, r3, _, _, rfl, rfl, s7 _ _ e6, e7, ?_, fun r4 H8 s8 e8 => three _ _ H8 ((s46.trans s7).trans s8) r4 e8⟩⟩
      have z1 := cutV_length (ws.map V.int) none (some at1)
      have z2 := cutV_length (ws.map V.int) (some at1) none
      rw [List.length_append]
      show _ + 1 + _ ≤ 100000
      omega
    rintro σ' H' ⟨rfl, rfl⟩
    -- one left out
    refine ⟨fun σ' H' => σ' = [some (.ref d), some (.ref a), some (.int at1), some (.ref L), some odd, some (.int way)] ∧ H4 = H', ?_, ?_⟩
    · refine ⟨.int way, rfl, rfl, _, rfl, ?_⟩
      rw [dec_int]
      by_cases h1 : way = 4
      · rw [decide_eq_true h1]
        refine ⟨.int at1, rfl, .ref a, rfl, a, _, rfl, .inr (SqT.of ha4), at1, _, rfl, rfl, _, rfl, ite2 (fun _ => ?_) (fun _ => back)⟩
        refine ⟨.ref a, rfl, .int at1, rfl, at1, rfl, a, _, rfl, ha4, fun r1 H5 s5 e5 => ⟨.ref a, rfl, .int at1, rfl, at1, 1, rfl, rfl, _, rfl, a, _, rfl, s5 _ _ ha4, fun r3 H7 s7 e7 => ⟨r1, r3, _, _, rfl, rfl, s7 _ _ e5, e7, ?_, fun r4 H8 s8 e8 => ?_⟩⟩⟩
        · have z1 := cutV_length (ws.map V.int) none (some at1)
          have z2 := cutV_length (ws.map V.int) (some (at1 + 1)) none
          omega
        · have s48 := (s5.trans s7).trans s8
          refine q _ _ (thgN_tup e8 ?_ fun x hx => ?_) (D4.same s48) (K4.trans (Same.kp s48))
          · rw [List.length_append]
            have z1 := cutV_length (ws.map V.int) none (some at1)
            have z2 := cutV_length (ws.map V.int) (some (at1 + 1)) none
            show _ + _ ≤ 1000
            omega
          · rcases List.mem_append.mp hx with h | h
            · exact kw (mem_cutV h)
            · exact kw (mem_cutV h)
      · rw [decide_eq_false h1]
        exact back
    rintro σ' H' ⟨rfl, rfl⟩
    -- things of other kinds
    refine ⟨.ref a, rfl, a, _, rfl, .inr (SqT.of ha4), fun p0 n0 => ?_⟩
    have s0 := same_new (o := .lst (ws.map V.int)) n0
    have f0 : H p0 = none := K4.free D4 n0
    have e0 : (upd H4 p0 (.lst (ws.map V.int))) p0 = some (.lst (ws.map V.int)) := upd_same
    generalize upd H4 p0 (.lst (ws.map V.int)) = H5 at s0 e0
    refine ⟨.ref a, rfl, by show 1 ≤ sizeLine; decide, fun p1 n1 => ?_⟩
    have s1 := s0.trans (same_new (o := .tup [.int 1]) n1)
    refine ⟨a, p1, _, _, rfl, rfl, s1 _ _ ha4, upd_same, by show _ + 1 ≤ 100000; omega, fun r1 H6 s6 e6 => ?_⟩
    have s2 := s1.trans s6
    have e0 := s6 _ _ (same_new (o := .tup [.int 1]) n1 _ _ e0)
    refine ⟨.ref a, rfl, by show 1 ≤ sizeLine; decide, fun p2 n2 => ?_⟩
    have e0 := same_new (o := .tup [.ref a]) n2 _ _ e0
    have e6 := same_new (o := .tup [.ref a]) n2 _ _ e6
    have s3 := s2.trans (same_new (o := .tup [.ref a]) n2)
    have e2 : (upd H6 p2 (.tup [.ref a])) p2 = some (.tup [.ref a]) := upd_same
    generalize upd H6 p2 (.tup [.ref a]) = H7 at e0 e6 s3 e2
    intro p5 n5
    have f5 : H p5 = none := (K4.trans (Same.kp s3)).free (D4.same s3) n5
    have e0 := same_new (o := .dK []) n5 _ _ e0
    have e6 := same_new (o := .dK []) n5 _ _ e6
    have e2 := same_new (o := .dK []) n5 _ _ e2
    have s4 := s3.trans (same_new (o := .dK []) n5)
    have e5 : (upd H7 p5 (.dK [])) p5 = some (.dK []) := upd_same
    generalize upd H7 p5 (.dK []) = H8 at e0 e6 e2 s4 e5
    refine ⟨Nat.zero_le _, fun p6 n6 => ?_⟩
    have f6 : H p6 = none := (K4.trans (Same.kp s4)).free (D4.same s4) n6
    have e0 := same_new (o := .lst []) n6 _ _ e0
    have e6' := same_new (o := .lst []) n6 _ _ e6
    have e2 := same_new (o := .lst []) n6 _ _ e2
    have e5 := same_new (o := .lst []) n6 _ _ e5
    have s5 := s4.trans (same_new (o := .lst []) n6)
    have e7 : (upd H8 p6 (.lst [])) p6 = some (.lst []) := upd_same
    generalize upd H8 p6 (.lst []) = H9 at e0 e6' e2 s5 e5 e7
    refine ⟨Nat.zero_le _, fun p8 n8 => ?_⟩
    have e0 := same_new (o := .tup []) n8 _ _ e0
    have e6' := same_new (o := .tup []) n8 _ _ e6'
    have e2 := same_new (o := .tup []) n8 _ _ e2
    have e5 := same_new (o := .tup []) n8 _ _ e5
    have e7 := same_new (o := .tup []) n8 _ _ e7
    have s6' := s5.trans (same_new (o := .tup []) n8)
    have e8 : (upd H9 p8 (.tup [])) p8 = some (.tup []) := upd_same
    generalize upd H9 p8 (.tup []) = H10 at e0 e6' e2 s6' e5 e7 e8
    refine ⟨.ref a, rfl, by show 10 ≤ sizeLine; decide, fun L2 nL2 => ?_⟩
    generalize hxs2 : [V.ref p0, .ref r1, .ref p2, .int 5, .str "", .ref p5, .ref p6, .bl true, .ref p8, .ref a] = ys
    have hy10 : ys.length = 10 := by rw [← hxs2]; rfl
    have all : ∀ y ∈ ys, ThgN H H10 y := fun y hy => by
      rw [← hxs2] at hy
      simp only [List.mem_cons, List.not_mem_nil, or_false] at hy
      rcases hy with e | e | e | e | e | e | e | e | e | e <;> subst e
      · exact thgN_of (knN_lst e0 f0) (parts_lst e0)
      · refine thgN_tup e6' (by rw [List.length_append]; show _ + 1 ≤ 1000; omega) fun x hx => ?_
        rcases List.mem_append.mp hx with h | h
        · exact kw h
        · rw [List.mem_singleton.mp h]
          exact knN_int
      · refine thgN_tup e2 (by show 1 ≤ 1000; decide) fun x hx => ?_
        rw [List.mem_singleton.mp hx]
        exact knN_tup (s6' _ _ ha4)
      · exact thgN_of knN_int rfl
      · exact thgN_of knN_str rfl
      · exact thgN_of (knN_dct e5 f5) (parts_dct e5)
      · exact thgN_of (knN_lst e7 f6) (parts_lst e7)
      · exact thgN_of knN_bl rfl
      · exact thgN_tup e8 (by decide) fun x hx => by simp at hx
      · exact thgN_tup (s6' _ _ ha4) (by omega) fun x hx => kw hx
    have DL := (D4.same s6').new (o := .lst ys) nL2
    have dl := (D4.same s6').ned nL2
    refine ⟨.ref d, rfl, d, c, 10, rfl, DL, by decide, by decide, fun v9 H11 a9 b9 D11 K11 => ?_⟩
    obtain ⟨y, ey1, ey2⟩ := getI (xs := ys) a9 (by omega)
    refine ⟨L2, ys, v9, y, rfl, rfl, SqL.of (K11 _ _ dl.1 dl.2 upd_same), ey1, ?_⟩
    exact q _ _ (((all y (List.mem_of_getElem? ey2)).same (same_new nL2)).kp hD DL K11) D11 (((K4.trans (Same.kp s6')).trans (Kp.new nL2)).trans K11)
/-! ### right -/
def spRight (Pt : Addr) : Sp := fun vs H Q _ => ∃ wv n ts v, vs = [wv, v] ∧ WebAt H wv n ts ∧ Thg H v ∧ (∀ xs, parts H v = some xs → xs.length ≤ 1000) ∧ GxR.TabG H Pt ∧ ∀ H', KT Pt H H' → Q (.bl true) H'
theorem ok_l_right {f Pt : Addr} {fd : FuncData} (F : Fun K "_law_right" "_law_right" s_l_right f fd) (M : Free mg) (Di : Df P w K mg base 4 "is_weights" ["web", "thing"] (spIsWeights Pt)) (Da : Df P w K mg base 2 "_law_are" ["_law_thing", "_law_many"] spAre) :
    FnOk P w K mg base CX0 5 f fd ["_law_web_here", "_law_thing"] (spRight Pt) := by
  obtain ⟨fI, fdI, GI, gI, kI, bI⟩ := Di
  obtain ⟨fA, fdA, GA, gA, kA, bA⟩ := Da
  refine F.ok sc_l_right (fun vs H Q E h => ?_) (fun cdv A outer s H vs Q E hr h => ?_)
  · obtain ⟨wv, n, ts, v, rfl, _⟩ := h
    rfl
  · obtain ⟨wv, n, ts, v, rfl, hW, hT, hle, hG, q⟩ := h
    refine ⟨_, (pss_cons (ps_set (i := 2) sc_l_right.nd rfl (.inl rfl) (pe_call GI hr (by rfl) gI kI bI .nil pass0 (pa_cons (pv 0) (pa_cons (pv 1) pa_nil))))
      (pss_one (ps_ret (pe_and (pe_callB call_isi (by rfl) M.isinstance (by decide +kernel) (pa_cons (pv 2) (pa_cons (pe_bltn (v := .ty "bool") (by rfl) M.bool (by decide +kernel) rfl) pa_nil))) (pe_and (pe_cmpR op_eq (pv 2) (pe_call GA (hr.mono (by decide)) (by rfl) gA kA bA .nil pass0 (pa_cons (pv 1) (pa_cons (pe_callB call_len_seq (by rfl) M.len PySem.boot_len (pa_cons (pe_ix ix_tup (pv 0) pe_int (fun _ _ => rfl)) pa_nil)) pa_nil))) (nomark _)) (pe_one (pe_cmpR op_eq (pe_call GI hr (by rfl) gI kI bI .nil pass0 (pa_cons (pv 0) (pa_cons (pv 1) pa_nil))) (pv 2) (nomark _)))))))), ?_⟩
    refine ⟨wv, rfl, v, rfl, wv, n, ts, v, rfl, hW, hT, hG, fun H1 k1 => ?_⟩
    have hW1 := hW.tk (k1.tk hG)
    have hT1 := k1.thg hG hT
    have ew := kt_wts k1 hG (n := ts.length) hT.kn
    have ep := kt_parts k1 hG hT.kn
    obtain ⟨a, b, ws, rfl, h1, h2, hl⟩ := web_len hW1
    refine ⟨_, rfl, _, _, _, _, true, rfl, .ty "bool", .base (.bl _), kit_ty (by decide +kernel), true, rfl, ?_⟩
    refine ⟨_, rfl, v, rfl, .ref a, rfl, a, _, 1, .ref b, rfl, rfl, SqT.of h1, rfl, b, ws, rfl, .inr (SqT.of h2), v, ts.length, by rw [hl]; rfl, hT1, fun xs e => hle xs (by rw [← ep]; exact e), fun H2 s2 => ?_⟩
    refine ⟨rfl, true, by rw [ew, decide_eq_true rfl], ?_⟩
    have k2 : KT Pt H1 H2 := KT.same k1.tab s2
    refine ⟨.ref a, rfl, v, rfl, .ref a, n, ts, v, rfl, hW1.tk (k2.tk k1.tab), k2.thg k1.tab hT1, k2.tab, fun H3 k3 => ⟨_, rfl, rfl, ?_⟩⟩
    rw [kt_wts k2 k1.tab hT1.kn, ew, decide_eq_true rfl]
    exact q _ ((k1.trans k2).trans k3)
/-! ### the law -/
theorem tab_kp {d c Pt : Addr} {H H' : Hp} (t : GxR.TabG H Pt) (D : Deck H d c) (k : Kp d c H H') : GxR.TabG H' Pt := by
  obtain ⟨ps, e, z⟩ := t
  obtain ⟨cells, st, n, e1, e2, e3⟩ := D
  exact ⟨ps, k _ _ (ne_of e e1 (by intro z; cases z)) (ne_of e e2 (by intro z; cases z)) e, z⟩
theorem ThgN.thg {H H' : Hp} {v : V} (h : ThgN H H' v) : Thg H' v := ⟨h.kn.1, fun xs e x hx => ((h.sub xs e).2 x hx).1⟩
def spLaw (K : PySem.W.Frag) (Pt : Addr) : Sp := fun vs H Q _ => ∃ (a : Addr) (ns : List Int), vs = [.ref a] ∧ SqL K H a (ns.map V.int) ∧ ns.length ≤ 63 ∧ GxR.TabG H Pt ∧ ∀ H', Q (.bl true) H'
theorem ok_law {f Pt : Addr} {fd : FuncData} (F : Fun K "law" "law" s_law f fd) (M : Free mg) (Dk : Df P w K mg base 1 "_law_deck" ["_law_script"] (spDeck K)) (Dw : Df P w K mg base 2 "_law_web" ["_law_deck_here"] spWeb)
    (Dg : Df P w K mg base 2 "_law_weights" ["_law_deck_here", "_law_many"] spWeights) (Do : Df P w K mg base 2 "_law_otherwise" ["_law_deck_here", "_law_weights_here"] spOtherwise) (Dr : Df P w K mg base 5 "_law_right" ["_law_web_here", "_law_thing"] (spRight Pt))
    (Do2 : Df P w K mg base 1 "weight_of" ["weights", "tie"] spWeightOf) (Dh : Df P w K mg base 1 "_law_whole" ["_law_thing"] spWhole) (Di : Df P w K mg base 4 "is_weights" ["web", "thing"] (spIsWeights Pt)) : FnOk P w K mg base CX0 6 f fd ["_law_script"] (spLaw K Pt) := by
  obtain ⟨fK, fdK, GK, gK, kK, bK⟩ := Dk
  obtain ⟨fW, fdW, GW, gW, kW, bW⟩ := Dw
  obtain ⟨fG, fdG, GG, gG, kG, bG⟩ := Dg
  obtain ⟨fO, fdO, GO, gO, kO, bO⟩ := Do
  obtain ⟨fR, fdR, GR, gR, kR, bR⟩ := Dr
  obtain ⟨fE, fdE, GE, gE, kE, bE⟩ := Do2
  obtain ⟨fH, fdH, GH, gH, kH, bH⟩ := Dh
  obtain ⟨fI, fdI, GI, gI, kI, bI⟩ := Di
  refine F.ok sc_law (fun vs H Q E h => ?_) (fun cdv A outer s H vs Q E hr h => ?_)
  · obtain ⟨a, ns, rfl, _⟩ := h
    rfl
  · obtain ⟨sc, ns, rfl, hS, hlen, hG, q⟩ := h
    refine ⟨_, (pss_cons (ps_set (i := 1) sc_law.nd rfl (.inr rfl) (pe_call GK (hr.mono (by decide)) (by rfl) gK kK bK .nil pass0 (pa_cons (pv 0) pa_nil)))
      (pss_cons (ps_set (i := 2) sc_law.nd rfl (.inl rfl) (pe_call GW (hr.mono (by decide)) (by rfl) gW kW bW .nil pass0 (pa_cons (pv 1) pa_nil)))
      (pss_cons (ps_set (i := 3) sc_law.nd rfl (.inr rfl) (pe_call GG (hr.mono (by decide)) (by rfl) gG kG bG .nil pass0 (pa_cons (pv 1) (pa_cons (pe_callB call_len_seq (by rfl) M.len PySem.boot_len (pa_cons (pe_ix ix_tup (pv 2) pe_int (fun _ _ => rfl)) pa_nil)) pa_nil))))
      (pss_cons (ps_for PassesOwn.never rfl (pi_list (pe_op op_cat (pe_lst (pa_cons (pv 3) (pa_cons pe_non pa_nil))) (pe_lc (own := [("_law_k", 5)]) (g := gName 5) (tt := tYes) rfl sc_law.nd (pi_range1 (by rfl) M.range (pa_cons pe_int pa_nil)) (blkOk_by (N := N_law) (sc := defScope s_law) (own := [("_law_k", 5)]) (by decide +kernel)) (fun _ _ _ _ _ => (pg_name (i := 5) sc_law.nd rfl (.inl rfl))) (fun _ _ _ _ _ => pts_nil) (fun _ _ _ _ _ => (pe_call GO (hr.mono (by decide)) (by rfl) gO kO bO .nil pass0 (pa_cons (pv 1) (pa_cons (pv 3) pa_nil))))))) (pg_name (i := 4) sc_law.nd rfl (.inl rfl))
        (pss_one (ps_if (pt_not (pt_val (pe_call GR hr (by rfl) gR kR bR .nil pass0 (pa_cons (pv 2) (pa_cons (pv 4) pa_nil)))))
          (pss_one (ps_ret pe_bl))
          pss_nil)))
      (pss_cons (ps_for PassesOwn.never rfl (pi_range1 (by rfl) M.range (pa_cons pe_int pa_nil)) (pg_name (i := 6) sc_law.nd rfl (.inl rfl))
        (pss_one (ps_for PassesOwn.never rfl (pi_range1 (by rfl) M.range (pa_cons (pe_callB call_len_seq (by rfl) M.len PySem.boot_len (pa_cons (pv 3) pa_nil)) pa_nil)) (pg_name (i := 7) sc_law.nd rfl (.inl rfl))
          (pss_one (ps_for PassesOwn.never rfl (pi_list (pe_lst (pa_cons (pe_tup (pa_cons (pe_call GE (hr.mono (by decide)) (by rfl) gE kE bE .nil pass0 (pa_cons (pv 3) (pa_cons (pv 7) pa_nil))) (pa_cons (pe_ix ix_tup (pv 3) (pv 7) (fun _ _ => rfl)) pa_nil))) (pa_cons (pe_tup (pa_cons (pe_call GE (hr.mono (by decide)) (by rfl) gE kE bE .nil pass0 (pa_cons pe_non (pa_cons (pv 7) pa_nil))) (pa_cons pe_int pa_nil))) pa_nil)))) (pg_tup rfl (pgs_cons (pg_name (i := 8) sc_law.nd rfl (.inl rfl)) (pgs_cons (pg_name (i := 9) sc_law.nd rfl (.inl rfl)) pgs_nil)))
            (pss_one (ps_if (PW.pt (pw_or (pt_not (pt_val (pe_call GH (hr.mono (by decide)) (by rfl) gH kH bH .nil pass0 (pa_cons (pv 8) pa_nil)))) (pw_or1 (pt_cmpR op_ne (pv 8) (pv 9) (nomark _)))))
              (pss_one (ps_ret pe_bl))
              pss_nil)))))))
      (pss_one (ps_ret (pe_cmpR op_is_bl (pe_call GI (hr.mono (by decide)) (by rfl) gI kI bI .nil pass0 (pa_cons (pv 2) (pa_cons (pv 3) pa_nil))) pe_bl (nomark _))))))))), ?_⟩
    -- deck, web, weights
    refine ⟨.ref sc, rfl, sc, ns, rfl, hS, hlen, fun d c H1 s1 nd nc D1 => ?_⟩
    have g1 := (KT.same hG s1).tab
    refine ⟨.ref d, rfl, d, c, rfl, D1, fun wv n ts H2 hW hO D2 K2 => ?_⟩
    have g2 := tab_kp g1 D1 K2
    obtain ⟨wa, wb, wvs, rfl, hw1, hw2, hwl⟩ := web_len hW
    refine ⟨.ref d, rfl, .ref wa, rfl, wa, _, 1, .ref wb, rfl, rfl, SqT.of hw1, rfl, wb, wvs, rfl, .inr (SqT.of hw2), d, c, ts.length, by rw [hwl]; rfl, D2, hO.few, fun a ws H3 ha hwsl hws D3 K3 => ?_⟩
    have g3 := tab_kp g2 D2 K3
    have hW3 := hW.tk (K3.tk D2)
    have hfew := hO.few
    have lw : (ws.map V.int).length ≤ 120 := by rw [List.length_map]; omega
    -- the things
    refine ⟨.ref a, rfl, by show 2 ≤ sizeLine; decide, fun L0 nL0 => ⟨12, rfl, by decide, by decide, fun L nL => ?_⟩⟩
    have D4 := D3.new (o := .lst [.ref a, .non]) nL0
    have hL0 := D3.ned nL0
    have hLd := D4.ned nL
    have nLL : L0 ≠ L := ne_of_none upd_same nL
    have K4 : Kp d c H3 (upd H3 L0 (.lst [.ref a, .non])) := Kp.new nL0
    generalize hH4 : upd H3 L0 (.lst [.ref a, .non]) = H4 at D4 nL K4
    have eL0 : H4 L0 = some (.lst [.ref a, .non]) := by rw [← hH4]; exact upd_same
    refine lc_range (lo := 0) (n := 12) (fun i H' => ∃ xs : List V, H' L = some (.lst xs) ∧ xs.length = i ∧ (∀ x ∈ xs, ThgN (upd H4 L (.lst [])) H' x) ∧ Deck H' d c ∧ Kp d c H4 H') ?_ ?_ ?_
    · exact ⟨[], upd_same, rfl, fun x hx => by simp at hx, D4.new nL, Kp.new nL⟩
    · rintro i H5 hi ⟨xs, hL, hl, hx, D5, K5⟩
      refine ⟨rfl, .ref d, rfl, .ref a, rfl, d, c, a, ws, rfl, D5, (K4.trans K5).tk D3 _ _ ha, by omega, fun v H6 hv D6 K6 => ?_⟩
      have DL := D4.new (o := .lst []) nL
      have fr : ∀ {r : Addr}, H5 r = none → (upd H4 L (.lst [])) r = none := fun {r} z => by
        rw [upd_ne (ne_of_none hL z).symm]
        exact K5.free D5 z
      have eL6 := K6 _ _ hLd.1 hLd.2 hL
      refine ⟨xs, eL6, small1000 (by omega), xs ++ [v], upd_same, by rw [List.length_append, hl]; rfl, fun x hx' => ?_, D6.mut hLd.1 hLd.2, (K5.trans K6).mut nL⟩
      -- behind the append: none of these things is the list
      have stay : ∀ {y : V}, KnN (upd H4 L (.lst [])) H6 y → KnN (upd H4 L (.lst [])) (upd H6 L (.lst (xs ++ [v]))) y ∧ parts (upd H6 L (.lst (xs ++ [v]))) y = parts H6 y := fun {y} hy => by
        have key : ∀ {r : Addr} {o : HO}, y = .ref r → H6 r = some o → (upd H6 L (.lst (xs ++ [v]))) r = some o := fun {r o} e eo => by
          have nr : r ≠ L := by
            rcases hy.2 r e with ⟨zs, z⟩ | z
            · exact ne_of z eL6 (by intro z; cases z)
            · exact (ne_of_none (upd_same (H := H4) (a := L) (o := .lst [])) z).symm
          rw [upd_ne nr]
          exact eo
        cases y with
        | ref r =>
          have h0 := hy.1
          refine ⟨⟨?_, fun r' e' => (hy.2 r' e').elim (fun ⟨zs, z⟩ => .inl ⟨zs, key e' z⟩) .inr⟩, ?_⟩
          · rcases h0 with ⟨zs, z⟩ | ⟨zs, z⟩ | ⟨zs, z⟩
            · exact .inl ⟨zs, key rfl z⟩
            · exact .inr (.inl ⟨zs, key rfl z⟩)
            · exact .inr (.inr ⟨zs, key rfl z⟩)
          · unfold parts
            rcases h0 with ⟨zs, z⟩ | ⟨zs, z⟩ | ⟨zs, z⟩ <;> simp only [z, key rfl z]
        | non => exact ⟨knN_non, rfl⟩
        | bl b => exact ⟨knN_bl, rfl⟩
        | int j => exact ⟨knN_int, rfl⟩
        | str j => exact ⟨knN_str, rfl⟩
        | byt b => exact hy.1.elim
        | flt b => exact hy.1.elim
        | ty b => exact hy.1.elim
      have thg : ∀ {y : V}, ThgN (upd H4 L (.lst [])) H6 y → ThgN (upd H4 L (.lst [])) (upd H6 L (.lst (xs ++ [v]))) y := fun {y} hy =>
        ⟨(stay hy.kn).1, fun zs e => by
          rw [(stay hy.kn).2] at e
          exact ⟨(hy.sub zs e).1, fun z hz => (stay ((hy.sub zs e).2 z hz)).1⟩⟩
      rcases List.mem_append.mp hx' with h | h
      · exact thg ((hx x h).kp DL D5 K6)
      · rw [List.mem_singleton.mp h]
        refine thg ⟨⟨hv.kn.1, fun r e => ?_⟩, fun zs e => ⟨(hv.sub zs e).1, fun z hz => ⟨((hv.sub zs e).2 z hz).1, fun r er => ?_⟩⟩⟩
        · refine (hv.kn.2 r e).imp id fun z => ?_
          exact fr z
        · refine (((hv.sub zs e).2 z hz).2 r er).imp id fun z => ?_
          exact fr z
    · rintro H5 ⟨xs, hL, hl, hx, D5, K5⟩
      have eL5 : H5 L0 = some (.lst [.ref a, .non]) := K5 _ _ hL0.1 hL0.2 eL0
      refine ⟨L0, L, _, xs, rfl, rfl, eL5, hL, by show 2 + _ ≤ sizeLine; rw [hl]; decide, fun LL nLL2 => ?_⟩
      have s6 := same_new (o := .lst ([V.ref a, .non] ++ xs)) nLL2
      have g6 := (KT.same (tab_kp (tab_kp g3 D3 K4) D4 K5) s6).tab
      have hW6 := (hW3.tk ((K4.trans K5).tk D3)).tk (Same.tk s6)
      have ha6 := s6 _ _ ((K4.trans K5).tk D3 _ _ ha)
      have eLL : (upd H5 LL (.lst ([V.ref a, .non] ++ xs))) LL = some (.lst ([V.ref a, .non] ++ xs)) := upd_same
      have hall : ∀ x ∈ [V.ref a, .non] ++ xs, Thg (upd H5 LL (.lst ([V.ref a, .non] ++ xs))) x ∧ ∀ zs, parts (upd H5 LL (.lst ([V.ref a, .non] ++ xs))) x = some zs → zs.length ≤ 1000 := fun x hx' => by
        rcases List.mem_append.mp hx' with h | h
        · simp only [List.mem_cons, List.not_mem_nil, or_false] at h
          rcases h with e | e <;> subst e
          · refine ⟨⟨.inr (.inl ⟨_, ha6⟩), fun zs e z hz => ?_⟩, fun zs e => ?_⟩
            · rw [parts_of' ha6] at e
              cases e
              obtain ⟨j, _, e⟩ := List.mem_map.mp hz
              subst e
              trivial
            · rw [parts_of' ha6] at e
              cases e
              omega
          · exact ⟨⟨trivial, fun zs e => by cases e⟩, fun zs e => by cases e⟩
        · have z := (hx x h).same s6
          exact ⟨z.thg, fun zs e => (z.sub zs e).1⟩
      generalize upd H5 LL (.lst ([V.ref a, .non] ++ xs)) = H6 at g6 hW6 ha6 eLL hall
      clear s6
      refine ⟨LL, rfl, ⟨_, SqL.of eLL⟩, ?_⟩
      refine for_list (K := K) (a := LL) (xs := [V.ref a, .non] ++ xs) (fun i σ' H' => ∃ y4, σ' = [some (.ref sc), some (.ref d), some (.ref wa), some (.ref a), y4, none, none, none, none, none] ∧ KT Pt H6 H') ⟨none, rfl, KT.refl g6⟩ (fun i σ' H' _ h => by obtain ⟨y4, _, k⟩ := h; exact SqL.of (k.lst g6 eLL)) ?_ ?_
      · rintro i x σ' H7 hxi ⟨y4, rfl, k7⟩
        obtain ⟨t6, l6⟩ := hall x (List.mem_of_getElem? hxi)
        refine ⟨.ref wa, rfl, x, rfl, .ref wa, n, ts, x, rfl, hW6.tk (k7.tk g6), k7.thg g6 t6, fun zs e => l6 zs (by rw [← kt_parts k7 g6 t6.kn]; exact e), k7.tab, fun H8 k8 => ⟨true, rfl, ?_⟩⟩
        exact ⟨_, rfl, k7.trans k8⟩
      · rintro σ' H7 ⟨y4, rfl, k7⟩
        -- the weights by their numbers
        refine ⟨2, rfl, by decide, by decide, ?_⟩
        refine for_range (lo := 0) (n := 2) (fun i σ' H' => ∃ y6 y7 y8 y9, σ' = [some (.ref sc), some (.ref d), some (.ref wa), some (.ref a), y4, none, y6, y7, y8, y9] ∧ KT Pt H6 H') ⟨none, none, none, none, rfl, k7⟩ ?_ ?_
        · rintro i σ' H8 hi ⟨y6, y7, y8, y9, rfl, k8⟩
          have ha8 := k8.tup g6 ha6
          refine ⟨.ref a, rfl, a, _, rfl, .inr (SqT.of ha8), _, rfl, by rw [List.length_map]; omega, by rw [List.length_map]; omega, ?_⟩
          rw [List.length_map, Int.toNat_natCast]
          refine for_range (lo := 0) (n := ws.length) (fun i σ' H' => ∃ y6 y7 y8 y9, σ' = [some (.ref sc), some (.ref d), some (.ref wa), some (.ref a), y4, none, y6, y7, y8, y9] ∧ KT Pt H6 H') ⟨_, _, _, _, rfl, k8⟩ ?_ ?_
          · rintro j σ' H9 hj ⟨y6, y7, y8, y9, rfl, k9⟩
            have ha9 := k9.tup g6 ha6
            have ej : (ws.map V.int)[j]? = some (.int ws[j]) := by rw [List.getElem?_map, List.getElem?_eq_getElem hj]; rfl
            have ej2 : atI (ws.map V.int) ((0 : Int) + j) = some (.int ws[j]) := by rw [Int.zero_add]; exact atI_nat ej
            refine ⟨.ref a, rfl, .int (0 + j), rfl, .inr ⟨a, _, _, _, rfl, ha9, ej2, .ref a, rfl, .int (0 + j), rfl, a, _, _, _, rfl, rfl, SqT.of ha9, ej2, by show 2 ≤ sizeLine; decide, fun t1 n1 => ?_⟩⟩
            refine ⟨.int (0 + j), rfl, .inl ⟨_, rfl, by show 2 ≤ sizeLine; decide, fun t2 n2 => ⟨by show 2 ≤ sizeLine; decide, fun LT nT => ?_⟩⟩⟩
            have s9 := ((same_new (o := .tup [.int ws[j], .int ws[j]]) n1).trans (same_new (o := .tup [.int 1, .int 1]) n2)).trans (same_new (o := .lst [.ref t1, .ref t2]) nT)
            have k10 := k9.trans (KT.same k9.tab s9)
            have e1 := same_new (o := .lst [.ref t1, .ref t2]) nT _ _ (same_new (o := .tup [.int 1, .int 1]) n2 _ _ (upd_same (H := H9) (a := t1) (o := .tup [.int ws[j], .int ws[j]])))
            have e2 := same_new (o := .lst [.ref t1, .ref t2]) nT _ _ (upd_same (H := upd H9 t1 (.tup [.int ws[j], .int ws[j]])) (a := t2) (o := .tup [.int 1, .int 1]))
            have e3 : (upd (upd (upd H9 t1 (.tup [.int ws[j], .int ws[j]])) t2 (.tup [.int 1, .int 1])) LT (.lst [.ref t1, .ref t2])) LT = some (.lst [.ref t1, .ref t2]) := upd_same
            generalize upd (upd (upd H9 t1 (.tup [.int ws[j], .int ws[j]])) t2 (.tup [.int 1, .int 1])) LT (.lst [.ref t1, .ref t2]) = H10 at k10 e1 e2 e3
            refine ⟨LT, rfl, ⟨_, SqL.of e3⟩, ?_⟩
            refine for_list (K := K) (a := LT) (xs := [.ref t1, .ref t2]) (fun i σ' H' => (∃ y6 y7 y8 y9, σ' = [some (.ref sc), some (.ref d), some (.ref wa), some (.ref a), y4, none, y6, y7, y8, y9]) ∧ H' = H10) ⟨⟨_, _, _, _, rfl⟩, rfl⟩ (fun i σ' H' _ h => by rw [h.2]; exact SqL.of e3) ?_ ?_
            · rintro i x σ' H' hxi ⟨⟨y6, y7, y8, y9, rfl⟩, rfl⟩
              have two : ∃ (t : Addr) (z : Int), x = .ref t ∧ H' t = some (.tup [.int z, .int z]) := by
                have hm := List.mem_of_getElem? hxi
                simp only [List.mem_cons, List.not_mem_nil, or_false] at hm
                rcases hm with e | e
                · exact ⟨t1, _, e, e1⟩
                · exact ⟨t2, _, e, e2⟩
              obtain ⟨t, z, rfl, et⟩ := two
              refine ⟨t, _, rfl, SqT.of et, rfl, _, _, rfl, _, _, rfl, rfl, ?_⟩
              refine ⟨.int z, rfl, .int z, rfl, trivial, _, rfl, ?_⟩
              refine ⟨.int z, rfl, .int z, rfl, rfl, _, rfl, ?_⟩
              rw [decide_eq_true rfl]
              exact ⟨⟨_, _, _, _, rfl⟩, rfl⟩
            · rintro σ' H' ⟨⟨y6, y7, y8, y9, rfl⟩, rfl⟩
              exact ⟨_, _, _, _, rfl, k10⟩
          · rintro σ' H9 ⟨y6, y7, y8, y9, rfl, k9⟩
            exact ⟨_, _, _, _, rfl, k9⟩
        · rintro σ' H8 ⟨y6, y7, y8, y9, rfl, k8⟩
          have ha8 := k8.tup g6 ha6
          have hp8 := parts_of' ha8
          have t8 : Thg H8 (.ref a) := ⟨.inr (.inl ⟨_, ha8⟩), fun zs e z hz => by
            rw [hp8] at e
            cases e
            obtain ⟨j, _, e⟩ := List.mem_map.mp hz
            subst e
            trivial⟩
          refine ⟨.ref wa, rfl, .ref a, rfl, .ref wa, n, ts, .ref a, rfl, hW6.tk (k8.tk g6), t8, k8.tab, fun H9 k9 => ⟨_, true, rfl, rfl, ?_⟩⟩
          have ew : wts H8 (.ref a) ts.length = true := by
            rw [wts_tup hp8, List.length_map, decide_eq_true hwsl, Bool.true_and, List.all_eq_true]
            intro z hz
            obtain ⟨j, hj, e⟩ := List.mem_map.mp hz
            subst e
            exact decide_eq_true (hws j hj)
          rw [ew, decide_eq_true rfl]
          exact q _
/-! ### the end of a law whose defs hold generator expressions: their tables are empty behind the top -/
theorem walk_tabs {l : PySem.W.OpenLaw} {n k : Nat} {q : Program} {loose : List Str} {XP : (Str → Option Value) → Heap → Prop} {YP : World → Heap → Prop} {d : DefRec} {K : Params → PySem.W.Frag} {x : Str}
    (hn : l.most = some n) (hn2 : n ≤ sizeLine) (hdf : d.params.defaults = []) (hr : Room k callerA) (hY : ∀ (w : World) (h : Heap), YP w h → (K w.params).In h)
    (F : ∀ (w : World) (mg : Str → Option Value) (fa : Addr) (h : Heap), (K w.params).In h → h.Ns mainGlobals mg → mg d.name = some (.ref fa) →
      (∀ (y : Str) (fy : Addr), ((recsOf q).any fun e => e.name == y) = true → mg y = some (.ref fy) → LamX.OwnTab (K w.params) fy h) → LamX.LawAtS l w (K w.params) CX0 k n x mg fa h) :
    PySem.W.WalkO q loose XP YP l.row.toRowW d [] (fun f vs => PySem.call f vs) := by
  refine Att.attach_callB hn hdf fun w s₀ s₁ mg mb fa o pm cd doc a vs ns G Y ho hd hcd hmg hobj hints hlen hbits hg => ?_
  have KX := hY w _ Y
  have tabs : ∀ (y : Str) (fy : Addr), ((recsOf q).any fun e => e.name == y) = true → mg y = some (.ref fy) → LamX.OwnTab (K w.params) fy s₁.heap := fun y fy hy hm c P o1 fd1 e dd vs1 sl k1 k2 k3 k4 k5 => by
    obtain ⟨dL, hmem, hnm⟩ := List.any_eq_true.mp hy
    have hnm : dL.name = y := beq_iff_eq.mp hnm
    obtain ⟨a', o', fd', c', P', h1, h2, h3, h4, h5, h6⟩ := G.T.tab dL hmem
    rw [hnm, hm] at h1
    cases h1
    rw [KX _ _ k1] at h2
    cases h2
    rw [k2] at h3
    cases h3
    rw [k3] at h4
    cases h4
    obtain ⟨⟨oc, vc, e1, _, e3, e4⟩, hP⟩ := h6
    rw [KX _ _ k4] at e1
    cases e1
    cases e3
    rw [k5] at e4
    cases e4
    exact hP
  obtain ⟨fd, cs, sp, hT, nT, C, hb, hsp, hF⟩ := F w mg fa _ KX G.T.g hmg tabs
  exact LamX.law_callTs KX G.T.g G.T.b G.T.builtins G.T.nolimit hg hT nT C G.T.bmain hobj hints (Nat.le_trans hlen hn2) hr hF hb (fun H hH hS => hsp H a ns hlen hbits hH hS) fun H e s' z => z
/-- where a def stands, and where its code object does -/
structure At (K : PySem.W.Frag) (x : Str) (st : Stmt) (f : Addr) : Prop where
  ns : PySem.W.nsIn K mainGlobals x = some (some (.ref f))
  ex : ∃ (oc : Value) (od : Option Addr) (kV doc pm : Value) (an : Option Addr) (cdv ct : Value) (osl : Array (Option Value)),
    K.lookup f = some ⟨oc, od, .func (PySem.W.fnOf x x (defArgs st) (defBody st) (defScope st) .none kV doc pm an cdv ct), osl⟩ ∧ PySem.W.codeIn K cdv x = true
  kp : PySem.W.keepIn K (.ref f) = true
theorem at_mk {K : PySem.W.Frag} {x : Str} {st : Stmt} {f : Addr} {oc : Value} {od an : Option Addr} {osl : Array (Option Value)} {kV doc pm cdv ct : Value} (a : PySem.W.nsIn K mainGlobals x = some (some (.ref f)))
    (l : K.lookup f = some ⟨oc, od, .func (PySem.W.fnOf x x (defArgs st) (defBody st) (defScope st) .none kV doc pm an cdv ct), osl⟩) (c : PySem.W.codeIn K cdv x = true) (k : PySem.W.keepIn K (.ref f) = true) : At K x st f := ⟨a, ⟨oc, od, kV, doc, pm, an, cdv, ct, osl, l, c⟩, k⟩
theorem At.fn {K : PySem.W.Frag} {x : Str} {st : Stmt} {f : Addr} (h : At K x st f) : ∃ fd, Fun K x x st f fd := by
  obtain ⟨oc, od, kV, doc, pm, an, cdv, ct, osl, l, c⟩ := h.ex
  exact ⟨_, fun_mk l c h.kp⟩
structure AtC (K : PySem.W.Frag) (x : Str) (st : Stmt) (f c Pt : Addr) : Prop where
  ns : PySem.W.nsIn K mainGlobals x = some (some (.ref f))
  ex : ∃ (oc : Value) (od : Option Addr) (kV doc pm : Value) (an : Option Addr) (ct : Value) (osl : Array (Option Value)),
    K.lookup f = some ⟨oc, od, .func (PySem.W.fnOf x x (defArgs st) (defBody st) (defScope st) .none kV doc pm an (.ref c) ct), osl⟩ ∧ PySem.W.codeIn K (.ref c) x = true
  kp : PySem.W.keepIn K (.ref f) = true
  co : ∃ (dd : Option Addr) (vs : Array Value) (sl : Array (Option Value)) (file : Str) (tf : Tok) (flags : Int) (tg : Tok) (inF : Bool) (text : Int) (tt : Tok), K.lookup c = some ⟨.type "code", dd, .fields vs, sl⟩ ∧ vs[11]? = some (.ref Pt) ∧ vs.getD 11 .none = .ref Pt ∧ vs.getD 18 .none = .str file tf ∧
    vs.getD 7 .none = .int flags tg ∧ vs.getD 9 .none = .bool inF ∧ vs.getD 10 .none = .int text tt ∧ c ≠ Pt
  nP : K.lookup Pt = none
theorem atC_mk {K : PySem.W.Frag} {x : Str} {st : Stmt} {f c Pt : Addr} {oc : Value} {od an dd : Option Addr} {osl sl : Array (Option Value)} {kV doc pm ct : Value} {vs : Array Value} {file : Str} {tf tg tt : Tok} {flags text : Int} {inF : Bool} (a : PySem.W.nsIn K mainGlobals x = some (some (.ref f)))
    (l : K.lookup f = some ⟨oc, od, .func (PySem.W.fnOf x x (defArgs st) (defBody st) (defScope st) .none kV doc pm an (.ref c) ct), osl⟩) (cc : PySem.W.codeIn K (.ref c) x = true) (k : PySem.W.keepIn K (.ref f) = true)
    (lc : K.lookup c = some ⟨.type "code", dd, .fields vs, sl⟩) (v11 : vs[11]? = some (.ref Pt)) (w11 : vs.getD 11 .none = .ref Pt) (v18 : vs.getD 18 .none = .str file tf) (v7 : vs.getD 7 .none = .int flags tg) (v9 : vs.getD 9 .none = .bool inF) (v10 : vs.getD 10 .none = .int text tt) (ne : c ≠ Pt)
    (nP : K.lookup Pt = none) : AtC K x st f c Pt := ⟨a, ⟨oc, od, kV, doc, pm, an, ct, osl, l, cc⟩, k, ⟨dd, vs, sl, file, tf, flags, tg, inF, text, tt, lc, v11, w11, v18, v7, v9, v10, ne⟩, nP⟩
theorem AtC.fn {K : PySem.W.Frag} {x : Str} {st : Stmt} {f c Pt : Addr} (h : AtC K x st f c Pt) : ∃ fd, FunC K x x st f fd c := by
  obtain ⟨oc, od, kV, doc, pm, an, ct, osl, l, cc⟩ := h.ex
  exact ⟨_, ⟨oc, od, kV, doc, pm, an, ct, osl, rfl, l, cc⟩, h.kp⟩
theorem AtC.hd {K : PySem.W.Frag} {h : Heap} {x : Str} {st : Stmt} {f c Pt : Addr} (a : AtC K x st f c Pt) (X : K.In h) : PySem.W.CodeHd h c Pt := by
  obtain ⟨dd, vs, sl, file, tf, flags, tg, inF, text, tt, lc, v11, w11, v18, v7, v9, v10, ne⟩ := a.co
  exact ⟨_, vs, file, tf, flags, tg, inF, text, tt, X _ _ lc, rfl, rfl, v11, w11, v18, v7, v9, v10, ne⟩
theorem AtC.tab {K : PySem.W.Frag} {h : Heap} {x : Str} {st : Stmt} {f c Pt : Addr} (a : AtC K x st f c Pt) (o : LamX.OwnTab K f h) : h.get? Pt = some { cls := .none, data := .fields #[] } := by
  obtain ⟨oc, od, kV, doc, pm, an, ct, osl, l, cc⟩ := a.ex
  obtain ⟨dd, vs, sl, file, tf, flags, tg, inF, text, tt, lc, v11, w11, v18, v7, v9, v10, ne⟩ := a.co
  exact o c Pt _ _ _ _ _ _ l rfl rfl lc v11
section
variable {P : Program} {w : World} {K : PySem.W.Frag} {mg : Str → Option Value} {base : Heap}
theorem Df.of {x : Str} {st : Stmt} {f : Addr} {fd : FuncData} {k : Nat} {ps : List Str} {sp : Sp} (g : mg x = some (.ref f)) (F : Fun K x x st f fd) (G : FnOk P w K mg base CX0 k f fd ps sp)
    (h : ∀ (kV doc pm : Value) (an : Option Addr) (cdv ct : Value) (us : List Value), us.length = ps.length → bindArgs (PySem.W.fnOf x x (defArgs st) (defBody st) (defScope st) .none kV doc pm an cdv ct) ⟨us, []⟩ = pure (ps.zip us)) : Df P w K mg base k x ps sp :=
  ⟨f, fd, G, g, F.kp, F.binds h⟩
end
/-! ### what the top has written -/
theorem law_at {l : PySem.W.OpenLaw} {w : World} {K : PySem.W.Frag} {h : Heap} {mg : Str → Option Value} {fa f0 f1 f2 f3 f4 f5 f6 f7 f8 f9 f10 f11 f12 f13 c Pt : Addr} (X : K.In h) (G : h.Ns mainGlobals mg) (hfa : mg "law" = some (.ref fa))
    (tabs : ∀ (fy : Addr), mg "is_weights" = some (.ref fy) → LamX.OwnTab K fy h)
    (a1 : At K "is_whole" s_is_whole f1) (a2 : At K "is_whole_from" s_is_whole_from f2) (a3 : At K "is_tuple_of" s_is_tuple_of f3) (a4 : AtC K "is_weights" s_is_weights f4 c Pt) (a5 : At K "weight_of" s_weight_of f5)
    (a6 : At K "_law_deck" s_l_deck f6) (a7 : At K "_law_draw" s_l_draw f7) (a8 : At K "_law_web" s_l_web f8) (a9 : At K "_law_whole" s_l_whole f9) (a10 : At K "_law_weights" s_l_weights f10) (a11 : At K "_law_are" s_l_are f11) (a12 : At K "_law_otherwise" s_l_otherwise f12) (a13 : At K "_law_right" s_l_right f13) (a0 : At K "law" s_law f0)
    (z1 : PySem.W.nsIn K mainGlobals "len" = some none) (z2 : PySem.W.nsIn K mainGlobals "int" = some none) (z3 : PySem.W.nsIn K mainGlobals "bool" = some none) (z4 : PySem.W.nsIn K mainGlobals "str" = some none) (z5 : PySem.W.nsIn K mainGlobals "list" = some none) (z6 : PySem.W.nsIn K mainGlobals "tuple" = some none)
    (z7 : PySem.W.nsIn K mainGlobals "range" = some none) (z8 : PySem.W.nsIn K mainGlobals "isinstance" = some none) (z9 : PySem.W.nsIn K mainGlobals "sum" = some none) (z10 : PySem.W.nsIn K mainGlobals "all" = some none) :
    LamX.LawAtS l w K CX0 6 63 "_law_script" mg fa h := by
  have efa := hfa.symm.trans (PySem.W.mg_of X G a0.ns)
  cases efa
  have M : Free mg := ⟨PySem.W.mg_none_of X G z1, PySem.W.mg_none_of X G z2, PySem.W.mg_none_of X G z3, PySem.W.mg_none_of X G z4, PySem.W.mg_none_of X G z5, PySem.W.mg_none_of X G z6, PySem.W.mg_none_of X G z7, PySem.W.mg_none_of X G z8, PySem.W.mg_none_of X G z9⟩
  have m10 := PySem.W.mg_none_of X G z10
  obtain ⟨d1, F1⟩ := a1.fn
  obtain ⟨d2, F2⟩ := a2.fn
  obtain ⟨d3, F3⟩ := a3.fn
  obtain ⟨d4, F4⟩ := a4.fn
  obtain ⟨d5, F5⟩ := a5.fn
  obtain ⟨d6, F6⟩ := a6.fn
  obtain ⟨d7, F7⟩ := a7.fn
  obtain ⟨d8, F8⟩ := a8.fn
  obtain ⟨d9, F9⟩ := a9.fn
  obtain ⟨d10, F10⟩ := a10.fn
  obtain ⟨d11, F11⟩ := a11.fn
  obtain ⟨d12, F12⟩ := a12.fn
  obtain ⟨d13, F13⟩ := a13.fn
  obtain ⟨d0, F0⟩ := a0.fn
  have g1 := PySem.W.mg_of X G a1.ns
  have g2 := PySem.W.mg_of X G a2.ns
  have g3 := PySem.W.mg_of X G a3.ns
  have g4 := PySem.W.mg_of X G a4.ns
  have g5 := PySem.W.mg_of X G a5.ns
  have g6 := PySem.W.mg_of X G a6.ns
  have g7 := PySem.W.mg_of X G a7.ns
  have g8 := PySem.W.mg_of X G a8.ns
  have g9 := PySem.W.mg_of X G a9.ns
  have g10 := PySem.W.mg_of X G a10.ns
  have g11 := PySem.W.mg_of X G a11.ns
  have g12 := PySem.W.mg_of X G a12.ns
  have g13 := PySem.W.mg_of X G a13.ns
  have hb0 : ∀ (s : Shared) (u : Value), BindsTo s d0 ⟨[u], []⟩ [("_law_script", u)] := by
    obtain ⟨oc, od, kV, doc, pm, an, cdv, ct, osl, rfl, _⟩ := F0.ex
    exact fun s u => .of_eq rfl
  refine ⟨d0, [(c, Pt)], spLaw K Pt, fun p hp => ?_, fun p hp => ?_, fun p hp => ?_, hb0, fun H a ns hl _ hT hS => ⟨a, ns, rfl, hS, hl, ⟨#[], hT (c, Pt) (by simp), by trivial⟩, fun _ => rfl⟩, fun base KB GB TB => ?_⟩
  · rw [List.mem_singleton.mp hp]
    exact a4.tab (tabs _ g4)
  · rw [List.mem_singleton.mp hp]
    exact a4.nP
  · rw [List.mem_singleton.mp hp]
    exact a4.hd X
  · have tb := TB (c, Pt) (by simp)
    have D1 : Df l.prog w K mg base 1 "is_whole" ["thing"] spWhole := .of g1 F1 (ok_is_whole F1 M) fun _ _ _ _ _ _ us hl => match us, hl with | [_], _ => rfl
    have D2 : Df l.prog w K mg base 2 "is_whole_from" ["low", "thing"] spFrom := .of g2 F2 (ok_is_whole_from F2 D1) fun _ _ _ _ _ _ us hl => match us, hl with | [_, _], _ => rfl
    have D3 : Df l.prog w K mg base 1 "is_tuple_of" ["length", "thing"] spTupleOf := .of g3 F3 (ok_is_tuple_of F3 M) fun _ _ _ _ _ _ us hl => match us, hl with | [_, _], _ => rfl
    have D4 : Df l.prog w K mg base 4 "is_weights" ["web", "thing"] (spIsWeights Pt) := .of g4 F4.fn (ok_is_weights F4 ⟨tb.code, tb.bm, tb.gP⟩ M m10 D2 D3) fun _ _ _ _ _ _ us hl => match us, hl with | [_, _], _ => rfl
    have D5 : Df l.prog w K mg base 1 "weight_of" ["weights", "tie"] spWeightOf := .of g5 F5 (ok_weight_of F5) fun _ _ _ _ _ _ us hl => match us, hl with | [_, _], _ => rfl
    have D6 : Df l.prog w K mg base 1 "_law_deck" ["_law_script"] (spDeck K) := .of g6 F6 (ok_l_deck F6 M) fun _ _ _ _ _ _ us hl => match us, hl with | [_], _ => rfl
    have D7 : Df l.prog w K mg base 1 "_law_draw" ["_law_deck_here", "_law_many"] spDraw := .of g7 F7 (ok_l_draw F7) fun _ _ _ _ _ _ us hl => match us, hl with | [_, _], _ => rfl
    have D8 : Df l.prog w K mg base 2 "_law_web" ["_law_deck_here"] spWeb := .of g8 F8 (ok_l_web F8 M D7) fun _ _ _ _ _ _ us hl => match us, hl with | [_], _ => rfl
    have D9 : Df l.prog w K mg base 1 "_law_whole" ["_law_thing"] spWhole := .of g9 F9 (ok_l_whole F9 M) fun _ _ _ _ _ _ us hl => match us, hl with | [_], _ => rfl
    have D10 : Df l.prog w K mg base 2 "_law_weights" ["_law_deck_here", "_law_many"] spWeights := .of g10 F10 (ok_l_weights F10 M D7) fun _ _ _ _ _ _ us hl => match us, hl with | [_, _], _ => rfl
    have D11 : Df l.prog w K mg base 2 "_law_are" ["_law_thing", "_law_many"] spAre := .of g11 F11 (ok_l_are F11 M D9) fun _ _ _ _ _ _ us hl => match us, hl with | [_, _], _ => rfl
    have D12 : Df l.prog w K mg base 2 "_law_otherwise" ["_law_deck_here", "_law_weights_here"] spOtherwise := .of g12 F12 (ok_l_otherwise F12 M D7) fun _ _ _ _ _ _ us hl => match us, hl with | [_, _], _ => rfl
    have D13 : Df l.prog w K mg base 5 "_law_right" ["_law_web_here", "_law_thing"] (spRight Pt) := .of g13 F13 (ok_l_right F13 M D4 D11) fun _ _ _ _ _ _ us hl => match us, hl with | [_, _], _ => rfl
    exact ok_law F0 M D6 D8 D10 D12 D13 D5 D9 D4
end
end FF
open PySem PySem.W PyProof.Rows
set_option maxRecDepth 100000 in
set_option maxHeartbeats 0 in
theorem PySem.Challenge.cw_friendfoe_k02_weights_holds : PySem.Challenge.rw_friendfoe_k02_weights.Holds := by
  w_on; o_law; k_head; (case hw => w_witness2)
  k_fill
  refine FF.walk_tabs (l := PySem.Challenge.rw_friendfoe_k02_weights) (n := 63) (k := 6) (x := "_law_script") rfl (by decide) rfl ⟨rfl, by decide, by decide⟩ (fun w h Y => PySem.W.kIn_of Y) ?F
  case F =>
    intro w mg fa h KX G hmg tabs
    refine' FF.law_at KX G hmg (fun fy => tabs "is_weights" fy ?r) ?a1 ?a2 ?a3 ?a4 ?a5 ?a6 ?a7 ?a8 ?a9 ?a10 ?a11 ?a12 ?a13 ?a0 ?z1 ?z2 ?z3 ?z4 ?z5 ?z6 ?z7 ?z8 ?z9 ?z10
    (case r => rfl)
    (case a1 => refine' FF.at_mk ?p1 ?p2 ?p3 ?p4; (case p1 => k_is); (case p2 => k_is); (case p3 => k_is); (case p4 => k_is))
    (case a2 => refine' FF.at_mk ?p1 ?p2 ?p3 ?p4; (case p1 => k_is); (case p2 => k_is); (case p3 => k_is); (case p4 => k_is))
    (case a3 => refine' FF.at_mk ?p1 ?p2 ?p3 ?p4; (case p1 => k_is); (case p2 => k_is); (case p3 => k_is); (case p4 => k_is))
    (case a5 => refine' FF.at_mk ?p1 ?p2 ?p3 ?p4; (case p1 => k_is); (case p2 => k_is); (case p3 => k_is); (case p4 => k_is))
    (case a6 => refine' FF.at_mk ?p1 ?p2 ?p3 ?p4; (case p1 => k_is); (case p2 => k_is); (case p3 => k_is); (case p4 => k_is))
    (case a7 => refine' FF.at_mk ?p1 ?p2 ?p3 ?p4; (case p1 => k_is); (case p2 => k_is); (case p3 => k_is); (case p4 => k_is))
    (case a8 => refine' FF.at_mk ?p1 ?p2 ?p3 ?p4; (case p1 => k_is); (case p2 => k_is); (case p3 => k_is); (case p4 => k_is))
    (case a9 => refine' FF.at_mk ?p1 ?p2 ?p3 ?p4; (case p1 => k_is); (case p2 => k_is); (case p3 => k_is); (case p4 => k_is))
    (case a10 => refine' FF.at_mk ?p1 ?p2 ?p3 ?p4; (case p1 => k_is); (case p2 => k_is); (case p3 => k_is); (case p4 => k_is))
    (case a11 => refine' FF.at_mk ?p1 ?p2 ?p3 ?p4; (case p1 => k_is); (case p2 => k_is); (case p3 => k_is); (case p4 => k_is))
    (case a12 => refine' FF.at_mk ?p1 ?p2 ?p3 ?p4; (case p1 => k_is); (case p2 => k_is); (case p3 => k_is); (case p4 => k_is))
    (case a13 => refine' FF.at_mk ?p1 ?p2 ?p3 ?p4; (case p1 => k_is); (case p2 => k_is); (case p3 => k_is); (case p4 => k_is))
    (case a0 => refine' FF.at_mk ?p1 ?p2 ?p3 ?p4; (case p1 => k_is); (case p2 => k_is); (case p3 => k_is); (case p4 => k_is))
    (case a4 => refine' FF.atC_mk ?p1 ?p2 ?p3 ?p4 ?p5 ?p6 ?p7 ?p8 ?p9 ?p10 ?p11 ?p12 ?p13; (case p1 => k_is); (case p2 => k_is); (case p3 => k_is); (case p4 => k_is); (case p5 => k_is); (case p6 => rfl); (case p7 => rfl); (case p8 => rfl); (case p9 => rfl); (case p10 => rfl); (case p11 => rfl); (case p12 => decide); (case p13 => rfl))
    (case z1 => k_is)
    (case z2 => k_is)
    (case z3 => k_is)
    (case z4 => k_is)
    (case z5 => k_is)
    (case z6 => k_is)
    (case z7 => k_is)
    (case z8 => k_is)
    (case z9 => k_is)
    (case z10 => k_is)
