import PyProof.Rows.All
import Wide.All
import OpenK.AllK
import Wide.FinOn
import HandS.ForMost
import HandS.IsInst
import HandS.TupAny
import HandS.TupLe
import HandS.Wide
import HandS.Style
import HandS.SortInts
import HandS.Conv
import HandS.More
import HandS.EndTab
import HandS.EndOwn
import HandS.AnyAll
import HandS.GenOver
import HandS.Evl
import HandS.Walk
import HandS.NoneIn
import HandS.Zip
import HandS.DictComp
import HandS.SetFor
import KE.GoesEnum
import HandS.TupMul
import HandS.Strs
import KE.DataMinMax
import HandS.ForExc
import HandS.ExcIs
import PySem.Challenge.RW_friendfoe_k01_what_is_a_web
set_option Elab.async false
set_option linter.all false
set_option maxRecDepth 100000
namespace FF
open PySem PySem.Spec PyProof.Rows L2
/-! ### heaps: what is kept -/
/-- all that is tracked, but at d and c, is as it was -/
def Kp (d c : Addr) (H H' : Hp) : Prop := ∀ b o, b ≠ d → b ≠ c → H b = some o → H' b = some o
theorem Kp.refl {d c : Addr} {H : Hp} : Kp d c H H := fun _ _ _ _ h => h
theorem Kp.trans {d c : Addr} {H H1 H2 : Hp} (a : Kp d c H H1) (b : Kp d c H1 H2) : Kp d c H H2 := fun x o h1 h2 h => b x o h1 h2 (a x o h1 h2 h)
theorem Kp.at_d {d c : Addr} {H : Hp} {o : HO} : Kp d c H (upd H d o) := fun b u h1 _ h => by rw [upd_ne h1]; exact h
theorem Kp.at_c {d c : Addr} {H : Hp} {o : HO} : Kp d c H (upd H c o) := fun b u _ h2 h => by rw [upd_ne h2]; exact h
theorem Kp.new {d c p : Addr} {H : Hp} {o : HO} (hp : H p = none) : Kp d c H (upd H p o) := fun b u _ _ h => by rw [upd_ne (ne_of_none h hp)]; exact h
theorem same_new {H : Hp} {p : Addr} {o : HO} (h : H p = none) : Same H (upd H p o) := fun b x e => by
  rw [upd_ne (ne_of_none e h)]
  exact e
theorem Same.kp {d c : Addr} {H H' : Hp} (s : Same H H') : Kp d c H H' := fun b o _ _ h => s b o h
/-! ### defs as they are called -/
def Df (P : Program) (w : World) (K : PySem.W.Frag) (mg : Str → Option Value) (base : Heap) (k : Nat) (x : Str) (ps : List Str) (sp : Sp) : Prop :=
  ∃ (f : Addr) (fd : FuncData), FnOk P w K mg base CX0 k f fd ps sp ∧ mg x = some (.ref f) ∧ PySem.W.keepIn K (.ref f) = true ∧ Binds K fd ps []
/-- built-in names that the module has not taken -/
structure Free (mg : Str → Option Value) : Prop where
  len : mg "len" = none
  int : mg "int" = none
  bool : mg "bool" = none
  str : mg "str" = none
  list : mg "list" = none
  tuple : mg "tuple" = none
  range : mg "range" = none
  isinstance : mg "isinstance" = none
  sum : mg "sum" = none
/-! ### the deck -/
structure Deck (H : Hp) (d c : Addr) : Prop where
  ex : ∃ (cells : List Int) (st n : Int), H d = some (.lst [.ref c, .int st, .int n]) ∧ H c = some (.lst (cells.map V.int)) ∧ cells.length ≤ 63
theorem Deck.ne {H : Hp} {d c : Addr} (h : Deck H d c) : d ≠ c := by
  obtain ⟨cells, st, n, h1, h2, _⟩ := h
  intro e
  rw [e, h2] at h1
  have q := HO.lst.inj (Option.some.inj h1)
  cases cells with
  | nil => simp at q
  | cons x r => simp at q
theorem Deck.same {H H' : Hp} {d c : Addr} (h : Deck H d c) (s : Same H H') : Deck H' d c := by
  obtain ⟨cells, st, n, h1, h2, h3⟩ := h
  exact ⟨cells, st, n, s _ _ h1, s _ _ h2, h3⟩
theorem mod_rng {a m : Int} (h : 0 < m) : 0 ≤ a % m ∧ a % m < m := ⟨Int.emod_nonneg a (by omega), Int.emod_lt_of_pos a h⟩
/-- a draw below m: any number from 0 on, less than m -/
def spDraw : Sp := fun vs H Q _ => ∃ (d c : Addr) (m : Int), vs = [.ref d, .int m] ∧ Deck H d c ∧ 0 < m ∧ m.natAbs < 2 ^ 120 ∧
  ∀ v H', 0 ≤ v → v < m → Deck H' d c → Kp d c H H' → Q (.int v) H'
/-! ### a generator expression's own frame -/
/-- the context of a generator's turns: its frame cenv stands over the def's -/
abbrev gX (X : Cx) (s : Shared) (H : Hp) (A' : Around) (cenv : Env) (fp : List Addr) : Cx :=
  { X with A := A', s_0 := s, H_0 := H, env := cenv, outer := X.stack, stack := cenv :: X.stack, ex := fp, fn := fun _ => false, pn := [], xe := fun _ _ => False }
/-- what is asked of the expression's own scope -/
structure GnOk (scope : Scope) : Prop where
  co : scope.isCoroutine = false
  nocell : ∀ y ∈ scope.names, y.2 ≠ .cell
  dot : scope.names.lookup (".0" : Str) = some NameKind.local
section
variable {X : Cx} {pins : List (Addr × Obj)} {σ : L2.St} {H : Hp} {s : Shared}
theorem gen_start {scope : Scope} {own : List (Str × Nat)} {fp : List Addr} {A' : Around} {code : Value} {m0 : Str → Option Value} {h5 : Heap} {g5 : Array GenState} {t5 : Nat} {a : Addr} {go : Obj}
    (I : Inv X pins σ H s) (ok : BlkOk X.N X.env.scope scope own) (gk : GnOk scope) (hN : X.N.Nodup) (hfp : ∀ b ∈ fp, FpOk X pins H b ∧ b < s.heap.objs.size)
    (hA : A'.handled = none) (hF : A'.frames = some (genEnv scope (cloFrom X.env.cells scope.names []) s.heap.objs.size code builtinsNs X.env :: X.stack))
    (kp : ∀ b o, s.heap.get? b = some o → h5.get? b = some o) (hn : h5.Ns s.heap.objs.size m0) (hm0 : ∀ x, x ≠ (".0" : Str) → m0 x = none) (hdN : (".0" : Str) ∉ X.N) (hb5 : AllBare g5)
    (ha : s.heap.objs.size < a) (hgo : h5.get? a = some go) (hgd : ∀ v, go.data ≠ .cell v) :
    Inv (gX X s H A' (genEnv scope (cloFrom X.env.cells scope.names []) s.heap.objs.size code builtinsNs X.env) fp) [(a, go)] (wipe σ (own.map (·.2))) H { s with heap := h5, gens := g5, toks := t5 } := by
  have hfree : ∀ y ∈ scope.names, y.2 = .free → ∃ c, X.env.cells.lookup y.1 = some c := fun y hy e =>
    (ok.free y hy e).elim (fun k => I.ok.has _ (.inl k)) fun k => I.ok.has _ (.inr k)
  have cm : ∀ {y c}, (y, c) ∈ cloFrom X.env.cells scope.names [] → X.env.cells.lookup y = some c ∧ c < s.heap.objs.size := fun {y c} q => by
    rcases cloFrom_mem q with q | ⟨h1, e1⟩
    · cases q
    · obtain ⟨c1, hc1⟩ := hfree _ h1 rfl
      rw [hc1] at e1
      cases e1
      obtain ⟨w1, z1⟩ := I.cell _ _ hc1
      exact ⟨hc1, z1.lt⟩
  have cl : ∀ {y c}, (cloFrom X.env.cells scope.names []).lookup y = some c → X.env.cells.lookup y = some c ∧ c < s.heap.objs.size := fun {y c} e => cm (PySem.mem_of_lookup e)
  have look : ∀ {y}, scope.names.lookup y = some .free → ∃ c, (cloFrom X.env.cells scope.names []).lookup y = some c := fun {y} e =>
    mem_lookup (cloFrom_has (cells := X.env.cells) (acc := []) (PySem.mem_of_lookup e))
  generalize hce : genEnv scope (cloFrom X.env.cells scope.names []) s.heap.objs.size code builtinsNs X.env = ce at hF
  have cL : ce.locals = s.heap.objs.size := by rw [← hce]; rfl
  have cC : ce.cells = cloFrom X.env.cells scope.names [] := by rw [← hce]; rfl
  have cS : ce.scope = scope := by rw [← hce]; rfl
  have cF : ce.frame = some ce.locals := by rw [← hce]; rfl
  have okG : (gX X s H A' ce fp).Ok := by
    refine ⟨I.ok.mod, ?_, ?_, ?_, ?_, fun y z c e1 e2 => ?_, fun y hy => ?_, fun y c z e => ?_, fun _ => hA, hF, .inr ⟨rfl, cF⟩, fun b hb => ⟨?_, fun y c e z => ?_⟩, I.bs, Nat.le_trans I.ok.bsz I.sz, fun b o e hb => ?_, fun b hb z => ?_, I.stack, I.stkFree⟩
    · show ce.scope.kind = _
      rw [cS]
      exact ok.kind
    · show ce.globals = _
      rw [← hce]
      exact I.ok.glob
    · show ce.builtins = _
      rw [← hce]
      rfl
    · show s.heap.objs.size ≤ ce.locals
      rw [cL]
      exact Nat.le_refl _
    · have e1 : ce.cells.lookup y = some c := e1
      have e2 : ce.cells.lookup z = some c := e2
      rw [cC] at e1 e2
      exact I.ok.inj y z c (cl e1).1 (cl e2).1
    · show ∃ c, ce.cells.lookup y = some c
      rw [cC]
      have hy : scope.names.lookup y = some .cell ∨ scope.names.lookup y = some .free := by
        have hy' : ce.scope.names.lookup y = some .cell ∨ ce.scope.names.lookup y = some .free := hy
        rw [cS] at hy'
        exact hy'
      rcases hy with k | k
      · exact absurd rfl (gk.nocell _ (PySem.mem_of_lookup k))
      · exact look k
    · exact absurd (show false = true from z) Bool.false_ne_true
    · show b ≠ ce.locals
      rw [cL]
      exact Nat.ne_of_lt (hfp b hb).2
    · have e : ce.cells.lookup y = some c := e
      rw [cC] at e
      exact (hfp b hb).1.2.2.2.2.1 y c (cl e).1 z
    · rcases (hfp b hb).1.2.2.2.1 with q | q
      · exact I.ok.noex b o e q
      · exact absurd (Nat.lt_of_lt_of_le (Heap.lt_size e) (Nat.le_trans I.ok.bsz q)) (Nat.lt_irrefl _)
    · rcases List.mem_cons.mp (I.stkSub b z) with q | q
      · exact (hfp b hb).1.2.1 q
      · exact (hfp b hb).1.2.2.1 q
  refine ⟨okG, rfl, hb5, Un.kept kp, ⟨m0, ?_, fun i y av e1 e2 e3 => ?_⟩, fun y c e => ?_, ?_, fun y c e => ?_, fun p hp => ?_, I.hok.kept kp, by rw [wipe_length]; exact I.len⟩
  · show Heap.Ns _ ce.locals _
    rw [cL]
    exact hn
  · obtain ⟨e2, hne⟩ := wipe_some e2
    have e3 : Vis ce.scope y := e3
    rw [cS] at e3
    have hfr : scope.names.lookup y = some .free := by
      have no : ∀ k, scope.names.lookup y = some k → ¬ (k = .local ∨ k = .cell) := fun k hk hh => by
        rcases ok.own _ (PySem.mem_of_lookup hk) hh with q | q
        · obtain ⟨p, hp, hpy⟩ := List.mem_map.mp q
          have e4 := ok.ix p hp
          have hpy : p.1 = y := hpy
          rw [hpy] at e4
          exact hne (List.mem_map.mpr ⟨p, hp, nodup_ix hN e4 e1⟩)
        · exact q (List.mem_of_getElem? e1)
      rcases e3 with e3 | e3 | e3
      · exact absurd (.inl rfl) (no _ e3)
      · exact absurd (.inr rfl) (no _ e3)
      · exact e3
    obtain ⟨m, _, hl⟩ := I.loc
    have hvis : Vis X.env.scope y := (ok.free _ (PySem.mem_of_lookup hfr) rfl).elim (fun k => .inr (.inl k)) fun k => .inr (.inr k)
    obtain ⟨w1, r1, q1⟩ := hl i y av e1 e2 hvis
    obtain ⟨c, hc⟩ := look hfr
    refine ⟨w1, r1, .inr ⟨.inr (by show ce.scope.names.lookup y = _; rw [cS]; exact hfr), c, by show ce.cells.lookup y = _; rw [cC]; exact hc, ?_⟩⟩
    rcases q1 with ⟨k, _⟩ | ⟨_, c', e', z⟩
    · have k : X.env.scope.names.lookup y = some .local := k
      rcases ok.free _ (PySem.mem_of_lookup hfr) rfl with k' | k' <;> (have k' : X.env.scope.names.lookup y = _ := k'; rw [k'] at k; cases k)
    · rw [(cl hc).1] at e'
      cases e'
      exact z.keeps kp
  · have e : ce.cells.lookup y = some c := e
    rw [cC] at e
    obtain ⟨w1, z1⟩ := I.cell y c (cl e).1
    exact ⟨w1, z1.keeps kp⟩
  · show H ce.locals = none
    rw [cL]
    exact I.hok.fresh (Nat.le_refl _)
  · have e : ce.cells.lookup y = some c := e
    rw [cC] at e
    exact I.freeC y c (cl e).1
  · have hp : p = (a, go) := by simpa using hp
    subst hp
    refine ⟨hgo, I.hok.fresh (Nat.le_of_lt ha), ?_, fun z => ?_, hgd⟩
    · show a ≠ ce.locals
      rw [cL]
      exact Nat.ne_of_gt ha
    · have z : a ∈ frs X.stack := z
      obtain ⟨_, o, ho, _⟩ := I.stack.mem z
      exact absurd (Nat.lt_trans (Heap.lt_size ho) ha) (Nat.lt_irrefl _)
end
/-! ### all(..), any(..) of a generator, told by what each turn does -/
/-- between a yield and the next turn -/
structure Rs (s s' : Shared) : Prop where
  heap : s'.heap = s.heap
  os : s'.os = s.os
  bare : AllBare s'.gens
  size : s.gens.size ≤ s'.gens.size
theorem inv_gens {X : Cx} {pins : List (Addr × Obj)} {σ : L2.St} {H : Hp} {s s' : Shared} (I : Inv X pins σ H s) (h1 : s'.heap = s.heap) (h2 : s'.os = s.os) (h3 : AllBare s'.gens) : Inv X pins σ H s' := by
  obtain ⟨hh, g, d, t, o⟩ := s'
  have e1 : hh = s.heap := h1
  have e2 : o = s.os := h2
  subst e1 e2
  exact ⟨I.ok, I.os, h3, I.base, I.loc, I.cell, I.free, I.freeC, I.pin, I.hok, I.len⟩
theorem Rs.inv {X : Cx} {pins : List (Addr × Obj)} {σ : L2.St} {H : Hp} {s s' : Shared} (r : Rs s s') (I : Inv X pins σ H s) : Inv X pins σ H s' := by
  obtain ⟨h1, h2, h3, _⟩ := r
  obtain ⟨hh, g, d, t, o⟩ := s'
  have e1 : hh = s.heap := h1
  have e2 : o = s.os := h2
  subst e1 e2
  exact ⟨I.ok, I.os, h3, I.base, I.loc, I.cell, I.free, I.freeC, I.pin, I.hok, I.len⟩
theorem bare_set {gens : Array GenState} (h : AllBare gens) {g : Nat} {x : GenState} (hx : x.bare = true) : AllBare (gens.setIfInBounds g x) := fun y hy => by
  obtain ⟨i, hi, rfl⟩ := Array.mem_iff_getElem.mp hy
  rw [Array.size_setIfInBounds] at hi
  rw [Array.getElem_setIfInBounds hi]
  split
  · exact hx
  · exact h _ (Array.getElem_mem hi)
theorem Rs.set {s : Shared} (hb : AllBare s.gens) {g : Nat} {x : GenState} (hx : x.bare = true) : Rs s (s.setGen g x) :=
  ⟨rfl, rfl, bare_set hb hx, Nat.le_of_eq (GenW.setGen_size s g x).symm⟩
theorem Rs.trans {s s1 s2 : Shared} (a : Rs s s1) (b : Rs s1 s2) : Rs s s2 := ⟨b.heap.trans a.heap, b.os.trans a.os, b.bare, Nat.le_trans a.size b.size⟩
/-- the protocol of a generator whose items are truths: T b: what holds where b comes out -/
def gY (gi : Nat) (a : Addr) (stop : Bool) (Fin : Shared → Prop) : Protocol := fun n s₀ v s kap =>
  ∃ b, v = .bool b ∧ s.heap.IsGen a gi ∧ s.heap.NoLimit ∧ AllBare s.gens ∧ gi < s.gens.size ∧ (b = stop → Fin s) ∧ (b ≠ stop → ∀ s', Rs s s' → kap (.send .none) s')
def gR (End : Shared → Prop) : Nat → Shared → Shared → Prop := fun _ _ s => AllBare s.gens ∧ End s
/-- the generator waits -/
def Waits (prog : Program) (w : World) (A : Around) (gi : Nat) (a : Addr) (stop : Bool) (End Fin : Shared → Prop) (n : Nat) (s : Shared) : Prop :=
  s.heap.IsGen a gi ∧ s.heap.NoLimit ∧ AllBare s.gens ∧ ∃ gs, s.gens[gi]? = some gs ∧
    ∀ s', Rs s s' → gs.Goes (model prog w) A.in1 (fun n s₀ r s₁ => r = .ok .next ∧ gR End n s₀ s₁) (gY gi a stop Fin) n (.send .none) s'
section
variable {prog : Program} {w : World} {A : Around} {gi : Nat} {a : Addr} {stop : Bool} {End Fin : Shared → Prop}
theorem waits_next {n : Nat} {s : Shared} {Q : Option Value → Shared → Prop} {E : Value → Shared → Prop} (hh : A.handled = none) (hroom : A.depth < recursionLimit)
    (hE : ∀ s s' : Shared, End s → s'.os = s.os → AllBare s'.gens → (∀ b o, s.heap.get? b = some o → s'.heap.get? b = some o) → End s')
    (hF : ∀ s s' : Shared, Fin s → s'.os = s.os → AllBare s'.gens → (∀ b o, s.heap.get? b = some o → s'.heap.get? b = some o) → Fin s')
    (W : Waits prog w A gi a stop End Fin n s) (hN : ∀ s', End s' → Q none s') (hS : ∀ s', Fin s' → Q (some (.bool stop)) s')
    (hG : ∀ s' m, m < n → Waits prog w A gi a stop End Fin m s' → Q (some (.bool (!stop))) s') : wpAny (model prog w) A (pyNext (.ref a)) Q E s := by
  obtain ⟨hg, hl, hb, gs, hgs, hgo⟩ := W
  refine wpAny_pyNext_genexpQ (P := gR End) (Y := gY gi a stop Fin) hh hl hroom hg hgs (hgo _ (Rs.set hb rfl)) (fun v s₁ gs' hb' hv => ?_) fun s₁ hp h' hk => ?_
  · obtain ⟨b, rfl, g1, l1, b1, z1, f1, k1⟩ := hv
    by_cases e : b = stop
    · subst e
      exact hS _ (hF _ _ (f1 rfl) rfl (bare_set b1 hb') fun _ _ q => q)
    · have eb : b = !stop := by cases b <;> cases stop <;> first | rfl | exact absurd rfl e
      subst eb
      cases n with
      | zero => exact False.elim (k1 e s₁ ⟨rfl, rfl, b1, Nat.le_refl _⟩)
      | succ m =>
        refine hG _ m (Nat.lt_succ_self m) ⟨g1, l1, bare_set b1 hb', gs', ?_, fun s' r => k1 e s' ((Rs.set b1 hb').trans r)⟩
        show (s₁.gens.setIfInBounds gi gs')[gi]? = some gs'
        rw [Array.getElem?_setIfInBounds_self_of_lt z1]
  · obtain ⟨b1, e1⟩ := hp
    exact hN _ (hE _ _ e1 rfl (bare_set b1 rfl) fun b o q => hk b o q)
end
section
variable {prog : Program} {w : World} {A : Around} {gi : Nat} {a : Addr} {End Fin : Shared → Prop}
theorem all_loop (hh : A.handled = none) (hroom : A.depth < recursionLimit)
    (hE : ∀ s s' : Shared, End s → s'.os = s.os → AllBare s'.gens → (∀ b o, s.heap.get? b = some o → s'.heap.get? b = some o) → End s')
    (hF : ∀ s s' : Shared, Fin s → s'.os = s.os → AllBare s'.gens → (∀ b o, s.heap.get? b = some o → s'.heap.get? b = some o) → Fin s') :
    ∀ (n : Nat) (s : Shared), Waits prog w A.in1 gi a false End Fin n s →
      codeAny (model prog w) A (.builtin "all.loop" ⟨[.ref a], []⟩) (fun r s' => (r = .ok (.ret (.bool true)) ∧ End s') ∨ (r = .ok (.ret (.bool false)) ∧ Fin s')) s := by
  intro n
  induction n using Nat.strongRecOn with
  | ind n ih =>
    intro s W
    refine codeAny_builtin PySem.F.entry_all_loop ?_
    rw [Around.under_plainId PySem.F.plain_all_loop]
    show wpAny (model prog w) A.in1 (pyNext (.ref a) >>= _) _ _ s
    refine wpAny_bind (waits_next (A := A.in1) hh hroom hE hF W (fun s' e => ?_) (fun s' e => ?_) fun s' m hm W' => ?_)
    · exact wpAny_bind (wpAny_rule (wpAny_pure (.inl ⟨rfl, e⟩)))
    · refine wpAny_bind (wpAny_holding (wpAny_truthy_bool ?_))
      refine wpAny_bind (wpAny_letGo ?_)
      exact wpAny_bind (wpAny_rule (wpAny_pure (.inr ⟨rfl, e⟩)))
    · refine wpAny_bind (wpAny_holding (wpAny_truthy_bool ?_))
      refine wpAny_bind (wpAny_letGo ?_)
      exact wpAny_pure ⟨plainId_quiet PySem.F.plain_all_loop _, ih m hm s' W'⟩
end
/-! ### all(elt for target in iter) -/
/-- the reading: W by the turn and a measure; P: the def's table, which may grow -/
def tAll (P : Addr) (wi : TI) (g : TG) (te : TE) (vs : List Nat) : TE := fun σ H Q => wi σ H fun J H1 => GxR.TabG H1 P ∧ ∃ W : Nat → Nat → Hp → Prop, (∀ H2, GxR.Tabbed P H1 H2 → ∃ m, W 0 m H2) ∧ ∀ i m H, W i m H →
  (J.stop i H ∧ Q (.bl true) H) ∨ (J.go i H ∧ ∃ Nx : Hp → Prop, (∀ H', Nx H' → ∃ m', m' < m ∧ W (i + 1) m' H') ∧ ∀ x H', J.yld i H x H' → g x (wipe σ vs) H' fun σ2 H2 => wipe σ2 vs = wipe σ vs ∧
    te σ2 H2 fun y H3 => ∃ b, y = .bl b ∧ if b = true then Nx H3 else Q (.bl false) H3)
section
variable {X : Cx}
theorem pe_all {k : Nat} {c P : Addr} {elt tg iter : Expr} {scope : Scope} {own : List (Str × Nat)} {p pos gpos : Pos} {wi : TI} {g : TG} {te : TE}
    (hr : Room (k + 1) X.A) (TB : GxR.TabB X.base X.mg c P) (hcode : X.env.code = .ref c) (hc : X.calm = true) (hN : X.N.Nodup) (hG : Gl X "all") (hM : X.mg "all" = none) (hi : PI X tg iter wi) (ok : BlkOk X.N X.env.scope scope own) (gk : GnOk scope) (hdN : (".0" : Str) ∉ X.N)
    (hg : ∀ (s : Shared) (H : Hp) (A' : Around) (C : Addr) (cl : List (Str × Addr)) (code : Value) (fp : List Addr), PG (gX X s H A' (genEnv scope cl C code builtinsNs X.env) fp) tg g)
    (he : ∀ (s : Shared) (H : Hp) (A' : Around) (C : Addr) (cl : List (Str × Addr)) (code : Value) (fp : List Addr), Room k A' → PE (gX X s H A' (genEnv scope cl C code builtinsNs X.env) fp) elt te)
    (hs : ∀ v, genFold iter X.env v = pure v := by intro _; rfl)
    (hst : starEach [.GeneratorExp elt [⟨tg, iter, [], 0⟩] scope gpos] X.env = (false, eval (.GeneratorExp elt [⟨tg, iter, [], 0⟩] scope gpos) X.env) :: starEach [] X.env := by rfl) :
    PE X (.Call (.Name "all" p) [.GeneratorExp elt [⟨tg, iter, [], 0⟩] scope gpos] [] pos) (tAll P wi g te (own.map (·.2))) := by
  refine ⟨fun pins s σ H Q I h => ?_⟩
  have hh : X.A.handled = none := hr.hd
  refine wpAny_Call_Name_kw (ld_blt I hG hM PyProof.Rows.boot_all ?_)
  refine PyProof.Rows.callWith_builtin1 ?_ hst (by rfl)
  rw [hst]
  show wpAny _ _ (spliced ((false, eval (.GeneratorExp elt [⟨tg, iter, [], 0⟩] scope gpos) X.env) :: backTo pos (starEach [] X.env))) _ _ s
  have hfree : ∀ y ∈ scope.names, y.2 = .free → ∃ c, X.env.cells.lookup y.1 = some c := fun y hy e =>
    (ok.free y hy e).elim (fun k => I.ok.has _ (.inl k)) fun k => I.ok.has _ (.inr k)
  refine Calls.spliced_cons (wpAny_GeneratorExp_make gk.co (closure_ok hfree) gk.nocell gk.dot ok.kind (by have := hr.dp; omega) (thn (hi.run pins s σ H _ I h) fun xv s1 hx => thn hx fun itv s2 h2 => ?_) hs)
  obtain ⟨it, fp, tn, J, H2, e, I2, T, st2, f2, ⟨ps, hP, ht⟩, W, w0, turn⟩ := h2
  subst e
  refine ⟨I2.nolimit, ?_⟩
  have hPs : s2.heap.get? P = some { cls := .none, data := .fields ps } := I2.hok P _ hP
  have cd : PySem.W.CodeHd s2.heap c P := TB.code.keeps fun b u e => I2.bk b u e
  have sz2 : ∀ b ∈ fp, b < s2.heap.objs.size := fun b hb => by
    obtain ⟨o, e, _⟩ := T.obj _ _ st2 b hb
    exact Heap.lt_size e
  have nfP : ∀ b ∈ fp, b ≠ P := fun b hb z => by
    have q := (f2 b hb).1
    rw [z, hP] at q
    cases q
  -- behind the table
  have cont : ∀ (code : Value) (h3 : Heap) (tk : Nat) (more : Array Value), s2.heap.objs.size ≤ h3.objs.size → (∀ b o, b ≠ P → s2.heap.get? b = some o → h3.get? b = some o) → h3.get? P = some { cls := .none, data := .fields (ps ++ more) } → TriplesOk (ps ++ more).toList →
      wpAny (model X.prog X.w) X.A (builtinsFor X.env.globals X.env.builtins) (fun bi s4 => ∀ h', h'.Ns s4.heap.objs.size (fun y => if y = ".0" then some (.ref it) else none) → Heap.SameBut s4.heap.objs.size (s4.heap.push { cls := .type "frame", data := .dict #[] }) h' →
        wpAny (model X.prog X.w) X.A (spliced (backTo pos (starEach [] X.env))) (fun vs s5 => wpAny (model X.prog X.w) X.A (call (.builtin "all") (.ref h'.objs.size :: vs)) (EP X pins σ Q) X.xe s5) X.xe { s4 with
            gens := s4.gens.push (.fresh (.compStart (.GeneratorExp elt [⟨tg, iter, [], 0⟩] scope gpos) 0 (.ref it) .none (genEnv scope (cloFrom X.env.cells scope.names []) s4.heap.objs.size code bi X.env))), toks := s4.toks + 1 + 1 + 1,
            heap := h'.push { cls := .type "generator", data := .fields #[.int s4.gens.size 0, .str "<genexpr>" (s4.toks + 1), .str (X.env.qual ++ "<genexpr>") (s4.toks + 1 + 1)] } }) X.xe { s2 with heap := h3, toks := tk } := by
    intro code h3 tk more hle3 hk3 hP3 ht3
    have I3 : Inv X pins σ (upd H2 P (.tbl (ps ++ more))) { s2 with heap := h3, gens := s2.gens, drawn := s2.drawn, toks := tk } := GxR.inv_tab I2 hP hk3 hP3 I2.bare
    have tab3 : GxR.Tabbed P H2 (upd H2 P (.tbl (ps ++ more))) := ⟨⟨_, upd_same, ht3⟩, fun b hb => upd_ne hb⟩
    have st3 : tn 0 h3 := T.keep _ _ _ st2 fun b hb o e => hk3 b o (nfP b hb) e
    have f3 : ∀ b ∈ fp, FpOk X pins (upd H2 P (.tbl (ps ++ more))) b := fun b hb => ⟨by rw [upd_ne (nfP b hb)]; exact (f2 b hb).1, (f2 b hb).2⟩
    generalize upd H2 P (.tbl (ps ++ more)) = H3 at I3 tab3 f3
    obtain ⟨m0, hw0⟩ := w0 H3 tab3
    have sz3 : ∀ b ∈ fp, b < h3.objs.size := fun b hb => Nat.lt_of_lt_of_le (sz2 b hb) hle3
    have hs3 : ({ s2 with heap := h3, gens := s2.gens, drawn := s2.drawn, toks := tk } : Shared) = { s2 with heap := h3, toks := tk } := rfl
    rw [hs3] at I3
    generalize hsh : ({ s2 with heap := h3, toks := tk } : Shared) = s3 at I3 ⊢
    have eh : h3 = s3.heap := by rw [← hsh]
    rw [eh] at st3 sz3
    clear hsh hs3 eh hP3 hk3 hle3
    obtain ⟨bm, ob, e1, e2, e3, e4, e5, e6, e7, e8⟩ := TB.bm
    refine wpAny_builtinsFor (m := X.mg) (by rw [I3.ok.glob]; exact I3.mod.glob.keeps I3.bk) e1 e2 (I3.bk _ _ e5) e6 e7 e8 ?_
    intro h' hn' hs'
    refine Calls.spliced_nil ?_
    have hsz : h'.objs.size = s3.heap.objs.size + 1 := by rw [hs'.1, Heap.size_push]
    generalize hgo : ({ cls := .type "generator", data := .fields #[.int s3.gens.size 0, .str "<genexpr>" (s3.toks + 1), .str (X.env.qual ++ "<genexpr>") (s3.toks + 1 + 1)] } : Obj) = go
    have kp5 : ∀ b o, s3.heap.get? b = some o → (h'.push go).get? b = some o := fun b o e => Heap.get?_push_of_some _ (hs'.extBut b o (Nat.ne_of_lt (Heap.lt_size e)) (Heap.get?_push_of_some _ e))
    generalize hce : genEnv scope (cloFrom X.env.cells scope.names []) s3.heap.objs.size code builtinsNs X.env = ce
    have hhA : (X.A.in1.in1.over (.compLoop (.GeneratorExp elt [⟨tg, iter, [], 0⟩] scope gpos) 0 (.ref it) .none ce) []).handled = none := hh
    have hFr : (X.A.in1.in1.over (.compLoop (.GeneratorExp elt [⟨tg, iter, [], 0⟩] scope gpos) 0 (.ref it) .none ce) []).frames = some (ce :: X.stack) := by
      show pushEnvs [ce] (pushEnvs [] X.A.frames) = _
      rw [I3.ok.frames]
      rfl
    have hRm : Room k (X.A.in1.in1.over (.compLoop (.GeneratorExp elt [⟨tg, iter, [], 0⟩] scope gpos) 0 (.ref it) .none ce) []) := by
      have z1 := hr.dp
      have z2 := hr.un
      refine ⟨hhA, ?_, ?_⟩
      · show X.A.depth + 0 + 1 + 3 * k + 5 < recursionLimit
        omega
      · show X.A.units + 1 + 1 + 0 + 3 + 16 * k + 200 < cLine
        omega
    generalize hAg : X.A.in1.in1.over (.compLoop (.GeneratorExp elt [⟨tg, iter, [], 0⟩] scope gpos) 0 (.ref it) .none ce) [] = Ag at hhA hFr hRm
    have I5 : Inv (gX X s3 H3 Ag ce fp) [(h'.objs.size, go)] (wipe σ (own.map (·.2))) H3 { s3 with heap := h'.push go, gens := s3.gens.push (.fresh (.compStart (.GeneratorExp elt [⟨tg, iter, [], 0⟩] scope gpos) 0 (.ref it) .none ce)), toks := s3.toks + 1 + 1 + 1 } := by
      have q := gen_start (code := code) (A' := Ag) (h5 := h'.push go) (g5 := s3.gens.push (.fresh (.compStart (.GeneratorExp elt [⟨tg, iter, [], 0⟩] scope gpos) 0 (.ref it) .none ce))) (t5 := s3.toks + 1 + 1 + 1) (go := go) I3 ok gk hN (fun b hb => ⟨f3 b hb, sz3 b hb⟩) hhA (by rw [hce]; exact hFr) kp5 (hn'.push _)
        (fun x hx => if_neg hx) hdN (I3.bare.push rfl) (a := h'.objs.size) (by omega) (Heap.get?_push_size _ (by rw [← hgo]; rfl)) (by rw [← hgo]; intro v z; cases z)
      rw [hce] at q
      exact q
    have st5 : tn 0 (h'.push go) := T.keep _ _ _ st3 fun b _ o e => kp5 b o e
    have nfp : ∀ b ∈ fp, H3 b = none := fun b hb => (f3 b hb).1
    have pg := hg s3 H3 Ag s3.heap.objs.size (cloFrom X.env.cells scope.names []) code fp
    have pe := he s3 H3 Ag s3.heap.objs.size (cloFrom X.env.cells scope.names []) code fp hRm
    rw [hce] at pg pe
    have cCo : ce.scope.isCoroutine = false := by rw [← hce]; exact gk.co
    clear hn' hs' kp5 w0 hce
    -- back in the def's context
    have back : ∀ {σ' : L2.St} {H' : Hp} {s' : Shared} {pl : List (Addr × Obj)}, Inv (gX X s3 H3 Ag ce fp) pl σ' H' s' → Inv X pins σ H' s' := fun {σ' H' s' pl} J => I3.call' (ch := fp) J.os J.base J.hok J.bare fun b hb =>
      ⟨(f3 b hb).2.2.2.1, (f3 b hb).2.1, (f3 b hb).2.2.2.2.1, (f3 b hb).2.2.2.2.2⟩
    have stat : ∀ {σ' : L2.St} {H' : Hp} {s' : Shared}, Inv (gX X s3 H3 Ag ce fp) [(h'.objs.size, go)] σ' H' s' → (∀ b ∈ fp, H' b = none) → ∀ b ∈ fp, FpOk (gX X s3 H3 Ag ce fp) [(h'.objs.size, go)] H' b := fun {σ' H' s'} J hn b hb =>
      ⟨hn b hb, (J.ok.exf b hb).1, J.ok.exfs b hb, .inl hb, fun x c e => (J.ok.exf b hb).2 x c e, fun p hp => by
        have hp : p = (h'.objs.size, go) := by simpa using hp
        rw [hp]
        exact Nat.ne_of_gt (Nat.lt_trans (sz3 b hb) (by rw [hsz]; exact Nat.lt_succ_self _))⟩
    have gen : ∀ {σ' : L2.St} {H' : Hp} {s' : Shared} {pl : List (Addr × Obj)}, Inv (gX X s3 H3 Ag ce fp) ([(h'.objs.size, go)] ++ pl) σ' H' s' → s'.heap.IsGen h'.objs.size s3.gens.size := fun {σ' H' s' pl} J => by
      have q := (J.pin (h'.objs.size, go) (by simp)).1
      exact ⟨go, _, _, q, by rw [← hgo], by rw [← hgo], by rw [← hgo]⟩
    -- the turns
    have loop : ∀ (m n i : Nat) (s₀ s : Shared) (H : Hp), m < n → W i m H → Inv (gX X s3 H3 Ag ce fp) [(h'.objs.size, go)] (wipe σ (own.map (·.2))) H s → tn i s.heap → (∀ b ∈ fp, H b = none) → s3.gens.size + 1 ≤ s.gens.size →
        Seg (model X.prog X.w) X.A.in1.in1 (fun n s₀ r s₁ => r = .ok .next ∧ gR (fun s => ∃ H', Inv X pins σ H' s ∧ Q (.bl true) H') n s₀ s₁) (gY s3.gens.size h'.objs.size false fun s => ∃ H', Inv X pins σ H' s ∧ Q (.bl false) H') n s₀
          (.compLoop (.GeneratorExp elt [⟨tg, iter, [], 0⟩] scope gpos) 0 (.ref it) .none ce) ((model X.prog X.w).den (.compLoop (.GeneratorExp elt [⟨tg, iter, [], 0⟩] scope gpos) 0 (.ref it) .none ce)) [] s := by
      intro m
      induction m using Nat.strongRecOn with
      | ind m ih =>
        intro n i s₀ s H hmn w J st nf hz
        show Seg (model X.prog X.w) _ _ _ n s₀ _ ((compTurn (.GeneratorExp elt [⟨tg, iter, [], 0⟩] scope gpos) 0 (.ref it) .none ce).onRaise (leaving ce)) [] s
        rw [compTurn_gen]
        rw [Sem.onRaise_eq_wrap]
        refine seg_bind_wrap (wpAny_standAt (seg_bind_wrap ?_))
        rw [hAg]
        rcases turn i m H w with ⟨stp, qq⟩ | ⟨go', Nx, hNx, step⟩
        · refine thnF (T.done (gX X s3 H3 Ag ce fp) rfl rfl rfl hc i _ s _ H (fun _ _ => False) J (stat J nf) st stp) fun r s6 ⟨hr6, J6⟩ => ?_
          subst hr6
          exact seg_end (.ok .next) ⟨rfl, J6.bare, H, back J6, qq⟩
        · refine GenW.wpAny_gsz hz (thnF (T.item (gX X s3 H3 Ag ce fp) rfl rfl rfl hc i _ s _ H (fun _ _ => False) J (stat J nf) st go') fun r s6 ⟨u, hr6, h6⟩ hz6 => ?_)
          subst hr6
          refine seg_bind_wrap ?_
          rw [hAg]
          refine GenW.wpAny_gsz hz6 (thnF h6 fun _ s7 ⟨x, H7, J7, r7, y7, st7, n7⟩ hz7 => ?_)
          have J7' := J7.pinned (stat J7 n7) (T.obj _ _ st7)
          refine seg_bind_wrap ?_
          rw [hAg]
          refine GenW.wpAny_gsz hz7 (thnF (pg.run _ s7 _ H7 x u _ J7' r7 (step x H7 y7)) fun _ s8 ⟨σ8, H8, J8, hw8, q8⟩ hz8 => ?_)
          simp only [List.forIn_nil]
          refine seg_bind_wrap (wpAny_pure ?_)
          simp only [if_true]
          have hy : ∀ v, yieldOut ce v = yieldValue v := fun v => by simp only [yieldOut, cCo, Bool.false_eq_true, if_false]
          simp only [hy]
          rw [Sem.bind_eq_wrap', Sem.bind_eq_wrap']
          rw [Sem.wrap_wrap, Sem.wrap_wrap]
          refine seg_wrap ?_
          rw [hAg]
          refine GenW.wpAny_gsz hz8 (thnF (pe.run _ s8 σ8 H8 _ J8 q8) fun z s9 ⟨yv, H9, J9, r9, b, eb, qb⟩ hz9 => ?_)
          subst eb
          obtain rfl : z = Value.bool b := r9
          obtain ⟨n', rfl⟩ : ∃ n', n = n' + 1 := ⟨n - 1, by omega⟩
          refine seg_at (seg_yield rfl rfl rfl ⟨b, rfl, gen J9, J9.nolimit, J9.bare, hz9, fun e => ?_, fun e s' r => ?_⟩)
          · subst e
            exact ⟨H9, back J9, qb⟩
          · have e : b = true := by
              cases b with
              | true => rfl
              | false => exact absurd rfl e
            subst e
            rw [if_pos rfl] at qb
            obtain ⟨m', hm', w'⟩ := hNx H9 qb
            have pin' : ∀ b ∈ fp, ∀ o, s7.heap.get? b = some o → s9.heap.get? b = some o ∧ H9 b = none := fun b hb o e =>
              let z := J9.pin (b, o) (List.mem_append_right _ (List.mem_append_right _ (mem_pinsAt hb e)))
              ⟨z.1, z.2.1⟩
            have hl : (wipe σ (own.map (·.2))).length = σ8.length := by rw [← hw8, wipe_length]
            have K9 : Inv (gX X s3 H3 Ag ce fp) [(h'.objs.size, go)] (wipe σ (own.map (·.2))) H9 s9 := J9.unpinned.weak hl fun j v e => by
              rw [← hw8] at e
              exact (wipe_some e).1
            refine seg_again rfl (ih m' hm' n' (i + 1) s' s' H9 (by omega) w' (r.inv K9) ?_ (fun b hb => ?_) (Nat.le_trans hz9 r.size))
            · rw [r.heap]
              exact T.keep _ _ _ st7 fun b hb o e => (pin' b hb o e).1
            · obtain ⟨o, e, _⟩ := T.obj _ _ st7 b hb
              exact (pin' b hb o e).2
    have mono : ∀ (b : Bool) (s s' : Shared), (∃ H', Inv X pins σ H' s ∧ Q (.bl b) H') → s'.os = s.os → AllBare s'.gens → (∀ b o, s.heap.get? b = some o → s'.heap.get? b = some o) → ∃ H', Inv X pins σ H' s' ∧ Q (.bl b) H' := fun b s s' ⟨H', J, q⟩ h1 h2 h3 =>
      ⟨H', inv_gens (J.kept (t' := s'.toks) h3) rfl h1 h2, q⟩
    generalize hs5 : ({ s3 with heap := h'.push go, gens := s3.gens.push (.fresh (.compStart (.GeneratorExp elt [⟨tg, iter, [], 0⟩] scope gpos) 0 (.ref it) .none ce)), toks := s3.toks + 1 + 1 + 1 } : Shared) = s5 at I5
    have hg5 : s5.gens[s3.gens.size]? = some (.fresh (.compStart (.GeneratorExp elt [⟨tg, iter, [], 0⟩] scope gpos) 0 (.ref it) .none ce)) := by
      rw [← hs5]
      exact Array.getElem?_push_size ..
    have hz5 : s3.gens.size + 1 ≤ s5.gens.size := by
      rw [← hs5]
      exact Nat.le_of_eq (Array.size_push ..).symm
    have ht5 : tn 0 s5.heap := by rw [← hs5]; exact st5
    have wt : Waits X.prog X.w X.A.in1 s3.gens.size h'.objs.size false (fun s => ∃ H', Inv X pins σ H' s ∧ Q (.bl true) H') (fun s => ∃ H', Inv X pins σ H' s ∧ Q (.bl false) H') (m0 + 1) s5 := by
      refine ⟨gen (pl := []) I5, I5.nolimit, I5.bare, _, hg5, fun s' r => ⟨rfl, ?_⟩⟩
      have lp := loop m0 (m0 + 1) 0 s' s' H3 (Nat.lt_succ_self _) hw0 (r.inv I5) (by rw [r.heap]; exact ht5) nfp (Nat.le_trans hz5 r.size)
      show Seg (model X.prog X.w) _ _ _ _ s' _ ((compStart (.GeneratorExp elt [⟨tg, iter, [], 0⟩] scope gpos) 0 (.ref it) .none ce).onRaise (leaving ce)) [] s'
      unfold compStart
      rw [Sem.onRaise_eq_wrap]
      show Seg (model X.prog X.w) _ _ _ _ s' _ ((ask >>= _).wrap _ _ _ _) [] s'
      refine seg_bind_wrap (wpAny_askSetting ?_)
      have ts : tn 0 s'.heap := by rw [r.heap]; exact ht5
      split
      · exact seg_again rfl lp
      · first
          | exact seg_bind_wrap (wpAny_rule (seg_bind_wrap (wpAny_standAt (seg_bind_wrap (T.self _ 0 s' _ _ ts (seg_again rfl lp))))))
          | (refine seg_bind_wrap (wpAny_rule ?_); show Seg (model X.prog X.w) _ _ _ _ s' _ ((standAt iter.pos >>= _).wrap _ _ _ _) [] s'; exact seg_bind_wrap (wpAny_standAt (seg_bind_wrap (T.self _ 0 s' _ _ ts (seg_again rfl lp)))))
    refine call_function_tree PySem.F.kind_all PySem.F.plain_all PySem.F.entry_all (PySem.F.args_all1 _) ?_
    unfold Builtin.«all»
    refine wpAny_bind (m := oneArg "all" _) (wpAny_pure ?_)
    refine wpAny_bind (wpAny_pyIter_gen (gen (pl := []) I5) ?_)
    refine wpAny_pure ⟨plainId_quiet PySem.F.plain_all_loop _, codeAny_mono (all_loop hh hr.depth (mono true) (mono false) (m0 + 1) s5 wt) fun r s' hq => ?_⟩
    rcases hq with ⟨rfl, H', J, q⟩ | ⟨rfl, H', J, q⟩
    · exact ⟨.bl true, H', J, rfl, q⟩
    · exact ⟨.bl false, H', J, rfl, q⟩
  cases hf : codeAmong gpos ps.toList with
  | none =>
    refine wpAny_genexprCodeX hcode (cd.code hPs ht) (cd.tab hPs) hf fun c' h' tk hx hge hlt hco' _ htab' _ => ?_
    obtain ⟨o1, vs, f1, tf, fl, tg1, inF, tx, tt, op, _, _, _, _, _, _, _, _, _, htr, _⟩ := hco'
    exact cont _ h' tk _ (Nat.le_trans hge (Nat.le_of_lt hlt)) (fun b o hb e => hx b o hb e) htab'.2 htr
  | some cv =>
    refine wpAny_genexprCode_hit hcode (cd.code hPs ht) hf ?_
    have := cont cv s2.heap s2.toks #[] (Nat.le_refl _) (fun _ _ _ e => e) (by rw [hPs]; simp) (by simpa using ht)
    exact this
end
def topS (i : Nat) : Stmt := PySem.Challenge.pw_friendfoe_k01_what_is_a_web.main.body.getD i (.Pass ⟨0, 0, 0, 0⟩)
abbrev s_is_whole : Stmt := topS 1
abbrev N_is_whole : List Str := ["thing"]
theorem sc_is_whole : FnScope N_is_whole ["thing"] (defScope s_is_whole) := ⟨rfl, rfl, rfl, by decide +kernel, rfl, by decide +kernel, by decide +kernel⟩
abbrev s_is_whole_from : Stmt := topS 2
abbrev N_is_whole_from : List Str := ["low", "thing"]
theorem sc_is_whole_from : FnScope N_is_whole_from ["low", "thing"] (defScope s_is_whole_from) := ⟨rfl, rfl, rfl, by decide +kernel, rfl, by decide +kernel, by decide +kernel⟩
abbrev s_is_whole_below : Stmt := topS 3
abbrev N_is_whole_below : List Str := ["limit", "thing"]
theorem sc_is_whole_below : FnScope N_is_whole_below ["limit", "thing"] (defScope s_is_whole_below) := ⟨rfl, rfl, rfl, by decide +kernel, rfl, by decide +kernel, by decide +kernel⟩
abbrev s_are_unlike_places : Stmt := topS 4
abbrev N_are_unlike_places : List Str := ["many", "one", "other"]
theorem sc_are_unlike_places : FnScope N_are_unlike_places ["many", "one", "other"] (defScope s_are_unlike_places) := ⟨rfl, rfl, rfl, by decide +kernel, rfl, by decide +kernel, by decide +kernel⟩
abbrev s_is_tuple_of : Stmt := topS 5
abbrev N_is_tuple_of : List Str := ["length", "thing"]
theorem sc_is_tuple_of : FnScope N_is_tuple_of ["length", "thing"] (defScope s_is_tuple_of) := ⟨rfl, rfl, rfl, by decide +kernel, rfl, by decide +kernel, by decide +kernel⟩
abbrev s_is_tie : Stmt := topS 8
abbrev N_is_tie : List Str := ["many", "thing", "one", "other", "kind"]
theorem sc_is_tie : FnScope N_is_tie ["many", "thing"] (defScope s_is_tie) := ⟨rfl, rfl, rfl, by decide +kernel, rfl, by decide +kernel, by decide +kernel⟩
abbrev s_is_web : Stmt := topS 9
abbrev N_is_web : List Str := ["thing", "many", "ties", "tie"]
theorem sc_is_web : FnScope N_is_web ["thing"] (defScope s_is_web) := ⟨rfl, rfl, rfl, by decide +kernel, rfl, by decide +kernel, by decide +kernel⟩
abbrev s_l_deck : Stmt := topS 11
abbrev N_l_deck : List Str := ["_law_script"]
theorem sc_l_deck : FnScope N_l_deck ["_law_script"] (defScope s_l_deck) := ⟨rfl, rfl, rfl, by decide +kernel, rfl, by decide +kernel, by decide +kernel⟩
abbrev s_l_draw : Stmt := topS 12
abbrev N_l_draw : List Str := ["_law_deck_here", "_law_many", "_law_cell", "_law_number"]
theorem sc_l_draw : FnScope N_l_draw ["_law_deck_here", "_law_many"] (defScope s_l_draw) := ⟨rfl, rfl, rfl, by decide +kernel, rfl, by decide +kernel, by decide +kernel⟩
abbrev s_l_web : Stmt := topS 13
abbrev N_l_web : List Str := ["_law_deck_here", "_law_many", "_law_count", "_law_ties", "_law_k", "_law_one", "_law_other"]
theorem sc_l_web : FnScope N_l_web ["_law_deck_here"] (defScope s_l_web) := ⟨rfl, rfl, rfl, by decide +kernel, rfl, by decide +kernel, by decide +kernel⟩
abbrev s_l_whole : Stmt := topS 14
abbrev N_l_whole : List Str := ["_law_thing"]
theorem sc_l_whole : FnScope N_l_whole ["_law_thing"] (defScope s_l_whole) := ⟨rfl, rfl, rfl, by decide +kernel, rfl, by decide +kernel, by decide +kernel⟩
abbrev s_l_is_web : Stmt := topS 15
abbrev N_l_is_web : List Str := ["_law_thing", "_law_tie", "_law_place"]
theorem sc_l_is_web : FnScope N_l_is_web ["_law_thing"] (defScope s_l_is_web) := ⟨rfl, rfl, rfl, by decide +kernel, rfl, by decide +kernel, by decide +kernel⟩
abbrev s_l_odd_tie : Stmt := topS 16
abbrev N_l_odd_tie : List Str := ["_law_deck_here", "_law_web_here", "_law_tie", "_law_many", "_law_one", "_law_other", "_law_kind", "_law_bad", "_law_some", "_law_word", "_law_odd"]
theorem sc_l_odd_tie : FnScope N_l_odd_tie ["_law_deck_here", "_law_web_here", "_law_tie"] (defScope s_l_odd_tie) := ⟨rfl, rfl, rfl, by decide +kernel, rfl, by decide +kernel, by decide +kernel⟩
abbrev s_l_otherwise : Stmt := topS 17
abbrev N_l_otherwise : List Str := ["_law_deck_here", "_law_web_here", "_law_many", "_law_ties", "_law_at", "_law_way", "_law_some", "_law_odd"]
theorem sc_l_otherwise : FnScope N_l_otherwise ["_law_deck_here", "_law_web_here"] (defScope s_l_otherwise) := ⟨rfl, rfl, rfl, by decide +kernel, rfl, by decide +kernel, by decide +kernel⟩
abbrev s_l_right : Stmt := topS 18
abbrev N_l_right : List Str := ["_law_thing", "_law_found"]
theorem sc_l_right : FnScope N_l_right ["_law_thing"] (defScope s_l_right) := ⟨rfl, rfl, rfl, by decide +kernel, rfl, by decide +kernel, by decide +kernel⟩
abbrev s_law : Stmt := topS 19
abbrev N_law : List Str := ["_law_script", "_law_deck_here", "_law_web_here", "_law_k", "_law_deep", "_law_far", "_law_great", "_law_thing"]
theorem sc_law : FnScope N_law ["_law_script"] (defScope s_law) := ⟨rfl, rfl, rfl, by decide +kernel, rfl, by decide +kernel, by decide +kernel⟩
/-! ### own rules: a list against [] -/
section
variable {X : Cx}
def rEqE (K : PySem.W.Frag) : R2 := fun x y H Q => ∃ (a b : Addr) (xs : List V), x = .ref a ∧ y = .ref b ∧ SqL K H a xs ∧ SqL K H b [] ∧ Q (.bl xs.isEmpty) H
def rNeE (K : PySem.W.Frag) : R2 := fun x y H Q => ∃ (a b : Addr) (xs : List V), x = .ref a ∧ y = .ref b ∧ SqL K H a xs ∧ SqL K H b [] ∧ Q (.bl (!xs.isEmpty)) H
theorem op_eqE (hu : X.A.units < cLine) : OpR X (compareOp .Eq) (rEqE X.K) := by
  intro pins s σ H x y v u Q I rx ry h
  obtain ⟨a, b, xs, rfl, rfl, ha, hb, q⟩ := h
  obtain rfl : v = Value.ref a := rx
  obtain rfl : u = Value.ref b := ry
  obtain ⟨its, r1, p1, _⟩ := I.list ha
  obtain ⟨its2, r2, p2, _⟩ := I.list hb
  cases r2
  cases xs with
  | nil =>
    cases r1
    exact SeqAt.eq_listAt (e := fun _ => true) p1.isList p2.isList rfl hu (fun j h1 _ => absurd h1 (by simp)) ⟨.bl true, H, I, rfl, q⟩
  | cons z zs =>
    cases r1 with
    | cons r t => exact SeqAt.eq_list_lengthsAt p1.isList p2.isList (by simp) hu ⟨.bl false, H, I, rfl, q⟩
theorem op_neE (hu : X.A.units < cLine) : OpR X (compareOp .NotEq) (rNeE X.K) := by
  intro pins s σ H x y v u Q I rx ry h
  obtain ⟨a, b, xs, rfl, rfl, ha, hb, q⟩ := h
  obtain rfl : v = Value.ref a := rx
  obtain rfl : u = Value.ref b := ry
  obtain ⟨its, r1, p1, _⟩ := I.list ha
  obtain ⟨its2, r2, p2, _⟩ := I.list hb
  cases r2
  cases xs with
  | nil =>
    cases r1
    exact SeqAt.RcNeAt.lists (e := fun _ => true) p1.isList p2.isList rfl hu (fun j h1 _ => absurd h1 (by simp)) _ _ _ _ ⟨.bl false, H, I, rfl, q⟩
  | cons z zs =>
    cases r1 with
    | cons r t => exact SeqAt.RcNeAt.lists_lengths p1.isList p2.isList (by simp) hu _ _ _ _ ⟨.bl true, H, I, rfl, q⟩
end
section
variable {P : Program} {w : World} {K : PySem.W.Frag} {mg : Str → Option Value} {base : Heap}
/-! ### a draw -/
theorem ok_l_draw {f : Addr} {fd : FuncData} (F : Fun K "_law_draw" "_law_draw" s_l_draw f fd) : FnOk P w K mg base CX0 1 f fd ["_law_deck_here", "_law_many"] spDraw := by
  refine F.ok sc_l_draw (fun vs H Q E h => ?_) (fun cdv A outer s H vs Q E hr h => ?_)
  · obtain ⟨d, c, m, rfl, _⟩ := h
    rfl
  · obtain ⟨d, c, m, rfl, hD, hm, hb, q⟩ := h
    have ndc := hD.ne
    obtain ⟨cells, st, n, hd, hc, hl⟩ := hD
    refine ⟨_, (pss_cons (ps_asg (pe_op op_add (pe_ix ix_list (pv 0) pe_int (fun _ _ => rfl)) pe_int) (pg_sub (pv 0) pe_int set_list))
      (pss_cons (ps_set (i := 2) sc_l_draw.nd rfl (.inl rfl) (pe_ix ix_list (pv 0) pe_int (fun _ _ => rfl)))
      (Evl.pss_cut (ps_if (pt_cmpR (op_neE hr.units0) (pe_ix ix_list (pv 0) pe_int (fun _ _ => rfl)) (pe_lst pa_nil) (nomark _))
        (pss_cons (ps_set (i := 2) sc_l_draw.nd rfl (.inl rfl) (pe_bm0 PySem.F.plainAttrs_list PySem.F.slot_list_pop PySem.F.type_list_pop mt_pop (pe_ix ix_list (pv 0) pe_int (fun _ _ => rfl))))
        (pss_one (ps_if (pt_cmpR op_ge (pv 2) (pe_op op_pow pe_int pe_int) (nomark _))
          (pss_cons (ps_expr (pe_bm PySem.F.plainAttrs_list PySem.F.slot_list_append PySem.F.type_list_append mt_append (pe_ix ix_list (pv 0) pe_int (fun _ _ => rfl)) (pa_cons (pe_op op_fdivW (pv 2) (pv 1)) pa_nil)))
          (pss_one (ps_ret (pe_op op_mod (pv 2) (pv 1)))))
          pss_nil)))
        pss_nil)
      (Evl.pss_cut (ps_set (i := 3) sc_l_draw.nd rfl (.inl rfl) (pe_op op_mod (pe_op op_mul (pe_op op_add (pe_op op_add (pe_op op_mod (pv 2) pe_int) (pe_op op_mul pe_int (pe_ix ix_list (pv 0) pe_int (fun _ _ => rfl)))) pe_int) pe_int) pe_int))
      (Evl.pss_cut (ps_set (i := 3) sc_l_draw.nd rfl (.inl rfl) (pe_op op_mod (pe_op op_add (pe_op op_add (pe_op op_mul (pv 3) (pv 3)) (pe_op op_mul pe_int (pv 3))) (pe_ix ix_list (pv 0) pe_int (fun _ _ => rfl))) pe_int))
      (pss_one (ps_ret (pe_op op_mod (pe_op op_fdiv (pe_op op_mod (pe_op op_mul (pv 3) (pv 3)) pe_int) pe_int) (pv 1))))))))), ?_⟩
    -- deck[2] = deck[2] + 1
    refine ⟨.ref d, rfl, d, _, 2, .int n, rfl, rfl, SqL.of hd, rfl, n, 1, rfl, rfl, .ref d, rfl, d, _, 2, 2, rfl, rfl, hd, rfl, ?_⟩
    generalize hH1 : upd H d (.lst ([V.ref c, .int st, .int n].set 2 (.int (n + 1)))) = H1
    have hd1 : H1 d = some (.lst [.ref c, .int st, .int (n + 1)]) := by rw [← hH1]; exact upd_same
    have hc1 : H1 c = some (.lst (cells.map V.int)) := by rw [← hH1, upd_ne (Ne.symm ndc)]; exact hc
    have k1 : Kp d c H H1 := by rw [← hH1]; exact Kp.at_d
    clear hH1
    -- cell = deck[1]
    refine ⟨.ref d, rfl, d, _, 1, .int st, rfl, rfl, SqL.of hd1, rfl, ?_⟩
    -- if deck[0] != []
    refine ⟨fun σ' H3 => ∃ x : Int, σ' = [some (.ref d), some (.int m), some (.int x), none] ∧ H3 d = some (.lst [.ref c, .int st, .int (n + 1)]) ∧ (∃ cs : List Int, H3 c = some (.lst (cs.map V.int)) ∧ cs.length ≤ 63) ∧ Kp d c H H3, ?_, ?_⟩
    · refine ⟨.ref d, rfl, d, _, 0, .ref c, rfl, rfl, SqL.of hd1, rfl, Nat.zero_le _, fun p np => ?_⟩
      have hd2 : (upd H1 p (.lst [])) d = some (.lst [.ref c, .int st, .int (n + 1)]) := by rw [upd_ne (ne_of_none hd1 np)]; exact hd1
      have hc2 : (upd H1 p (.lst [])) c = some (.lst (cells.map V.int)) := by rw [upd_ne (ne_of_none hc1 np)]; exact hc1
      have k2 : Kp d c H (upd H1 p (.lst [])) := k1.trans (Kp.new np)
      refine ⟨c, p, cells.map V.int, rfl, rfl, SqL.of hc2, SqL.of upd_same, _, rfl, ?_⟩
      generalize upd H1 p (.lst []) = H2 at hd2 hc2 k2
      cases hcs : cells with
      | nil =>
        subst hcs
        exact ⟨st, rfl, hd2, ⟨[], hc2, by simp⟩, k2⟩
      | cons z zs =>
        rw [hcs] at hc2 hl
        obtain ⟨ys, y, e⟩ : ∃ (ys : List Int) (y : Int), z :: zs = ys ++ [y] := ⟨(z :: zs).dropLast, (z :: zs).getLast (by simp), (List.dropLast_concat_getLast (by simp)).symm⟩
        rw [e] at hc2 hl
        have hl2 : ys.length ≤ 62 := by rw [List.length_append] at hl; simp at hl; omega
        -- cell = deck[0].pop()
        refine ⟨.ref d, rfl, d, _, 0, .ref c, rfl, rfl, SqL.of hd2, rfl, .inl ⟨rfl, _, SqL.of hc2⟩, c, _, .int y, rfl, rfl, hc2, by simp, ?_⟩
        have e3 : ((ys ++ [y]).map V.int).dropLast = ys.map V.int := by simp
        rw [e3]
        have hd3 : (upd H2 c (.lst (ys.map V.int))) d = some (.lst [.ref c, .int st, .int (n + 1)]) := by rw [upd_ne ndc]; exact hd2
        have hc3 : (upd H2 c (.lst (ys.map V.int))) c = some (.lst (ys.map V.int)) := upd_same
        have k3 : Kp d c H (upd H2 c (.lst (ys.map V.int))) := k2.trans Kp.at_c
        generalize upd H2 c (.lst (ys.map V.int)) = H3 at hd3 hc3 k3
        -- if cell >= 10 ** 18
        refine ⟨.int y, rfl, 10, 18, rfl, rfl, ⟨by decide, by decide, by decide⟩, y, _, rfl, rfl, _, rfl, ?_⟩
        refine ite2 (fun _ => ?_) (fun _ => ?_)
        · refine ⟨.ref d, rfl, d, _, 0, .ref c, rfl, rfl, SqL.of hd3, rfl, .inl ⟨rfl, _, SqL.of hc3⟩, .int y, rfl, .int m, rfl, y, m, rfl, rfl, wide_div hm hb (by decide) (by decide), c, _, _, rfl, rfl, hc3, ?_, ?_⟩
          · rw [List.length_map]
            exact small1000 (by omega)
          · refine ⟨.int y, rfl, .int m, rfl, y, m, rfl, rfl, hm, ?_⟩
            refine q _ _ (mod_rng hm).1 (mod_rng hm).2 ⟨ys ++ [y / m], st, n + 1, ?_, ?_, ?_⟩ (k3.trans Kp.at_c)
            · rw [upd_ne ndc]
              exact hd3
            · rw [upd_same, List.map_append]
              rfl
            · rw [List.length_append]
              show ys.length + 1 ≤ 63
              omega
        · exact ⟨y, rfl, hd3, ⟨ys, hc3, by omega⟩, k3⟩
    · rintro σ' H3 ⟨x, rfl, hd3, ⟨cs, hc3, hl3⟩, k3⟩
      refine ⟨fun σ' H4 => ∃ N : Int, σ' = [some (.ref d), some (.int m), some (.int x), some (.int N)] ∧ 0 ≤ N ∧ N < 2147483647 ∧ H4 = H3, ?_, ?_⟩
      · exact ⟨.int x, rfl, x, 2147483629, rfl, rfl, show (0 : Int) < 2147483629 by decide, .ref d, rfl, d, _, 2, .int (n + 1), rfl, rfl, SqL.of hd3, rfl, 7919, n + 1, rfl, rfl, .inl ⟨by decide, by decide⟩, _, _, rfl, rfl, _, 11, rfl, rfl, _, 48271, rfl, rfl, .inr ⟨by decide, by decide⟩, _, 2147483647, rfl, rfl, show (0 : Int) < 2147483647 by decide, _, rfl, (mod_rng (by decide)).1, (mod_rng (by decide)).2, rfl⟩
      rintro σ' H4 ⟨N, rfl, hN0, hN1, rfl⟩
      refine ⟨fun σ' H5 => ∃ M : Int, σ' = [some (.ref d), some (.int m), some (.int x), some (.int M)] ∧ 0 ≤ M ∧ M < 2147483587 ∧ H5 = H4, ?_, ?_⟩
      · exact ⟨.int N, rfl, .int N, rfl, N, N, rfl, rfl, .inl ⟨by omega, by omega⟩, .int N, rfl, 69621, N, rfl, rfl, .inl ⟨by decide, by decide⟩, _, _, rfl, rfl, .ref d, rfl, d, _, 2, .int (n + 1), rfl, rfl, SqL.of hd3, rfl, _, _, rfl, rfl, _, 2147483587, rfl, rfl, show (0 : Int) < 2147483587 by decide, _, rfl, (mod_rng (by decide)).1, (mod_rng (by decide)).2, rfl⟩
      rintro σ' H5 ⟨M, rfl, hM0, hM1, rfl⟩
      refine ⟨.int M, rfl, .int M, rfl, M, M, rfl, rfl, .inl ⟨by omega, by omega⟩, _, 2147483563, rfl, rfl, show (0 : Int) < 2147483563 by decide, _, 32, rfl, rfl, ⟨by decide, by decide⟩, .int m, rfl, _, m, rfl, rfl, hm, ?_⟩
      exact q _ _ (mod_rng hm).1 (mod_rng hm).2 ⟨cs, st, n + 1, hd3, hc3, hl3⟩ k3
/-! ### the deck is laid -/
theorem cutV_ints (ns : List Int) (lo hi : Option Int) : ∃ ms : List Int, cutV (ns.map V.int) lo hi = ms.map V.int ∧ ms.length ≤ ns.length := by
  refine ⟨(ns.drop (HT.sIx ns.length 0 lo)).take (HT.sIx ns.length ns.length hi - HT.sIx ns.length 0 lo), ?_, ?_⟩
  · unfold cutV
    rw [List.length_map, List.map_take, List.map_drop]
  · rw [List.length_take, List.length_drop]
    omega
def spDeck (K : PySem.W.Frag) : Sp := fun vs H Q _ => ∃ (a : Addr) (ns : List Int), vs = [.ref a] ∧ SqL K H a (ns.map V.int) ∧ ns.length ≤ 63 ∧
  ∀ d c H', Same H H' → H d = none → H c = none → Deck H' d c → Q (.ref d) H'
theorem ok_l_deck {f : Addr} {fd : FuncData} (F : Fun K "_law_deck" "_law_deck" s_l_deck f fd) (M : Free mg) : FnOk P w K mg base CX0 1 f fd ["_law_script"] (spDeck K) := by
  refine F.ok sc_l_deck (fun vs H Q E h => ?_) (fun cdv A outer s H vs Q E hr h => ?_)
  · obtain ⟨a, ns, rfl, _⟩ := h
    rfl
  · obtain ⟨a, ns, rfl, hS, hl, q⟩ := h
    refine ⟨_, (pss_one (ps_ret (pe_lst (pa_cons (pe_revL (pe_callTy call_list_of (by rfl) M.list (by decide +kernel) (pa_cons (pe_slice sl_list (pv 0) po_none (po_some pe_int)) pa_nil))) (pa_cons (pe_op op_add (pe_callB (cr_sum rfl) (by rfl) M.sum (by decide +kernel) (pa_cons (pe_slice sl_list (pv 0) po_none (po_some pe_int)) pa_nil)) (pe_op op_mul pe_int (pe_callB call_len_seq (by rfl) M.len PySem.boot_len (pa_cons (pe_slice sl_list (pv 0) po_none (po_some pe_int)) pa_nil)))) (pa_cons pe_int pa_nil)))))), ?_⟩
    obtain ⟨ms, em, lm⟩ := cutV_ints ns none (some 63)
    refine ⟨.ref a, rfl, 63, rfl, a, _, rfl, hS, fun p1 n1 => ⟨p1, _, rfl, .inl (SqL.of upd_same), fun p2 n2 => ⟨p2, _, rfl, SqL.of upd_same, fun p3 n3 => ?_⟩⟩⟩
    rw [em] at n2 n3 ⊢
    have s1 : Same H (upd H p1 (.lst (ms.map V.int))) := same_new n1
    have s2 := s1.trans (same_new (o := .lst (ms.map V.int)) n2)
    have s3 := s2.trans (same_new (o := .lst (ms.map V.int).reverse) n3)
    have h3 : (upd (upd (upd H p1 (.lst (ms.map V.int))) p2 (.lst (ms.map V.int))) p3 (.lst (ms.map V.int).reverse)) p3 = some (.lst (ms.reverse.map V.int)) := by
      rw [upd_same, List.map_reverse]
    have f3 : H p3 = none := s2.free n3
    generalize upd (upd (upd H p1 (.lst (ms.map V.int))) p2 (.lst (ms.map V.int))) p3 (.lst (ms.map V.int).reverse) = H3 at s3 h3
    refine ⟨.ref a, rfl, 63, rfl, a, _, rfl, s3.seq hS, fun p4 n4 => ⟨p4, ms, rfl, SqL.of (by rw [upd_same, em]), .ref a, rfl, 63, rfl, a, _, rfl, (s3.trans (same_new n4)).seq hS, fun p5 n5 => ?_⟩⟩
    have s5 := (s3.trans (same_new (o := .lst (cutV (ns.map V.int) none (some 63))) n4)).trans (same_new (o := .lst (cutV (ns.map V.int) none (some 63))) n5)
    have h5 := same_new (o := .lst (cutV (ns.map V.int) none (some 63))) n5 _ _ (same_new (o := .lst (cutV (ns.map V.int) none (some 63))) n4 _ _ h3)
    refine ⟨p5, _, rfl, .inl (SqL.of upd_same), 31, _, rfl, rfl, .inl ⟨by decide, by decide⟩, _, _, rfl, rfl, (by show 3 ≤ sizeLine; decide), fun d nd => ?_⟩
    refine q d p3 _ (s5.trans (same_new nd)) (s5.free nd) f3 ⟨ms.reverse, _, 0, upd_same, ?_, ?_⟩
    · rw [upd_ne (ne_of_none h5 nd)]
      exact h5
    · rw [List.length_reverse]
      omega
/-! ### webs -/
structure Tie where
  one : Int
  other : Int
  foe : Bool
def kindS : Bool → Str
  | true => "foe"
  | false => "friend"
def TieV (H : Hp) (v : V) (t : Tie) : Prop := ∃ a, v = .ref a ∧ H a = some (.tup [.int t.one, .int t.other, .str (kindS t.foe)])
def TieOk (n : Int) (t : Tie) : Prop := 0 ≤ t.one ∧ t.one < n ∧ 0 ≤ t.other ∧ t.other < n ∧ t.one ≠ t.other
def WebAt (H : Hp) (v : V) (n : Int) (ts : List Tie) : Prop := ∃ a b vs, v = .ref a ∧ H a = some (.tup [.int n, .ref b]) ∧ H b = some (.tup vs) ∧ Paired (TieV H) vs ts
structure WebOk (n : Int) (ts : List Tie) : Prop where
  lo : 1 ≤ n
  hi : n ≤ 40
  few : ts.length ≤ 120
  ok : ∀ t ∈ ts, TieOk n t
/-- tuples stay -/
def Tk (H H' : Hp) : Prop := ∀ b xs, H b = some (.tup xs) → H' b = some (.tup xs)
theorem Tk.trans {H H1 H2 : Hp} (a : Tk H H1) (b : Tk H1 H2) : Tk H H2 := fun x xs h => b x xs (a x xs h)
theorem Same.tk {H H' : Hp} (s : Same H H') : Tk H H' := fun b xs h => s b _ h
theorem tk_lst {H : Hp} {l : Addr} {xs ys : List V} (h : H l = some (.lst xs)) : Tk H (upd H l (.lst ys)) := fun b zs e => by
  rw [upd_ne (ne_of e h (by intro z; cases z))]
  exact e
theorem TieV.tk {H H' : Hp} (k : Tk H H') {v : V} {t : Tie} (h : TieV H v t) : TieV H' v t := by
  obtain ⟨a, rfl, e⟩ := h
  exact ⟨a, rfl, k _ _ e⟩
theorem ties_tk {H H' : Hp} (k : Tk H H') {vs : List V} {ts : List Tie} (h : Paired (TieV H) vs ts) : Paired (TieV H') vs ts := Paired.mono (fun _ _ x => x.tk k) h
theorem WebAt.tk {H H' : Hp} (k : Tk H H') {v : V} {n : Int} {ts : List Tie} (h : WebAt H v n ts) : WebAt H' v n ts := by
  obtain ⟨a, b, vs, rfl, h1, h2, h3⟩ := h
  exact ⟨a, b, vs, rfl, k _ _ h1, k _ _ h2, ties_tk k h3⟩
theorem Kp.tk {d c : Addr} {H H' : Hp} (k : Kp d c H H') (D : Deck H d c) : Tk H H' := fun b xs e => by
  obtain ⟨cells, st, n, h1, h2, _⟩ := D
  exact k b _ (ne_of e h1 (by intro z; cases z)) (ne_of e h2 (by intro z; cases z)) e
theorem Kp.mut {d c l : Addr} {H H' : Hp} {o : HO} (k : Kp d c H H') (h : H l = none) : Kp d c H (upd H' l o) := fun b u h1 h2 e => by
  rw [upd_ne (ne_of_none e h)]
  exact k b u h1 h2 e
theorem Deck.mut {H : Hp} {d c l : Addr} {o : HO} (D : Deck H d c) (h1 : l ≠ d) (h2 : l ≠ c) : Deck (upd H l o) d c := by
  obtain ⟨cells, st, n, e1, e2, e3⟩ := D
  exact ⟨cells, st, n, by rw [upd_ne (Ne.symm h1)]; exact e1, by rw [upd_ne (Ne.symm h2)]; exact e2, e3⟩
theorem Deck.new {H : Hp} {d c l : Addr} {o : HO} (D : Deck H d c) (h : H l = none) : Deck (upd H l o) d c := D.same (same_new h)
theorem Deck.ned {H : Hp} {d c l : Addr} (D : Deck H d c) (h : H l = none) : l ≠ d ∧ l ≠ c := by
  obtain ⟨cells, st, n, e1, e2, e3⟩ := D
  exact ⟨(ne_of_none e1 h).symm, (ne_of_none e2 h).symm⟩
theorem Paired.at {α β : Type} {F : α → β → Prop} : ∀ {l : List α} {m : List β} {i : Nat} {a : α}, Paired F l m → l[i]? = some a → ∃ b, m[i]? = some b ∧ F a b
  | _, _, _, _, .nil, e => by simp at e
  | _, _, 0, _, .cons r _, e => by simp at e; subst e; exact ⟨_, rfl, r⟩
  | _, _, i + 1, a, .cons _ t, e => by
    obtain ⟨u, h1, h2⟩ := Paired.at (i := i) (a := a) t (by simpa using e)
    exact ⟨u, by simpa using h1, h2⟩
theorem Paired.at' {α β : Type} {F : α → β → Prop} : ∀ {l : List α} {m : List β} {i : Nat} {b : β}, Paired F l m → m[i]? = some b → ∃ a, l[i]? = some a ∧ F a b
  | _, _, _, _, .nil, e => by simp at e
  | _, _, 0, _, .cons r _, e => by simp at e; subst e; exact ⟨_, rfl, r⟩
  | _, _, i + 1, b, .cons _ t, e => by
    obtain ⟨u, h1, h2⟩ := Paired.at' (i := i) (b := b) t (by simpa using e)
    exact ⟨u, by simpa using h1, h2⟩
theorem getI {α : Type} {xs : List α} {i : Int} (h0 : 0 ≤ i) (h1 : i < (xs.length : Int)) : ∃ v, atI xs i = some v ∧ xs[i.toNat]? = some v := by
  obtain ⟨j, rfl⟩ : ∃ j : Nat, i = (j : Int) := ⟨i.toNat, by omega⟩
  have h2 : j < xs.length := by omega
  exact ⟨xs[j], atI_nat (List.getElem?_eq_getElem h2), by rw [Int.toNat_natCast]; exact List.getElem?_eq_getElem h2⟩
theorem other_ne {n a b : Int} (h0 : 0 ≤ a) (h1 : a < n) (g0 : 0 ≤ b) (g1 : b < n - 1) : a ≠ (a + 1 + b) % n := by
  by_cases h : a + 1 + b < n
  · rw [Int.emod_eq_of_lt (by omega) h]
    omega
  · have e : a + 1 + b = (a + 1 + b - n) + 1 * n := by omega
    rw [e, Int.add_mul_emod_self_right, Int.emod_eq_of_lt (by omega) (by omega)]
    omega
theorem pick2 {α : Type} (a b : α) (k : Bool) : atI [a, b] (if k then 1 else 0) = some (if k then b else a) := by
  cases k <;> rfl
def spWeb : Sp := fun vs H Q _ => ∃ (d c : Addr), vs = [.ref d] ∧ Deck H d c ∧
  ∀ v n ts H', WebAt H' v n ts → WebOk n ts → Deck H' d c → Kp d c H H' → Q v H'
theorem ok_l_web {f : Addr} {fd : FuncData} (F : Fun K "_law_web" "_law_web" s_l_web f fd) (M : Free mg) (Dd : Df P w K mg base 1 "_law_draw" ["_law_deck_here", "_law_many"] spDraw) : FnOk P w K mg base CX0 2 f fd ["_law_deck_here"] spWeb := by
  obtain ⟨fD, fdD, GD, gD, kD, bD⟩ := Dd
  refine F.ok sc_l_web (fun vs H Q E h => ?_) (fun cdv A outer s H vs Q E hr h => ?_)
  · obtain ⟨d, c, rfl, _⟩ := h
    rfl
  · obtain ⟨d, c, rfl, hD, q⟩ := h
    refine ⟨_, (Evl.pss_cut (ps_set (i := 1) sc_l_web.nd rfl (.inl rfl) (pe_ix ix_list (pe_lst (pa_cons (pe_op op_add pe_int (pe_call GD hr (by rfl) gD kD bD .nil pass0 (pa_cons (pv 0) (pa_cons pe_int pa_nil)))) (pa_cons (pe_op op_add pe_int (pe_call GD hr (by rfl) gD kD bD .nil pass0 (pa_cons (pv 0) (pa_cons pe_int pa_nil)))) pa_nil))) (pe_callTy call_int1 (by rfl) M.int (by decide +kernel) (pa_cons (pe_cmpR op_eq (pe_call GD hr (by rfl) gD kD bD .nil pass0 (pa_cons (pv 0) (pa_cons pe_int pa_nil))) pe_int (nomark _)) pa_nil)) (fun _ _ => rfl)))
      (Evl.pss_cut (ps_set (i := 2) sc_l_web.nd rfl (.inl rfl) (pe_ix ix_list (pe_lst (pa_cons (pe_call GD hr (by rfl) gD kD bD .nil pass0 (pa_cons (pv 0) (pa_cons pe_int pa_nil))) (pa_cons (pe_call GD hr (by rfl) gD kD bD .nil pass0 (pa_cons (pv 0) (pa_cons pe_int pa_nil))) pa_nil))) (pe_callTy call_int1 (by rfl) M.int (by decide +kernel) (pa_cons (pe_cmpR op_eq (pe_call GD hr (by rfl) gD kD bD .nil pass0 (pa_cons (pv 0) (pa_cons pe_int pa_nil))) pe_int (nomark _)) pa_nil)) (fun _ _ => rfl)))
      (pss_cons (ps_set (i := 3) sc_l_web.nd rfl (.inl rfl) (pe_lst pa_nil))
      (pss_cons (ps_for PassesOwn.never rfl (pi_range1 (by rfl) M.range (pa_cons (pe_op op_mul (pv 2) (pe_callTy call_int1 (by rfl) M.int (by decide +kernel) (pa_cons (pe_cmpR op_gt (pv 1) pe_int (nomark _)) pa_nil))) pa_nil)) (pg_name (i := 4) sc_l_web.nd rfl (.inl rfl))
        (pss_cons (ps_set (i := 5) sc_l_web.nd rfl (.inl rfl) (pe_call GD hr (by rfl) gD kD bD .nil pass0 (pa_cons (pv 0) (pa_cons (pv 1) pa_nil))))
        (pss_cons (ps_set (i := 6) sc_l_web.nd rfl (.inl rfl) (pe_op op_mod (pe_op op_add (pe_op op_add (pv 5) pe_int) (pe_call GD hr (by rfl) gD kD bD .nil pass0 (pa_cons (pv 0) (pa_cons (pe_op op_sub (pv 1) pe_int) pa_nil)))) (pv 1)))
        (Evl.pss_cut (ps_if (PW.pt (pw_and (pt_cmpR (op_neE hr.units0) (pv 3) (pe_lst pa_nil) (nomark _)) (pw_and1 (pt_cmpR op_eq (pe_call GD hr (by rfl) gD kD bD .nil pass0 (pa_cons (pv 0) (pa_cons pe_int pa_nil))) pe_int (nomark _)))))
          (pss_one (ps_asg (pe_slice sl_tupA (pe_ix ix_list (pv 3) (pe_call GD hr (by rfl) gD kD bD .nil pass0 (pa_cons (pv 0) (pa_cons (pe_callB call_len_seq (by rfl) M.len PySem.boot_len (pa_cons (pv 3) pa_nil)) pa_nil))) (fun _ _ => rfl)) po_none (po_some pe_int)) (pg_tup rfl (pgs_cons (pg_name (i := 6) sc_l_web.nd rfl (.inl rfl)) (pgs_cons (pg_name (i := 5) sc_l_web.nd rfl (.inl rfl)) pgs_nil)))))
          pss_nil)
        (pss_one (ps_expr (pe_bm PySem.F.plainAttrs_list PySem.F.slot_list_append PySem.F.type_list_append mt_append (pv 3) (pa_cons (pe_tup (pa_cons (pv 5) (pa_cons (pv 6) (pa_cons (pe_ix ix_list (pe_lst (pa_cons pe_str (pa_cons pe_str pa_nil))) (pe_call GD hr (by rfl) gD kD bD .nil pass0 (pa_cons (pv 0) (pa_cons pe_int pa_nil))) (fun _ _ => rfl)) pa_nil)))) pa_nil))))))))
      (pss_one (ps_ret (pe_tup (pa_cons (pv 1) (pa_cons (pe_callTy call_tuple_of (by rfl) M.tuple (by decide +kernel) (pa_cons (pv 3) pa_nil)) pa_nil))))))))), ?_⟩
    -- many
    refine ⟨fun σ' H' => ∃ n : Int, σ' = [some (.ref d), some (.int n), none, none, none, none, none] ∧ 1 ≤ n ∧ n ≤ 40 ∧ Deck H' d c ∧ Kp d c H H', ?_, ?_⟩
    · refine ⟨.ref d, rfl, d, c, 6, rfl, hD, by decide, by decide, fun v1 H1 a1 b1 D1 K1 => ⟨1, v1, rfl, rfl, .ref d, rfl, d, c, 40, rfl, D1, by decide, by decide, fun v2 H2 a2 b2 D2 K2 => ⟨1, v2, rfl, rfl, by show 2 ≤ sizeLine; decide, fun p np => ?_⟩⟩⟩
      refine ⟨.ref d, rfl, d, c, 8, rfl, D2.new np, by decide, by decide, fun v3 H3 a3 b3 D3 K3 => ⟨rfl, .inr ⟨_, rfl, p, _, _, _, rfl, rfl, SqL.of (K3 p _ (D2.ned np).1 (D2.ned np).2 upd_same), pick2 _ _ _, ?_⟩⟩⟩
      have K := ((K1.trans K2).trans (Kp.new (o := .lst [.int (1 + v1), .int (1 + v2)]) np)).trans K3
      by_cases hk : decide (V.int v3 = V.int 5) = true
      · rw [hk]
        exact ⟨1 + v2, rfl, by omega, by omega, D3, K⟩
      · rw [Bool.not_eq_true] at hk
        rw [hk]
        exact ⟨1 + v1, rfl, by omega, by omega, D3, K⟩
    rintro σ' H0 ⟨n, rfl, hn1, hn2, hD0, K0⟩
    -- count
    refine ⟨fun σ' H' => ∃ k : Int, σ' = [some (.ref d), some (.int n), some (.int k), none, none, none, none] ∧ 0 ≤ k ∧ k ≤ 120 ∧ Deck H' d c ∧ Kp d c H H', ?_, ?_⟩
    · refine ⟨.ref d, rfl, d, c, 13, rfl, hD0, by decide, by decide, fun v1 H1 a1 b1 D1 K1 => ⟨.ref d, rfl, d, c, 121, rfl, D1, by decide, by decide, fun v2 H2 a2 b2 D2 K2 => ⟨by show 2 ≤ sizeLine; decide, fun p np => ?_⟩⟩⟩
      refine ⟨.ref d, rfl, d, c, 8, rfl, D2.new np, by decide, by decide, fun v3 H3 a3 b3 D3 K3 => ⟨rfl, .inr ⟨_, rfl, p, _, _, _, rfl, rfl, SqL.of (K3 p _ (D2.ned np).1 (D2.ned np).2 upd_same), pick2 _ _ _, ?_⟩⟩⟩
      have K := (((K0.trans K1).trans K2).trans (Kp.new (o := .lst [.int v1, .int v2]) np)).trans K3
      by_cases hk : decide (V.int v3 = V.int 3) = true
      · rw [hk]
        exact ⟨v2, rfl, by omega, by omega, D3, K⟩
      · rw [Bool.not_eq_true] at hk
        rw [hk]
        exact ⟨v1, rfl, by omega, by omega, D3, K⟩
    clear hD0 K0 H0
    rintro σ' H0 ⟨k, rfl, hk1, hk2, hD0, K0⟩
    -- ties = []
    refine ⟨Nat.zero_le _, fun L nL => ?_⟩
    have hLd := hD0.ned nL
    have nL0 : H L = none := by
      cases e : H L with
      | none => rfl
      | some o =>
        rw [K0 L o hLd.1 hLd.2 e] at nL
        cases nL
    -- the loop
    refine ⟨.int k, rfl, .int n, rfl, n, 1, rfl, rfl, .inr ⟨_, rfl, k, _, rfl, rfl, .inl ⟨by omega, by omega⟩, _, rfl, ?_, ?_, ?_⟩⟩
    · by_cases hb : decide ((1 : Int) < n) = true
      · rw [hb]
        show -(2 ^ 62) ≤ k * 1
        omega
      · rw [Bool.not_eq_true] at hb
        rw [hb]
        show -(2 ^ 62) ≤ k * 0
        omega
    · by_cases hb : decide ((1 : Int) < n) = true
      · rw [hb]
        show k * 1 < 2 ^ 62
        omega
      · rw [Bool.not_eq_true] at hb
        rw [hb]
        show k * 0 < 2 ^ 62
        omega
    generalize hN : (k * (if decide ((1 : Int) < n) = true then 1 else 0)).toNat = N
    have hN2 : N ≤ 120 ∧ (0 < N → 1 < n) := by
      by_cases hb : (1 : Int) < n
      · rw [if_pos (decide_eq_true hb)] at hN
        exact ⟨by omega, fun _ => hb⟩
      · rw [if_neg (by simpa using hb)] at hN
        exact ⟨by omega, fun z => by omega⟩
    refine for_range (lo := 0) (n := N) (fun i σ' H' => ∃ (y4 y5 y6 : Option V) (vs : List V) (ts : List Tie), σ' = [some (.ref d), some (.int n), some (.int k), some (.ref L), y4, y5, y6] ∧ H' L = some (.lst vs) ∧ Paired (TieV H') vs ts ∧ ts.length = i ∧ (∀ t ∈ ts, TieOk n t) ∧ Deck H' d c ∧ Kp d c H H') ?_ ?_ ?_
    · exact ⟨none, none, none, [], [], rfl, upd_same, .nil, rfl, fun t ht => by simp at ht, hD0.new nL, K0.trans (Kp.new nL)⟩
    · rintro i σ' H1 hi ⟨y4, y5, y6, vs, ts, rfl, hL, hP, hlen, hok, D1, K1⟩
      have hn := hN2.2 (by omega)
      -- one, other
      refine ⟨.ref d, rfl, .int n, rfl, d, c, n, rfl, D1, by omega, by omega, fun v1 H2 a1 b1 D2 K2 => ?_⟩
      refine ⟨.int v1, rfl, v1, 1, rfl, rfl, .ref d, rfl, .int n, rfl, n, 1, rfl, rfl, d, c, n - 1, rfl, D2, by omega, by omega, fun v2 H3 a2 b2 D3 K3 => ⟨v1 + 1, v2, rfl, rfl, .int n, rfl, _, n, rfl, rfl, show (0 : Int) < n by omega, ?_⟩⟩
      have hL3 : H3 L = some (.lst vs) := K3 _ _ hLd.1 hLd.2 (K2 _ _ hLd.1 hLd.2 hL)
      have hP3 : Paired (TieV H3) vs ts := ties_tk ((K2.tk D1).trans (K3.tk D2)) hP
      have K13 : Kp d c H H3 := (K1.trans K2).trans K3
      -- as one ahead, the other way about
      refine ⟨fun σ' H' => ∃ (y4 : Option V) (t : Tie), σ' = [some (.ref d), some (.int n), some (.int k), some (.ref L), y4, some (.int t.one), some (.int t.other)] ∧ TieOk n t ∧ H' L = some (.lst vs) ∧ Paired (TieV H') vs ts ∧ Deck H' d c ∧ Kp d c H H', ?_, ?_⟩
      · have ok1 : TieOk n ⟨v1, (v1 + 1 + v2) % n, false⟩ := ⟨a1, b1, (mod_rng (by omega)).1, (mod_rng (by omega)).2, other_ne a1 b1 a2 b2⟩
        refine ⟨.ref L, rfl, Nat.zero_le _, fun p np => ⟨L, p, vs, rfl, rfl, SqL.of (same_new np _ _ hL3), SqL.of upd_same, _, rfl, ?_⟩⟩
        by_cases hvs : vs = []
        · subst hvs
          exact ⟨_, ⟨v1, (v1 + 1 + v2) % n, false⟩, rfl, ok1, same_new np _ _ hL3, ties_tk (Same.tk (same_new np)) hP3, D3.new np, K13.trans (Kp.new np)⟩
        · have hpos : 0 < vs.length := List.length_pos_iff.mpr hvs
          have hb : (!vs.isEmpty) = true := by
            cases vs with
            | nil => exact absurd rfl hvs
            | cons z zs => rfl
          rw [hb]
          refine ⟨.ref d, rfl, d, c, 4, rfl, D3.new np, by decide, by decide, fun v3 H4 a3 b3 D4 K4 => ⟨rfl, _, rfl, ?_⟩⟩
          have hL4 : H4 L = some (.lst vs) := K4 _ _ hLd.1 hLd.2 (same_new np _ _ hL3)
          have hP4 : Paired (TieV H4) vs ts := ties_tk (K4.tk (D3.new np)) (ties_tk (Same.tk (same_new np)) hP3)
          have K14 : Kp d c H H4 := (K13.trans (Kp.new np)).trans K4
          refine ite2 (fun _ => ?_) (fun _ => ?_)
          · have hlv : vs.length = ts.length := Paired.length hP4
            refine ⟨.ref L, rfl, .ref d, rfl, .ref L, rfl, L, vs, rfl, .inl (SqL.of hL4), d, c, vs.length, rfl, D4, by omega, by omega, fun v4 H5 a4 b4 D5 K5 => ?_⟩
            have hL5 : H5 L = some (.lst vs) := K5 _ _ hLd.1 hLd.2 hL4
            have hP5 : Paired (TieV H5) vs ts := ties_tk (K5.tk D4) hP4
            obtain ⟨v, e1, e2⟩ := getI a4 b4
            obtain ⟨t, e3, a, rfl, e4⟩ := Paired.at hP5 e2
            have okt : TieOk n t := hok t (List.mem_of_getElem? e3)
            refine ⟨L, vs, v4, _, rfl, rfl, SqL.of hL5, e1, 2, rfl, a, _, rfl, SqT.of e4, fun z => absurd z.2 (show ¬ (HT.sIx 3 3 (some 2) = 3) by decide), fun _ q2 nq => ?_⟩
            refine ⟨q2, _, rfl, SqT.of upd_same, rfl, _, _, rfl, _, _, rfl, rfl, _, ⟨t.other, t.one, false⟩, rfl, ⟨okt.2.2.1, okt.2.2.2.1, okt.1, okt.2.1, Ne.symm okt.2.2.2.2⟩, same_new nq _ _ hL5, ties_tk (Same.tk (same_new nq)) hP5, D5.new nq, (K14.trans K5).trans (Kp.new nq)⟩
          · exact ⟨_, ⟨v1, (v1 + 1 + v2) % n, false⟩, rfl, ok1, hL4, hP4, D4, K14⟩
      rintro σ' H4 ⟨y, t, rfl, okt, hL4, hP4, D4, K4⟩
      -- append
      refine ⟨.ref L, rfl, .inl ⟨rfl, _, SqL.of hL4⟩, .int t.one, rfl, .int t.other, rfl, by show 2 ≤ sizeLine; decide, fun p np => ⟨.ref d, rfl, d, c, 2, rfl, D4.new np, by decide, by decide, fun v5 H5 a5 b5 D5 K5 => ?_⟩⟩
      have e5 : atI [V.str "friend", V.str "foe"] v5 = some (.str (kindS (decide (v5 = 1)))) := by
        have h01 : v5 = 0 ∨ v5 = 1 := by omega
        rcases h01 with e | e <;> subst e <;> rfl
      refine ⟨p, _, v5, _, rfl, rfl, SqL.of (K5 p _ (D4.ned np).1 (D4.ned np).2 upd_same), e5, by show 3 ≤ sizeLine; decide, fun q2 nq => ?_⟩
      have hL5 : H5 L = some (.lst vs) := K5 _ _ hLd.1 hLd.2 (same_new np _ _ hL4)
      have hL6 : (upd H5 q2 (.tup [.int t.one, .int t.other, .str (kindS (decide (v5 = 1)))])) L = some (.lst vs) := same_new nq _ _ hL5
      have hP6 := ties_tk (Same.tk (same_new (o := .tup [.int t.one, .int t.other, .str (kindS (decide (v5 = 1)))]) nq)) (ties_tk (K5.tk (D4.new np)) (ties_tk (Same.tk (same_new np)) hP4))
      have hlv : vs.length = ts.length := Paired.length hP4
      refine ⟨L, vs, _, rfl, rfl, hL6, small1000 (by omega), ?_⟩
      refine ⟨_, _, _, vs ++ [.ref q2], ts ++ [⟨t.one, t.other, decide (v5 = 1)⟩], rfl, upd_same, Paired.snoc (ties_tk (tk_lst hL6) hP6) ⟨q2, rfl, tk_lst hL6 _ _ upd_same⟩, by rw [List.length_append, hlen]; rfl, fun t' ht => ?_, (D5.new nq).mut hLd.1 hLd.2, (((K4.trans (Kp.new np)).trans K5).trans (Kp.new nq)).mut nL0⟩
      rcases List.mem_append.mp ht with h | h
      · exact hok t' h
      · rw [List.mem_singleton.mp h]
        exact okt
    · rintro σ' H1 ⟨y4, y5, y6, vs, ts, rfl, hL, hP, hlen, hok, D1, K1⟩
      -- return
      refine ⟨.int n, rfl, .ref L, rfl, L, vs, rfl, .inl ⟨SqL.of hL, fun b nb => ⟨by show 2 ≤ sizeLine; decide, fun a na => ?_⟩⟩⟩
      have s2 := (same_new (o := .tup vs) nb).trans (same_new (o := .tup [.int n, .ref b]) na)
      exact q _ n ts _ ⟨a, b, vs, rfl, upd_same, same_new na _ _ upd_same, ties_tk (Same.tk s2) hP⟩ ⟨hn1, hn2, by omega, hok⟩ (D1.same s2) (K1.trans (Same.kp s2))
end
/-! ### tuples cut and put together -/
section
variable {X : Cx}
theorem cutV_whole {xs : List V} {lo hi : Option Int} (h : HT.sIx xs.length 0 lo = 0 ∧ HT.sIx xs.length xs.length hi = xs.length) : cutV xs lo hi = xs := by
  unfold cutV
  rw [h.1, h.2]
  simp
def rSlU : V → Option Int → Option Int → Hp → VK → Prop := fun x lo hi H Q => ∃ a xs, x = .ref a ∧ H a = some (.tup xs) ∧ ∀ r H', Same H H' → H' r = some (.tup (cutV xs lo hi)) → Q (.ref r) H'
theorem sl_tupU : SlR X rSlU := by
  intro pins s σ H x v vl vu lo hi sl Q I rx hs pl pu h
  obtain ⟨a, xs, rfl, hx, q⟩ := h
  refine sl_tupA pins s σ H _ v vl vu lo hi sl Q I rx hs pl pu ⟨a, xs, rfl, SqT.of hx, fun hw => ?_, fun _ p np => ?_⟩
  · exact q a H (Same.refl H) (by rw [cutV_whole hw]; exact hx)
  · exact q p _ (same_new np) upd_same
def rCatU : R2 := fun x y H Q => ∃ a b xs ys, x = .ref a ∧ y = .ref b ∧ H a = some (.tup xs) ∧ H b = some (.tup ys) ∧ xs.length + ys.length ≤ 100000 ∧ ∀ r H', Same H H' → H' r = some (.tup (xs ++ ys)) → Q (.ref r) H'
theorem op_catU : OpR X (binaryOp .Add) rCatU := by
  intro pins s σ H x y v u Q I rx ry h
  obtain ⟨a, b, xs, ys, rfl, rfl, ha, hb, hz, q⟩ := h
  refine op_catA pins s σ H _ _ v u Q I rx ry ⟨a, b, xs, ys, rfl, rfl, SqT.of ha, SqT.of hb, Evl.sz_of hz, fun e => ?_, fun _ e => ?_, fun _ _ p np => ?_⟩
  · subst e
    exact q b H (Same.refl H) hb
  · subst e
    exact q a H (Same.refl H) (by rw [List.append_nil]; exact ha)
  · exact q p _ (same_new np) upd_same
end
/-! ### things of any kind -/
/-- its kind is known -/
def Kn (H : Hp) : V → Prop
  | .non => True
  | .bl _ => True
  | .int _ => True
  | .str _ => True
  | .ref a => (∃ xs, H a = some (.lst xs)) ∨ (∃ xs, H a = some (.tup xs)) ∨ ∃ kvs, H a = some (.dK kvs)
  | _ => False
def isI : V → Bool
  | .int _ => true
  | .bl _ => true
  | _ => false
def isB : V → Bool
  | .bl _ => true
  | _ => false
def isW : V → Bool
  | .int _ => true
  | _ => false
def isT (H : Hp) : V → Bool
  | .ref a => match H a with
    | some (.tup _) => true
    | _ => false
  | _ => false
section
variable {K : PySem.W.Frag} {H : Hp}
theorem kn_int {v : V} (h : Kn H v) : ∃ t, TyX K H v t ∧ PySem.W.kitOne K t (.type "int") = some (isI v) := by
  cases v with
  | non => exact ⟨_, .base .non, kit_ty (r := false) (by decide +kernel)⟩
  | bl b => exact ⟨_, .base (.bl b), kit_ty (r := true) (by decide +kernel)⟩
  | int i => exact ⟨_, .base (.int i), kit_ty (r := true) (by decide +kernel)⟩
  | str x => exact ⟨_, .base (.str x), kit_ty (r := false) (by decide +kernel)⟩
  | ref a =>
    rcases h with ⟨xs, h⟩ | ⟨xs, h⟩ | ⟨xs, h⟩
    · exact ⟨_, .base (.lst h), kit_ty (r := false) (by decide +kernel)⟩
    · exact ⟨_, .base (.tup h), kit_ty (r := false) (by decide +kernel)⟩
    · exact ⟨_, .base (.dK h), kit_ty (r := false) (by decide +kernel)⟩
  | byt b => exact h.elim
  | flt b => exact h.elim
  | ty n => exact h.elim
theorem kn_bool {v : V} (h : Kn H v) : ∃ t, TyX K H v t ∧ PySem.W.kitOne K t (.type "bool") = some (isB v) := by
  cases v with
  | non => exact ⟨_, .base .non, kit_ty (r := false) (by decide +kernel)⟩
  | bl b => exact ⟨_, .base (.bl b), kit_ty (r := true) (by decide +kernel)⟩
  | int i => exact ⟨_, .base (.int i), kit_ty (r := false) (by decide +kernel)⟩
  | str x => exact ⟨_, .base (.str x), kit_ty (r := false) (by decide +kernel)⟩
  | ref a =>
    rcases h with ⟨xs, h⟩ | ⟨xs, h⟩ | ⟨xs, h⟩
    · exact ⟨_, .base (.lst h), kit_ty (r := false) (by decide +kernel)⟩
    · exact ⟨_, .base (.tup h), kit_ty (r := false) (by decide +kernel)⟩
    · exact ⟨_, .base (.dK h), kit_ty (r := false) (by decide +kernel)⟩
  | byt b => exact h.elim
  | flt b => exact h.elim
  | ty n => exact h.elim
theorem kn_tup {v : V} (h : Kn H v) : ∃ t, TyX K H v t ∧ PySem.W.kitOne K t (.type "tuple") = some (isT H v) := by
  cases v with
  | non => exact ⟨_, .base .non, kit_ty (r := false) (by decide +kernel)⟩
  | bl b => exact ⟨_, .base (.bl b), kit_ty (r := false) (by decide +kernel)⟩
  | int i => exact ⟨_, .base (.int i), kit_ty (r := false) (by decide +kernel)⟩
  | str x => exact ⟨_, .base (.str x), kit_ty (r := false) (by decide +kernel)⟩
  | ref a =>
    unfold isT
    rcases h with ⟨xs, h⟩ | ⟨xs, h⟩ | ⟨xs, h⟩
    · exact ⟨_, .base (.lst h), by simp only [h]; exact kit_ty (r := false) (by decide +kernel)⟩
    · exact ⟨_, .base (.tup h), by simp only [h]; exact kit_ty (r := true) (by decide +kernel)⟩
    · exact ⟨_, .base (.dK h), by simp only [h]; exact kit_ty (r := false) (by decide +kernel)⟩
  | byt b => exact h.elim
  | flt b => exact h.elim
  | ty n => exact h.elim
theorem isT_at {v : V} (h : isT H v = true) : ∃ a xs, v = .ref a ∧ H a = some (.tup xs) := by
  cases v with
  | ref a =>
    unfold isT at h
    cases e : H a with
    | none => simp only [e] at h; cases h
    | some o =>
      cases o with
      | tup xs => exact ⟨a, xs, rfl, e⟩
      | _ => simp only [e] at h; cases h
  | _ => cases h
theorem isT_of {a : Addr} {xs : List V} (h : H a = some (.tup xs)) : isT H (.ref a) = true := by
  unfold isT
  simp only [h]
end
section
variable {P : Program} {w : World} {K : PySem.W.Frag} {mg : Str → Option Value} {base : Heap}
def spWhole : Sp := fun vs H Q _ => ∃ v, vs = [v] ∧ Kn H v ∧ Q (.bl (isW v)) H
theorem and_whole {v : V} : (isI v && !isB v) = isW v := by cases v <;> rfl
theorem ok_is_whole {f : Addr} {fd : FuncData} (F : Fun K "is_whole" "is_whole" s_is_whole f fd) (M : Free mg) : FnOk P w K mg base CX0 1 f fd ["thing"] spWhole := by
  refine F.ok sc_is_whole (fun vs H Q E h => ?_) (fun cdv A outer s H vs Q E hr h => ?_)
  · obtain ⟨v, rfl, _⟩ := h
    rfl
  · obtain ⟨v, rfl, hk, q⟩ := h
    refine ⟨_, (pss_one (ps_ret (pe_and (pe_callB call_isi (by rfl) M.isinstance (by decide +kernel) (pa_cons (pv 0) (pa_cons (pe_bltn (v := .ty "int") (by rfl) M.int (by decide +kernel) rfl) pa_nil))) (pe_one (pe_not (pe_callB call_isi (by rfl) M.isinstance (by decide +kernel) (pa_cons (pv 0) (pa_cons (pe_bltn (v := .ty "bool") (by rfl) M.bool (by decide +kernel) rfl) pa_nil)))))))), ?_⟩
    obtain ⟨t1, h1, e1⟩ := kn_int (K := K) hk
    obtain ⟨t2, h2, e2⟩ := kn_bool (K := K) hk
    refine ⟨v, rfl, v, _, t1, _, _, rfl, .ty "int", h1, e1, _, rfl, ?_⟩
    rw [← and_whole] at q
    cases hi : isI v with
    | false =>
      rw [hi] at q
      exact q
    | true =>
      rw [hi] at q
      exact ⟨v, rfl, v, _, t2, _, _, rfl, .ty "bool", h2, e2, _, rfl, q⟩
theorem ok_l_whole {f : Addr} {fd : FuncData} (F : Fun K "_law_whole" "_law_whole" s_l_whole f fd) (M : Free mg) : FnOk P w K mg base CX0 1 f fd ["_law_thing"] spWhole := by
  refine F.ok sc_l_whole (fun vs H Q E h => ?_) (fun cdv A outer s H vs Q E hr h => ?_)
  · obtain ⟨v, rfl, _⟩ := h
    rfl
  · obtain ⟨v, rfl, hk, q⟩ := h
    refine ⟨_, (pss_one (ps_ret (pe_and (pe_callB call_isi (by rfl) M.isinstance (by decide +kernel) (pa_cons (pv 0) (pa_cons (pe_bltn (v := .ty "int") (by rfl) M.int (by decide +kernel) rfl) pa_nil))) (pe_one (pe_not (pe_callB call_isi (by rfl) M.isinstance (by decide +kernel) (pa_cons (pv 0) (pa_cons (pe_bltn (v := .ty "bool") (by rfl) M.bool (by decide +kernel) rfl) pa_nil)))))))), ?_⟩
    obtain ⟨t1, h1, e1⟩ := kn_int (K := K) hk
    obtain ⟨t2, h2, e2⟩ := kn_bool (K := K) hk
    refine ⟨v, rfl, v, _, t1, _, _, rfl, .ty "int", h1, e1, _, rfl, ?_⟩
    rw [← and_whole] at q
    cases hi : isI v with
    | false =>
      rw [hi] at q
      exact q
    | true =>
      rw [hi] at q
      exact ⟨v, rfl, v, _, t2, _, _, rfl, .ty "bool", h2, e2, _, rfl, q⟩
def wfrom (lo : Int) : V → Bool
  | .int i => decide (lo ≤ i)
  | _ => false
def spFrom : Sp := fun vs H Q _ => ∃ lo v, vs = [.int lo, v] ∧ Kn H v ∧ Q (.bl (wfrom lo v)) H
theorem ok_is_whole_from {f : Addr} {fd : FuncData} (F : Fun K "is_whole_from" "is_whole_from" s_is_whole_from f fd) (Dw : Df P w K mg base 1 "is_whole" ["thing"] spWhole) : FnOk P w K mg base CX0 2 f fd ["low", "thing"] spFrom := by
  obtain ⟨fW, fdW, GW, gW, kW, bW⟩ := Dw
  refine F.ok sc_is_whole_from (fun vs H Q E h => ?_) (fun cdv A outer s H vs Q E hr h => ?_)
  · obtain ⟨lo, v, rfl, _⟩ := h
    rfl
  · obtain ⟨lo, v, rfl, hk, q⟩ := h
    refine ⟨_, (pss_one (ps_ret (pe_and (pe_call GW hr (by rfl) gW kW bW .nil pass0 (pa_cons (pv 1) pa_nil)) (pe_one (pe_cmpR op_ge (pv 1) (pv 0) (nomark _)))))), ?_⟩
    refine ⟨v, rfl, v, rfl, hk, _, rfl, ?_⟩
    cases v with
    | int i => exact ⟨.int i, rfl, .int lo, rfl, i, lo, rfl, rfl, q⟩
    | _ => exact q
/-- the parts of a tuple -/
def parts (H : Hp) : V → Option (List V)
  | .ref a => match H a with
    | some (.tup xs) => some xs
    | _ => none
  | _ => none
theorem parts_of' {H : Hp} {a : Addr} {xs : List V} (h : H a = some (.tup xs)) : parts H (.ref a) = some xs := by
  unfold parts
  simp only [h]
theorem parts_none {H : Hp} {v : V} (h : isT H v = false) : parts H v = none := by
  cases v with
  | ref a =>
    unfold isT at h
    unfold parts
    cases e : H a with
    | none => simp only [e]
    | some o =>
      cases o with
      | tup xs => simp only [e] at h; cases h
      | _ => simp only [e]
  | _ => rfl
def lenIs (H : Hp) (v : V) (n : Int) : Bool := match parts H v with
  | some xs => decide ((xs.length : Int) = n)
  | none => false
def spTupleOf : Sp := fun vs H Q _ => ∃ n v, vs = [.int n, v] ∧ Kn H v ∧ Q (.bl (lenIs H v n)) H
theorem dec_int (a b : Int) : decide (V.int a = V.int b) = decide (a = b) := by
  by_cases h : a = b
  · rw [decide_eq_true h, h, decide_eq_true rfl]
  · rw [decide_eq_false h, decide_eq_false (fun z => h (V.int.inj z))]
theorem ok_is_tuple_of {f : Addr} {fd : FuncData} (F : Fun K "is_tuple_of" "is_tuple_of" s_is_tuple_of f fd) (M : Free mg) : FnOk P w K mg base CX0 1 f fd ["length", "thing"] spTupleOf := by
  refine F.ok sc_is_tuple_of (fun vs H Q E h => ?_) (fun cdv A outer s H vs Q E hr h => ?_)
  · obtain ⟨n, v, rfl, _⟩ := h
    rfl
  · obtain ⟨n, v, rfl, hk, q⟩ := h
    refine ⟨_, (pss_one (ps_ret (pe_and (pe_callB call_isi (by rfl) M.isinstance (by decide +kernel) (pa_cons (pv 1) (pa_cons (pe_bltn (v := .ty "tuple") (by rfl) M.tuple (by decide +kernel) rfl) pa_nil))) (pe_one (pe_cmpR op_eq (pe_callB call_len_seq (by rfl) M.len PySem.boot_len (pa_cons (pv 1) pa_nil)) (pv 0) (nomark _)))))), ?_⟩
    obtain ⟨t1, h1, e1⟩ := kn_tup (K := K) hk
    refine ⟨v, rfl, v, _, t1, _, _, rfl, .ty "tuple", h1, e1, _, rfl, ?_⟩
    unfold lenIs at q
    cases hi : isT H v with
    | false =>
      rw [parts_none hi] at q
      exact q
    | true =>
      obtain ⟨a, xs, rfl, e⟩ := isT_at hi
      rw [parts_of' e] at q
      refine ⟨.ref a, rfl, a, xs, rfl, .inr (SqT.of e), .int n, rfl, rfl, ?_⟩
      rw [dec_int]
      exact q
/-! ### a def whose code object stands at c: its own table is at Pt -/
structure FunC (K : PySem.W.Frag) (x qual : Str) (st : Stmt) (f : Addr) (fd : FuncData) (c : Addr) : Prop where
  ex : ∃ (oc : Value) (od : Option Addr) (kV doc pm : Value) (an : Option Addr) (ct : Value) (osl : Array (Option Value)),
    fd = PySem.W.fnOf x qual (defArgs st) (defBody st) (defScope st) .none kV doc pm an (.ref c) ct ∧ K.lookup f = some ⟨oc, od, .func fd, osl⟩ ∧ PySem.W.codeIn K (.ref c) qual = true
  kp : PySem.W.keepIn K (.ref f) = true
theorem FunC.ok {x qual : Str} {st : Stmt} {f c : Addr} {fd : FuncData} {N ps : List Str} {k : Nat} {sp : Sp} (F : FunC K x qual st f fd c) (S : FnScope N ps (defScope st)) (len : ∀ vs H Q E, sp vs H Q E → vs.length = ps.length)
    (hbody : ∀ (A : Around) (outer : List Env) (s : Shared) (H : Hp) (vs : List V) (Q : VK) (E : XK), Room k (A.deeper (envOfC qual (defScope st) s.heap.objs.size f (.ref c))) → sp vs H Q E →
      ∃ t, PSs (cxOf CX0 P w K mg base N qual (defScope st) f (.ref c) A outer s H E).nox (defBody st) t ∧ t { nx := fun _ H' => Q .non H', rt := Q } (start N vs) H) : FnOk P w K mg base CX0 (k + 1) f fd ps sp := by
  obtain ⟨oc, od, kV, doc, pm, an, ct, osl, rfl, lk, hcd⟩ := F.ex
  refine fn_of lk hcd S len fun A outer s H vs Q E hr hsp => ?_
  obtain ⟨t, h, q⟩ := hbody A outer s H vs Q E hr hsp
  exact ⟨t, h.nox, q⟩
theorem FunC.fn {x qual : Str} {st : Stmt} {f c : Addr} {fd : FuncData} (F : FunC K x qual st f fd c) : Fun K x qual st f fd := by
  obtain ⟨oc, od, kV, doc, pm, an, ct, osl, rfl, lk, hcd⟩ := F.ex
  exact ⟨⟨oc, od, kV, doc, pm, an, _, ct, osl, rfl, lk, hcd⟩, F.kp⟩
theorem parts_at {H : Hp} {v : V} {xs : List V} (h : parts H v = some xs) : ∃ a, v = .ref a ∧ H a = some (.tup xs) := by
  cases v with
  | ref a =>
    unfold parts at h
    cases e : H a with
    | none => simp only [e] at h; cases h
    | some o =>
      cases o with
      | tup ys => simp only [e] at h; cases h; exact ⟨a, rfl, e⟩
      | _ => simp only [e] at h; cases h
  | _ => cases h
end
/-! ### all but the tables is kept -/
structure Kt (Ps : List Addr) (H H' : Hp) : Prop where
  tab : ∀ P ∈ Ps, GxR.TabG H' P
  keep : ∀ b o, b ∉ Ps → H b = some o → H' b = some o
def Tabs (Ps : List Addr) (H : Hp) : Prop := ∀ P ∈ Ps, GxR.TabG H P
theorem Kt.refl {Ps : List Addr} {H : Hp} (h : Tabs Ps H) : Kt Ps H H := ⟨h, fun _ _ _ e => e⟩
theorem Kt.trans {Ps : List Addr} {H H1 H2 : Hp} (a : Kt Ps H H1) (b : Kt Ps H1 H2) : Kt Ps H H2 := ⟨b.tab, fun x o h e => b.keep x o h (a.keep x o h e)⟩
theorem Kt.same {Ps : List Addr} {H H' : Hp} (h : Tabs Ps H) (s : Same H H') : Kt Ps H H' := ⟨fun P hP => by obtain ⟨ps, e, t⟩ := h P hP; exact ⟨ps, s _ _ e, t⟩, fun b o _ e => s b o e⟩
theorem Kt.tabbed {Ps : List Addr} {P : Addr} {H H' : Hp} (h : Tabs Ps H) (hP : P ∈ Ps) (t : GxR.Tabbed P H H') : Kt Ps H H' := by
  refine ⟨fun Q hQ => ?_, fun b o hb e => ?_⟩
  · by_cases e : Q = P
    · rw [e]
      exact t.1
    · obtain ⟨ps, e1, t1⟩ := h Q hQ
      exact ⟨ps, by rw [t.2 Q e]; exact e1, t1⟩
  · rw [t.2 b (fun z => hb (by rw [z]; exact hP))]
    exact e
theorem Tabs.out {Ps : List Addr} {H : Hp} {a : Addr} {o : HO} (t : Tabs Ps H) (h : H a = some o) (no : ∀ ps, o ≠ .tbl ps) : a ∉ Ps := fun z => by
  obtain ⟨ps, e, _⟩ := t a z
  rw [e] at h
  cases h
  exact no _ rfl
theorem Kt.tup {Ps : List Addr} {a : Addr} {H H' : Hp} {xs : List V} (k : Kt Ps H H') (t : Tabs Ps H) (h : H a = some (.tup xs)) : H' a = some (.tup xs) := k.keep a _ (t.out h fun _ z => by cases z) h
theorem Kt.lst {Ps : List Addr} {a : Addr} {H H' : Hp} {xs : List V} (k : Kt Ps H H') (t : Tabs Ps H) (h : H a = some (.lst xs)) : H' a = some (.lst xs) := k.keep a _ (t.out h fun _ z => by cases z) h
theorem Kt.dct {Ps : List Addr} {a : Addr} {H H' : Hp} {xs : List (Key × V)} (k : Kt Ps H H') (t : Tabs Ps H) (h : H a = some (.dK xs)) : H' a = some (.dK xs) := k.keep a _ (t.out h fun _ z => by cases z) h
theorem Kt.tk {Ps : List Addr} {H H' : Hp} (k : Kt Ps H H') (t : Tabs Ps H) : Tk H H' := fun _ _ e => k.tup t e
theorem Kt.kn {Ps : List Addr} {H H' : Hp} (k : Kt Ps H H') (t : Tabs Ps H) {v : V} (h : Kn H v) : Kn H' v := by
  cases v with
  | ref a =>
    rcases h with ⟨xs, h⟩ | ⟨xs, h⟩ | ⟨xs, h⟩
    · exact .inl ⟨xs, k.lst t h⟩
    · exact .inr (.inl ⟨xs, k.tup t h⟩)
    · exact .inr (.inr ⟨xs, k.dct t h⟩)
  | _ => exact h
theorem Kt.deck {Ps : List Addr} {d c : Addr} {H H' : Hp} (k : Kt Ps H H') (t : Tabs Ps H) (D : Deck H d c) : Deck H' d c := by
  obtain ⟨cells, st, n, e1, e2, e3⟩ := D
  exact ⟨cells, st, n, k.lst t e1, k.lst t e2, e3⟩
/-! ### x in t of data of any depth -/
def rInT (K : PySem.W.Frag) : R2 := fun x y H Q => ∃ d ds, Dp K H x d ∧ Dp K H y (.tuple ds) ∧ SeqAt.shaped d = true ∧ SeqAt.shaped (.tuple ds) = true ∧ Q (.bl (ds.any fun z => PyData.eqv z d)) H
theorem op_inTup {X : Cx} (hu : X.A.units + 65 < cLine) : OpR X (compareOp .In) (rInT X.K) := by
  intro pins s σ H x y v u Q I rx ry want
  obtain ⟨d, ds, hd, he, sd, se, q⟩ := want
  obtain ⟨as, r1⟩ := Dp.reads I d x v hd rx
  obtain ⟨bs, r2⟩ := Dp.reads I (.tuple ds) y u he ry
  have lay : PyData.canLayAll0 ds = true := by
    have z := SeqAt.canLay_of_shaped se
    rw [PyData.canLay0] at z
    exact z
  have deep := SeqAt.depth_of_shaped sd
  exact SeqAt.in_tuple_reads r2 r1 lay (SeqAt.canLay_of_shaped sd) (by omega) ⟨.bl _, H, I, rfl, q⟩
/-! ### whole numbers below a limit -/
def wbelow (lim : Int) : V → Bool
  | .int i => decide (0 ≤ i) && decide (i < lim)
  | _ => false
def spBelow : Sp := fun vs H Q _ => ∃ lim v, vs = [.int lim, v] ∧ Kn H v ∧ Q (.bl (wbelow lim v)) H
section
variable {P : Program} {w : World} {K : PySem.W.Frag} {mg : Str → Option Value} {base : Heap}
theorem ok_is_whole_below {f : Addr} {fd : FuncData} (F : Fun K "is_whole_below" "is_whole_below" s_is_whole_below f fd) (D1 : Df P w K mg base 1 "is_whole" ["thing"] spWhole) : FnOk P w K mg base CX0 2 f fd ["limit", "thing"] spBelow := by
  obtain ⟨f1, fd1, G1, g1, k1, b1⟩ := D1
  refine F.ok sc_is_whole_below (fun vs H Q E h => ?_) (fun cdv A outer s H vs Q E hr h => ?_)
  · obtain ⟨lim, v, rfl, _⟩ := h
    rfl
  · obtain ⟨lim, v, rfl, hk, q⟩ := h
    refine ⟨_, (pss_one (ps_ret (pe_and (pe_call G1 hr (by rfl) g1 k1 b1 .nil pass0 (pa_cons (pv 1) pa_nil)) (pe_one (pe_chain op_le op_lt pe_int (pv 1) (pv 0)))))), ?_⟩
    refine ⟨v, rfl, v, rfl, hk, _, rfl, ?_⟩
    cases v with
    | int i =>
      refine ⟨.int i, rfl, 0, i, rfl, rfl, _, rfl, ?_⟩
      have e : wbelow lim (.int i) = (decide (0 ≤ i) && decide (i < lim)) := rfl
      rw [e] at q
      by_cases h0 : (0 : Int) ≤ i
      · rw [decide_eq_true h0] at q ⊢
        rw [Bool.true_and] at q
        exact ⟨.int lim, rfl, i, lim, rfl, rfl, q⟩
      · rw [decide_eq_false h0] at q ⊢
        exact q
    | _ => exact q
end
/-! ### a text against a dict -/
section
open PySem.SeqAt PySem.MeetsSeq
open PySem.AutoSeq1 (wpAny_loadPart')
variable {A : Around} {s : Shared}
theorem str_eq_declines_dict (b : Str) (u : Tok) (l : Addr) (o : Obj) : Meets (Builtin.«str.__eq__» ⟨[.str b u, .ref l], []⟩) (fun _ R s => s.heap.get? l = some o ∧ o.cls = .type "dict" ∧ (∃ es ep, o.data = .dict es ep) ∧ R (.ok (.ret .notImplemented)) s) :=
  .of_wp fun prog w A R s h => by
    obtain ⟨hp, g, d, tk, os⟩ := s
    obtain ⟨hl, hc, ⟨es, ep, hd⟩, h⟩ := h
    obtain ⟨cls, dd, data, sl⟩ := o
    simp only at hc hd
    subst hc hd
    wp_walk using wpAny_loadPart' hl, wpAny_load hl
    exact ⟨_, rfl, h⟩
theorem dict_eq_declines_str (l : Addr) (o : Obj) (b : Str) (u : Tok) : Meets (Builtin.«dict.__eq__» ⟨[.ref l, .str b u], []⟩) (fun _ R s => s.heap.get? l = some o ∧ o.cls = .type "dict" ∧ (∃ es ep, o.data = .dict es ep) ∧ R (.ok (.ret .notImplemented)) s) :=
  .of_wp fun prog w A R s h => by
    obtain ⟨hp, g, d, tk, os⟩ := s
    obtain ⟨hl, hc, ⟨es, ep, hd⟩, h⟩ := h
    obtain ⟨cls, dd, data, sl⟩ := o
    simp only at hc hd
    subst hc hd
    have f1 := F.sub_str_dict
    wp_walk using wpAny_loadPart' hl
    exact ⟨_, rfl, h⟩
theorem rc_str_dict {l : Addr} {o : Obj} {es : Array DictEntry} {ep : Nat} (b : Str) (u : Tok) (ho : s.heap.get? l = some o) (hc : o.cls = .type "dict") (hd : o.data = .dict es ep) (hu : A.units < cLine) : RcAt A s (.str b u) (.ref l) false := fun prog w E Q h => by
  exact rc_eq_decline_or (k := false) (typeIs_str s b u) ⟨_, ho, hc⟩ (by decide) F.sub_dict_str F.slot_str_eq F.slot_dict_eq_refl
    (fun _ hq => call_meets F.slot_str_eq (typeIs_str s b u) F.entry_str_eq (F.args_str_eq_2 _ _) (str_eq_declines_dict b u l o) ⟨ho, hc, ⟨_, _, hd⟩, hq⟩)
    (fun _ hq => call_meets F.slot_dict_eq_refl ⟨_, ho, hc⟩ F.entry_dict_eq (F.args_dict_eq_2 _ _) (dict_eq_declines_str l o b u) ⟨ho, hc, ⟨_, _, hd⟩, hq⟩)
    (fun _ hq => wpAny_of_eq (rfl : isSame (.str b u) (.ref l) = pure false) hq) (.inr hu) h
theorem eq_str_dict {l : Addr} {o : Obj} {es : Array DictEntry} {ep : Nat} (b : Str) (u : Tok) (ho : s.heap.get? l = some o) (hc : o.cls = .type "dict") (hd : o.data = .dict es ep) (hu : A.units < cLine) : EqAt A s (.str b u) (.ref l) false := fun prog w E Q h => by
  unfold eqBool
  refine wpAny_holding ?_
  refine wpAny_ite_split (fun hab => absurd (eq_of_beq hab) nofun) (fun _ => ?_)
  exact wpAny_bind (rc_str_dict b u ho hc hd hu prog w E _ (wpAny_truthy_bool h))
end
/-! ### kind in KINDS -/
def KD (K : PySem.W.Frag) (H : Hp) (x : V) : Prop := (∃ d, Dp K H x d ∧ SeqAt.shaped d = true) ∨ ∃ a kvs, x = .ref a ∧ H a = some (.dK kvs)
def inK (ss : List Str) : V → Bool
  | .str t => ss.any fun y => y == t
  | _ => false
def rInK (K : PySem.W.Frag) : R2 := fun x y H Q => ∃ b ss, y = .ref b ∧ SqT K H b (ss.map V.str) ∧ PyData.canLayAll0 (ss.map PyData.str) = true ∧ KD K H x ∧ Q (.bl (inK ss x)) H
theorem dp_strs {K : PySem.W.Frag} {H : Hp} : ∀ (ss : List Str), DpAll K H (ss.map V.str) (ss.map PyData.str)
  | [] => .nil
  | s :: ss => .cons (.str s) (dp_strs ss)
theorem depth_strs : ∀ (ss : List Str), PyData.depthAll (ss.map PyData.str) = 0
  | [] => rfl
  | s :: ss => by rw [List.map_cons, PyData.depthAll, depth_strs ss]; rfl
theorem inK_eqv {K : PySem.W.Frag} {H : Hp} {x : V} {d : PyData} (h : Dp K H x d) (ss : List Str) : ((ss.map PyData.str).any fun y => PyData.eqv y d) = inK ss x := by
  have no : (∀ y : Str, PyData.eqv (.str y) d = false) → ((ss.map PyData.str).any fun y => PyData.eqv y d) = false := fun h => by
    rw [List.any_map, List.any_eq_false]
    intro y _
    simp only [Function.comp]
    rw [h y]
    exact Bool.false_ne_true
  cases h with
  | str t =>
    rw [List.any_map]
    rfl
  | _ => exact no fun y => rfl
theorem op_inK {X : Cx} (hu : X.A.units + 65 < cLine) : OpR X (compareOp .In) (rInK X.K) := by
  intro pins s σ H x y v u Q I rx ry want
  obtain ⟨b, ss, rfl, hb, lay, hk, q⟩ := want
  obtain rfl : u = Value.ref b := ry
  rcases hk with ⟨d, hd, sd⟩ | ⟨a, kvs, rfl, ha⟩
  · obtain ⟨as, r1⟩ := Dp.reads I d x v hd rx
    obtain ⟨bs, r2⟩ := Dp.reads I (.tuple (ss.map .str)) (.ref b) (.ref b) (.tup hb (dp_strs ss)) rfl
    refine SeqAt.in_tuple_reads r2 r1 lay (SeqAt.canLay_of_shaped sd) (by rw [depth_strs]; omega) ⟨.bl _, H, I, rfl, ?_⟩
    rw [inK_eqv hd ss]
    exact q
  · obtain rfl : v = Value.ref a := rx
    obtain ⟨its, rv, ⟨o, ho, hc, n, hd⟩, hlen⟩ := I.tuple hb
    obtain ⟨hz, hne, vs, kv, o2, es, ep, ho2, ed, hd2, ko, pr, nd⟩ := I.hok a _ ha
    have ev : ∀ y ∈ its, ∃ (t : Str) (k : Tok), y = .str t k := fun y hy => by
      obtain ⟨i, hi, rfl⟩ := List.getElem_of_mem hy
      have hl : i < ss.length := by
        have := rv.length
        rw [List.length_map] at this
        omega
      obtain ⟨u, eu, ru⟩ := Vals.get (i := i) (x := .str ss[i]) rv (by rw [List.getElem?_map, List.getElem?_eq_getElem hl]; rfl)
      rw [List.getElem?_eq_getElem hi] at eu
      obtain ⟨t, et⟩ := ru
      exact ⟨_, t, (Option.some.inj eu).trans et⟩
    refine SeqAt.in_tupleAt (fun _ => false) ⟨o, ho, hc, n, hd⟩ (fun y hy => ?_) ?_
    · obtain ⟨t, k, rfl⟩ := ev y (by simpa using hy)
      exact eq_str_dict t k ho2 ed.1 hd2 (by show X.A.units + 1 < cLine; omega)
    · refine ⟨.bl false, H, I, ?_, q⟩
      show Value.bool _ = Value.bool false
      rw [Array.any_eq_false.mpr (fun _ _ => Bool.false_ne_true)]
theorem lay_kinds : PyData.canLayAll0 ([("friend" : Str), "foe"].map PyData.str) = true := by decide +kernel
/-! ### own rules: max of a tuple, t.index, o[i] of a list by values, t * k -/
section
variable {X : Cx}
def rMaxT (K : PySem.W.Frag) : List V → Hp → VK → Prop := fun vs H Q => ∃ (a : Addr) (ns : List Int), vs = [V.ref a] ∧ SqT K H a (ns.map V.int) ∧ 0 < ns.length ∧ ∀ m, m ∈ ns → (∀ y, y ∈ ns → y ≤ m) → Q (.int m) H
theorem foldl_max : ∀ (ns : List Int) (n : Int), ns.foldl max n ∈ n :: ns ∧ ∀ y ∈ n :: ns, y ≤ ns.foldl max n
  | [], n => ⟨by simp, fun y hy => by simp at hy; rw [hy]; exact Int.le_refl _⟩
  | x :: xs, n => by
    obtain ⟨h1, h2⟩ := foldl_max xs (max n x)
    rw [List.foldl_cons]
    refine ⟨?_, fun y hy => ?_⟩
    · rcases List.mem_cons.mp h1 with e | e
      · rw [e]
        by_cases h : n ≤ x
        · rw [Int.max_eq_right h]; simp
        · rw [Int.max_eq_left (by omega)]; simp
      · exact List.mem_cons_of_mem _ (List.mem_cons_of_mem _ e)
    · have h3 := h2 (max n x) (by simp)
      rcases List.mem_cons.mp hy with e | e
      · subst e
        omega
      · rcases List.mem_cons.mp e with e | e
        · subst e
          omega
        · exact h2 y (List.mem_cons_of_mem _ e)
theorem dp_intsX {K : PySem.W.Frag} {H : Hp} : ∀ (xs : List Int), DpAll K H (xs.map V.int) (xs.map PyData.int)
  | [] => .nil
  | x :: xs => .cons (.int x) (dp_intsX xs)
theorem depth_intsX : ∀ xs : List Int, PyData.depthAll (xs.map PyData.int) = 0
  | [] => by simp [PyData.depthAll]
  | x :: xs => by simp [PyData.depthAll, PyData.depth, depth_intsX xs]
theorem cr_maxT (hc : X.calm = true) (hu : X.A.units + 65 < cLine) : CallR X (.builtin "max") (rMaxT X.K) := by
  intro pins s σ H vs us Q I r h
  obtain ⟨a, ns, rfl, hs, hne, q⟩ := h
  obtain ⟨its, rv, hl, _⟩ := I.tuple hs
  rw [Vals.ref1 r]
  obtain ⟨as, rs⟩ := Dp.readsAll I _ _ _ (dp_intsX ns) rv
  cases ns with
  | nil => exact absurd hne (by simp)
  | cons n ns =>
    have al : PySem.W.AlikeAll ((n :: ns).map PyData.int) := by
      refine ⟨fun x hx y hy => ?_, fun x hx => ?_⟩
      · obtain ⟨i, _, rfl⟩ := List.mem_map.mp hx
        obtain ⟨j, _, rfl⟩ := List.mem_map.mp hy
        rfl
      · obtain ⟨i, _, rfl⟩ := List.mem_map.mp hx
        intro z
        cases z
    refine PySem.W.max_tuple_data (x := .int n) (xs := ns.map PyData.int) (as := as) (I.ok.hd hc) hl (by simpa using rs) (by simpa using al) (by have := depth_intsX (n :: ns); rw [List.map_cons] at this; rw [this]; omega) fun i v h' tk bs _ rd hk => ?_
    rw [PySem.W.maxD_ints] at rd
    cases rd with
    | int _ t =>
      have f := foldl_max ns n
      exact ⟨.int _, H, I.kept hk, ⟨_, rfl⟩, q _ f.1 f.2⟩
def rGetL (K : PySem.W.Frag) : V → V → Hp → VK → Prop := fun x y H Q => ∃ p xs i v, x = .ref p ∧ y = .int i ∧ SqL K H p xs ∧ 0 ≤ i ∧ atI xs i = some v ∧ Q v H
theorem get_list : PGet X (rGetL X.K) := by
  intro pins s σ H x y v u Q I rx ry h
  obtain ⟨p, xs, i, z, rfl, rfl, hq, h0, he, q⟩ := h
  cases rx
  obtain ⟨t, rfl⟩ := ry
  obtain ⟨its, r, pl, hz⟩ := I.list hq
  obtain ⟨j, h1, h2, h3, h4, h5⟩ := atI_get he
  obtain ⟨w, ew, rw'⟩ := r.get h2
  have hl := r.length
  have hn := line63
  have hj : i.toNat = j := by
    rw [seqIndex_of h0 h5] at h1
    exact Option.some.inj h1
  exact wpAny_getItem_list pl.isList h0 (by omega) (by rw [hj]; simpa using ew) ⟨z, H, I, rw', q⟩
theorem tuple_mul1 (l : Addr) (items : Array Value) (n : Nat) (dd : Option Addr) (sl : Array (Option Value)) (u : Tok) :
    Meets (Builtin.«tuple.__mul__» ⟨[.ref l, .int 1 u], []⟩) (fun _ R s => s.heap.get? l = some { cls := .type "tuple", dict := dd, data := .seq items n, slots := sl } ∧ R (.ok (.ret (Value.ref l))) s) :=
  .of_wp fun prog w A R s h => by
    obtain ⟨hp, g, d, tk, os⟩ := s
    obtain ⟨hl, h⟩ := h
    have f1 := AutoSeq1.idx_int
    have c1 : (items.isEmpty || (1 : Int) == 1) = true := by cases items.isEmpty <;> rfl
    wp_walk using wpAny_loadPart' hl
    repeat (first
      | (refine wpAny_ite_true (decide_eq_true c1) ?_; wp_walk using wpAny_loadPart' hl))
    exact ⟨_, rfl, h⟩
def rRepU : R2 := fun x y H Q => ∃ l k xs, x = .ref l ∧ y = .int k ∧ H l = some (.tup xs) ∧ xs ≠ [] ∧ 1 ≤ k ∧ k ≤ 1000 ∧ xs.length ≤ 1000 ∧ ∀ r H', Same H H' → H' r = some (.tup (List.replicate k.toNat xs).flatten) → Q (.ref r) H'
theorem op_repU : OpR X (binaryOp .Mult) rRepU := by
  intro pins s σ H x y v u Q I rx ry h
  obtain ⟨l, k, xs, rfl, rfl, hT, hne, h1, h2, hz, q⟩ := h
  by_cases hk : k = 1
  · subst hk
    cases rx
    obtain ⟨t, rfl⟩ := ry
    obtain ⟨its, r, ⟨⟨cls, dd, data, sl⟩, ho, hc, n, hd⟩, hs⟩ := I.tuple (SqT.of (K := X.K) hT)
    simp only at hc hd
    subst hc hd
    refine wpAny_binaryOp_repeat_ref (T := "tuple") (U := "int") (by decide) ⟨_, ho, rfl⟩ (fun s' => typeIs_int s' 1 t) noFill_tuple_mul F.fills_int_mul F.slot_int_rmul repeat_tuple F.slot_int_index.lookup
      (call_meets F.slot_int_rmul (typeIs_int s 1 t) F.entry_int_rmul (F.args_int_rmul_2 _ _) (int_rmul_tuple 1 t l its.toArray n dd sl)
        ⟨ho, rfl, ⟨_, ho, rfl⟩, call_meets F.slot_tuple_mul ⟨_, ho, rfl⟩ F.entry_tuple_mul (F.args_tuple_mul_2 _ _) (tuple_mul1 l its.toArray n dd sl t) ⟨ho, ?_⟩⟩)
    exact ⟨.ref l, H, I, rfl, q l H (Same.refl H) (by simpa using hT)⟩
  · exact op_repT pins s σ H _ _ v u Q I rx ry ⟨l, k, xs, rfl, rfl, SqT.of hT, hne, by omega, h2, hz, fun p np => q p _ (same_new np) upd_same⟩
def rIdxT (K : PySem.W.Frag) : V → List V → Hp → VK → Prop := fun x xs H Q => ∃ (p : Addr) (ns : List Int) (k : Int) (j : Nat), x = .ref p ∧ xs = [.int k] ∧ SqT K H p (ns.map V.int) ∧ ns[j]? = some k ∧ (∀ m, m < j → ns[m]? ≠ some k) ∧ Q (.int (j : Nat)) H
theorem mt_tidx : MtR X "tuple.index" (rIdxT X.K) := by
  intro pins s σ H x xs v us Q I rx rs h
  obtain ⟨p, ns, z, j, rfl, rfl, hq, hy, hno, q⟩ := h
  cases rx
  obtain ⟨u, rfl, t, rfl⟩ := vals1 rs
  obtain ⟨its, r, pl, hz⟩ := I.tuple hq
  obtain ⟨⟨cls, dd, dt, sl⟩, ho, hc, n, hd⟩ := pl
  simp only at hc hd
  subst hc
  subst hd
  have hl : its.toArray.size = ns.length := by rw [List.size_toArray, ← r.length, List.length_map]
  have hj : j < its.toArray.size := by rw [hl]; exact (List.getElem?_eq_some_iff.mp hy).1
  have hi := ints_of_vals r
  have at' : ∀ (m : Nat) (hm : m < its.toArray.size), ∃ y t', ns[m]? = some y ∧ its.toArray[m] = Value.int y t' := fun m hm => by
    have hm' : m < ns.length := by rw [← hl]; exact hm
    obtain ⟨w, hw, t', hw'⟩ := r.get (i := m) (x := .int ns[m]) (by simp [hm'])
    refine ⟨ns[m], t', List.getElem?_eq_getElem hm', ?_⟩
    have e := (List.getElem?_eq_some_iff.mp hw).2
    rw [← hw', ← e]
    simp
  have ek : ∀ (y : Int) (t' : Tok), eqk z (Value.int y t') = decide (y = z) := fun y t' => by
    show (y == z) = _
    by_cases h : y = z
    · rw [decide_eq_true h, h]; simp
    · rw [decide_eq_false h]; simp [h]
  refine call_meets PySem.F.slot_tuple_index ⟨_, ho, rfl⟩ PySem.F.entry_tuple_index (PySem.F.args_tuple_index_2 _ _) (TI.tuple_indexAt p its.toArray n dd sl (.int z t) (eqk z) j hj ?_ ?_)
    ⟨ho, fun y hy => (eqk_gives hi y (by simpa using hy)).at _ _, ⟨.int (j : Nat), H, I.tok _, ⟨_, rfl⟩, q⟩⟩
  · obtain ⟨y, t', h1, h2⟩ := at' j hj
    rw [hy] at h1
    cases h1
    rw [h2, ek]
    exact decide_eq_true rfl
  · intro m hm hmj
    obtain ⟨y, t', h1, h2⟩ := at' m hm
    rw [h2, ek]
    refine decide_eq_false fun e => hno m hmj ?_
    rw [h1, e]
end
/-! ### what holds wherever all but the deck is kept -/
def Stay (d c : Addr) (R : Hp → V → Prop) (H : Hp) (v : V) : Prop := ∀ H', Kp d c H H' → R H' v
theorem Stay.kp {d c : Addr} {R : Hp → V → Prop} {H H' : Hp} {v : V} (h : Stay d c R H v) (k : Kp d c H H') : Stay d c R H' v := fun H'' k' => h H'' (k.trans k')
theorem Stay.now {d c : Addr} {R : Hp → V → Prop} {H : Hp} {v : V} (h : Stay d c R H v) : R H v := h H Kp.refl
theorem Stay.imp {d c : Addr} {R S : Hp → V → Prop} {H : Hp} {v : V} (f : ∀ H', R H' v → S H' v) (h : Stay d c R H v) : Stay d c S H v := fun H' k => f H' (h H' k)
def Own (d c : Addr) (H : Hp) (p : Addr) (o : HO) : Prop := p ≠ d ∧ p ≠ c ∧ H p = some o
theorem Own.kp {d c p : Addr} {o : HO} {H H' : Hp} (h : Own d c H p o) (k : Kp d c H H') : Own d c H' p o := ⟨h.1, h.2.1, k _ _ h.1 h.2.1 h.2.2⟩
theorem Own.new {d c p : Addr} {o : HO} {H : Hp} (D : Deck H d c) (n : H p = none) : Own d c (upd H p o) p o := ⟨(D.ned n).1, (D.ned n).2, upd_same⟩
theorem Own.tup {d c p : Addr} {xs : List V} {H : Hp} (D : Deck H d c) (h : H p = some (.tup xs)) : Own d c H p (.tup xs) := by
  obtain ⟨cells, st, n, e1, e2, _⟩ := D
  exact ⟨ne_of h e1 (by intro z; cases z), ne_of h e2 (by intro z; cases z), h⟩
theorem Own.kn {d c p : Addr} {H : Hp} {xs : List V} (o : Own d c H p (.tup xs)) : Stay d c Kn H (.ref p) := fun _ k => .inr (.inl ⟨_, (o.kp k).2.2⟩)
theorem Own.knL {d c p : Addr} {H : Hp} {xs : List V} (o : Own d c H p (.lst xs)) : Stay d c Kn H (.ref p) := fun _ k => .inl ⟨_, (o.kp k).2.2⟩
theorem Own.knD {d c p : Addr} {H : Hp} {xs : List (Key × V)} (o : Own d c H p (.dK xs)) : Stay d c Kn H (.ref p) := fun _ k => .inr (.inr ⟨_, (o.kp k).2.2⟩)
theorem fm_nil {R : V → Prop} : ∀ x ∈ ([] : List V), R x := fun x h => by cases h
theorem fm {R : V → Prop} {a : V} {l : List V} (h : R a) (t : ∀ x ∈ l, R x) : ∀ x ∈ a :: l, R x := fun x hx => by
  rcases List.mem_cons.mp hx with e | e
  · rw [e]; exact h
  · exact t x e
theorem fm_app {R : V → Prop} {l m : List V} (h : ∀ x ∈ l, R x) (t : ∀ x ∈ m, R x) : ∀ x ∈ l ++ m, R x := fun x hx => by
  rcases List.mem_append.mp hx with e | e
  · exact h x e
  · exact t x e
theorem fm_cut {R : V → Prop} {l : List V} (h : ∀ x ∈ l, R x) (lo hi : Option Int) : ∀ x ∈ cutV l lo hi, R x := fun x hx => by
  unfold cutV at hx
  exact h x (List.mem_of_mem_drop (List.mem_of_mem_take hx))
theorem len_cut (l : List V) (lo hi : Option Int) : (cutV l lo hi).length ≤ l.length := by
  unfold cutV
  rw [List.length_take, List.length_drop]
  omega
theorem pickV {R : V → Prop} {xs : List V} {v : Int} (h0 : 0 ≤ v) (h1 : v < (xs.length : Int)) (all : ∀ x ∈ xs, R x) : ∃ x, atI xs v = some x ∧ R x := by
  obtain ⟨x, e1, e2⟩ := getI h0 h1
  exact ⟨x, e1, all x (List.mem_of_getElem? e2)⟩
theorem pickO {R : V → Prop} {d c L : Addr} {H : Hp} {xs : List V} {v m : Int} (_o : Own d c H L (.lst xs)) (h0 : 0 ≤ v) (h1 : v < m) (hm : (xs.length : Int) = m) (all : ∀ x ∈ xs, R x) : ∃ x, atI xs v = some x ∧ R x := pickV h0 (by rw [hm]; exact h1) all
/-! ### k01: what is a web -/
theorem room65 {k : Nat} {A : PySem.Around} (r : Room k A) : A.units + 65 < cLine := by have := r.un; omega
def kindsL : List Str := ["friend", "foe"]
def unlB (many : Int) (a b : V) : Bool := wbelow many a && (wbelow many b && !decide (a = b))
def tieB (H : Hp) (many : Int) (v : V) : Bool := match parts H v with
  | some [a, b, c] => unlB many a b && inK kindsL c
  | _ => false
def TieK (K : PySem.W.Frag) (H : Hp) (v : V) : Prop := Kn H v ∧ ∀ xs, parts H v = some xs → (∀ x ∈ xs, Kn H x) ∧ ∀ a b c, xs = [a, b, c] → KD K H c
def spUnlPl : Sp := fun vs H Q _ => ∃ (many : Int) (a b : V), vs = [.int many, a, b] ∧ Kn H a ∧ Kn H b ∧ Q (.bl (unlB many a b)) H
def spTie (K : PySem.W.Frag) : Sp := fun vs H Q _ => ∃ (many : Int) (v : V), vs = [.int many, v] ∧ TieK K H v ∧ Q (.bl (tieB H many v)) H
section
variable {P : Program} {w : World} {K : PySem.W.Frag} {mg : Str → Option Value} {base : Heap}
theorem wbelow_int {many : Int} {v : V} (h : wbelow many v = true) : ∃ i, v = .int i := by
  cases v with
  | int i => exact ⟨i, rfl⟩
  | _ => cases h
theorem ok_unlike_places {f : Addr} {fd : FuncData} (F : Fun K "are_unlike_places" "are_unlike_places" s_are_unlike_places f fd) (D1 : Df P w K mg base 2 "is_whole_below" ["limit", "thing"] spBelow) : FnOk P w K mg base CX0 3 f fd ["many", "one", "other"] spUnlPl := by
  obtain ⟨f1, fd1, G1, g1, k1, b1⟩ := D1
  refine F.ok sc_are_unlike_places (fun vs H Q E h => ?_) (fun cdv A outer s H vs Q E hr h => ?_)
  · obtain ⟨many, a, b, rfl, _⟩ := h
    rfl
  · obtain ⟨many, a, b, rfl, ka, kb, q⟩ := h
    refine ⟨_, (pss_one (ps_ret (pe_and (pe_call G1 hr (by rfl) g1 k1 b1 .nil pass0 (pa_cons (pv 0) (pa_cons (pv 1) pa_nil))) (pe_and (pe_call G1 hr (by rfl) g1 k1 b1 .nil pass0 (pa_cons (pv 0) (pa_cons (pv 2) pa_nil))) (pe_one (pe_cmpR op_ne (pv 1) (pv 2) (nomark _))))))), ?_⟩
    refine ⟨.int many, rfl, a, rfl, many, a, rfl, ka, _, rfl, ?_⟩
    unfold unlB at q
    cases h1 : wbelow many a with
    | false =>
      rw [h1] at q
      exact q
    | true =>
      rw [h1] at q
      refine ⟨.int many, rfl, b, rfl, many, b, rfl, kb, _, rfl, ?_⟩
      cases h2 : wbelow many b with
      | false =>
        rw [h2] at q
        exact q
      | true =>
        rw [h2] at q
        obtain ⟨i, rfl⟩ := wbelow_int h1
        obtain ⟨j, rfl⟩ := wbelow_int h2
        exact ⟨.int i, rfl, .int j, rfl, rfl, q⟩
theorem ok_is_tie {f ka : Addr} {fd : FuncData} (F : Fun K "is_tie" "is_tie" s_is_tie f fd) (mk : mg "KINDS" = some (.ref ka)) (hk : ∀ H, SqT K H ka (kindsL.map V.str)) (D1 : Df P w K mg base 1 "is_tuple_of" ["length", "thing"] spTupleOf) (D2 : Df P w K mg base 3 "are_unlike_places" ["many", "one", "other"] spUnlPl) : FnOk P w K mg base CX0 4 f fd ["many", "thing"] (spTie K) := by
  obtain ⟨f1, fd1, G1, g1, k1, b1⟩ := D1
  obtain ⟨f2, fd2, G2, g2, k2, b2⟩ := D2
  refine F.ok sc_is_tie (fun vs H Q E h => ?_) (fun cdv A outer s H vs Q E hr h => ?_)
  · obtain ⟨many, v, rfl, _⟩ := h
    rfl
  · obtain ⟨many, v, rfl, ⟨kv, kp⟩, q⟩ := h
    refine ⟨_, (pss_cons (ps_if (pt_not (pt_val (pe_call G1 (hr.mono (by decide)) (by rfl) g1 k1 b1 .nil pass0 (pa_cons pe_int (pa_cons (pv 1) pa_nil)))))
        (pss_one (ps_ret pe_bl))
        pss_nil)
      (pss_cons (ps_asg (pv 1) (pg_tup rfl (pgs_cons (pg_name (i := 2) sc_is_tie.nd rfl (.inl rfl)) (pgs_cons (pg_name (i := 3) sc_is_tie.nd rfl (.inl rfl)) (pgs_cons (pg_name (i := 4) sc_is_tie.nd rfl (.inl rfl)) pgs_nil)))))
      (pss_one (ps_ret (pe_and (pe_call G2 hr (by rfl) g2 k2 b2 .nil pass0 (pa_cons (pv 0) (pa_cons (pv 2) (pa_cons (pv 3) pa_nil)))) (pe_one (pe_cmpR (op_inK (room65 hr)) (pv 4) (pe_glob (v := .ref ka) rfl mk rfl) rfl))))))), ?_⟩
    refine ⟨v, rfl, 3, v, rfl, kv, _, rfl, ?_⟩
    unfold tieB at q
    cases hpt : parts H v with
    | none =>
      have e0 : lenIs H v 3 = false := by
        unfold lenIs
        rw [hpt]
      rw [e0]
      rw [hpt] at q
      exact q
    | some xs =>
      have e0 : lenIs H v 3 = decide ((xs.length : Int) = 3) := by
        unfold lenIs
        rw [hpt]
      rw [e0]
      rw [hpt] at q
      obtain ⟨kx, k3⟩ := kp xs hpt
      by_cases hl : (xs.length : Int) = 3
      · rw [decide_eq_true hl]
        match xs, hl, hpt, kx, k3, q with
        | [a, b, c], _, hpt, kx, k3, q =>
          obtain ⟨va, rfl, ha⟩ : ∃ va, v = .ref va ∧ H va = some (.tup [a, b, c]) := by
            cases v with
            | ref va =>
              rcases kv with ⟨ys, h⟩ | ⟨ys, h⟩ | ⟨ys, h⟩
              · rw [parts_none (by unfold isT; simp only [h])] at hpt; cases hpt
              · rw [parts_of' h] at hpt; cases hpt; exact ⟨va, rfl, h⟩
              · rw [parts_none (by unfold isT; simp only [h])] at hpt; cases hpt
            | _ => rw [parts_none rfl] at hpt; cases hpt
          refine ⟨.ref va, rfl, va, _, rfl, SqT.of ha, rfl, _, _, rfl, _, _, rfl, _, _, rfl, rfl, ?_⟩
          refine ⟨.int many, rfl, a, rfl, b, rfl, many, a, b, rfl, kx a (by simp), kx b (by simp), _, rfl, ?_⟩
          have q : Q (.bl (unlB many a b && inK kindsL c)) H := q
          cases h1 : unlB many a b with
          | false =>
            rw [h1] at q
            exact q
          | true =>
            rw [h1] at q
            exact ⟨c, rfl, ka, kindsL, rfl, hk H, lay_kinds, k3 a b c rfl, q⟩
      · rw [decide_eq_false hl]
        have e1 : (match some xs with
            | some [a, b, c] => unlB many a b && inK kindsL c
            | _ => false) = false := by
          match xs, hl with
          | [], _ => rfl
          | [_], _ => rfl
          | [_, _], _ => rfl
          | [_, _, _], hl => exact absurd rfl hl
          | _ :: _ :: _ :: _ :: _, _ => rfl
        rw [e1] at q
        exact q
end
def webB (H : Hp) (v : V) : Bool := match parts H v with
  | some [.int i, t] => decide (1 ≤ i) && (match parts H t with
    | some ts => ts.all (tieB H i)
    | none => false)
  | _ => false
def WebK (K : PySem.W.Frag) (H : Hp) (v : V) : Prop := Kn H v ∧ ∀ xs, parts H v = some xs → (∀ x ∈ xs, Kn H x) ∧ ∀ m t, xs = [m, t] → ∀ ts, parts H t = some ts → ∀ x ∈ ts, TieK K H x
def spIsWeb (K : PySem.W.Frag) (Ps : List Addr) : Sp := fun vs H Q _ => ∃ v, vs = [v] ∧ WebK K H v ∧ Tabs Ps H ∧ ∀ H', Kt Ps H H' → Q (.bl (webB H v)) H'
theorem kt_parts {Ps : List Addr} {H H' : Hp} (k : Kt Ps H H') (t : Tabs Ps H) {v : V} (h : Kn H v) : parts H' v = parts H v := by
  cases v with
  | ref a =>
    unfold parts
    rcases h with ⟨xs, h⟩ | ⟨xs, h⟩ | ⟨xs, h⟩
    · simp only [h, k.lst t h]
    · simp only [h, k.tup t h]
    · simp only [h, k.dct t h]
  | _ => rfl
theorem tup_of_parts {H : Hp} {v : V} {xs : List V} (kv : Kn H v) (hpt : parts H v = some xs) : ∃ a, v = .ref a ∧ H a = some (.tup xs) := by
  cases v with
  | ref va =>
    rcases kv with ⟨ys, h⟩ | ⟨ys, h⟩ | ⟨ys, h⟩
    · rw [parts_none (by unfold isT; simp only [h])] at hpt; cases hpt
    · rw [parts_of' h] at hpt; cases hpt; exact ⟨va, rfl, h⟩
    · rw [parts_none (by unfold isT; simp only [h])] at hpt; cases hpt
  | _ => rw [parts_none rfl] at hpt; cases hpt
mutual
theorem Dp.kt {K : PySem.W.Frag} {Ps : List Addr} {H H' : Hp} (k : Kt Ps H H') (t : Tabs Ps H) : ∀ {v : V} {d : PyData}, Dp K H v d → Dp K H' v d
  | _, _, .non => .non
  | _, _, .bl b => .bl b
  | _, _, .int i => .int i
  | _, _, .str x => .str x
  | _, _, .lst hs ha => .lst (by
      rcases hs with (h | ⟨o, h⟩) | h
      · exact .inl (.inl (k.lst t h))
      · exact .inl (.inr ⟨o, k.keep _ _ (t.out h fun _ z => by cases z) h⟩)
      · exact .inr h) (DpAll.kt k t ha)
  | _, _, .tup hs ha => .tup (by
      rcases hs with (h | ⟨o, h⟩) | h
      · exact .inl (.inl (k.tup t h))
      · exact .inl (.inr ⟨o, k.keep _ _ (t.out h fun _ z => by cases z) h⟩)
      · exact .inr h) (DpAll.kt k t ha)
theorem DpAll.kt {K : PySem.W.Frag} {Ps : List Addr} {H H' : Hp} (k : Kt Ps H H') (t : Tabs Ps H) : ∀ {vs : List V} {ds : List PyData}, DpAll K H vs ds → DpAll K H' vs ds
  | _, _, .nil => .nil
  | _, _, .cons h r => .cons (Dp.kt k t h) (DpAll.kt k t r)
end
theorem KD.kt {K : PySem.W.Frag} {Ps : List Addr} {H H' : Hp} (k : Kt Ps H H') (t : Tabs Ps H) {v : V} (h : KD K H v) : KD K H' v := by
  rcases h with ⟨d, h1, h2⟩ | ⟨a, kvs, e, h⟩
  · exact .inl ⟨d, Dp.kt k t h1, h2⟩
  · exact .inr ⟨a, kvs, e, k.dct t h⟩
theorem TieK.kt {K : PySem.W.Frag} {Ps : List Addr} {H H' : Hp} (k : Kt Ps H H') (t : Tabs Ps H) {v : V} (h : TieK K H v) : TieK K H' v := ⟨k.kn t h.1, fun xs e => by
  rw [kt_parts k t h.1] at e
  exact ⟨fun x hx => k.kn t ((h.2 xs e).1 x hx), fun a b c z => ((h.2 xs e).2 a b c z).kt k t⟩⟩
theorem tie_kt {K : PySem.W.Frag} {Ps : List Addr} {H H' : Hp} (k : Kt Ps H H') (t : Tabs Ps H) {v : V} (h : TieK K H v) (many : Int) : tieB H' many v = tieB H many v := by
  unfold tieB
  rw [kt_parts k t h.1]
section
variable {P : Program} {w : World} {K : PySem.W.Frag} {mg : Str → Option Value} {base : Heap}
theorem ok_is_web {f c Pt : Addr} {fd : FuncData} {Ps : List Addr} (F : FunC K "is_web" "is_web" s_is_web f fd c) (TB : GxR.TabB base mg c Pt) (hPt : Pt ∈ Ps) (M : Free mg) (hall : mg "all" = none) (D1 : Df P w K mg base 1 "is_tuple_of" ["length", "thing"] spTupleOf) (D2 : Df P w K mg base 2 "is_whole_from" ["low", "thing"] spFrom) (D3 : Df P w K mg base 4 "is_tie" ["many", "thing"] (spTie K)) : FnOk P w K mg base CX0 6 f fd ["thing"] (spIsWeb K Ps) := by
  obtain ⟨f1, fd1, G1, g1, k1, b1⟩ := D1
  obtain ⟨f2, fd2, G2, g2, k2, b2⟩ := D2
  obtain ⟨f3, fd3, G3, g3, k3, b3⟩ := D3
  refine F.ok sc_is_web (fun vs H Q E h => ?_) (fun A outer s H vs Q E hr h => ?_)
  · obtain ⟨v, rfl, _⟩ := h
    rfl
  · obtain ⟨v, rfl, ⟨kv, kp⟩, hT, q⟩ := h
    refine ⟨_, (pss_cons (ps_if (pt_not (pt_val (pe_call G1 (hr.mono (by decide)) (by rfl) g1 k1 b1 .nil pass0 (pa_cons pe_int (pa_cons (pv 0) pa_nil)))))
        (pss_one (ps_ret pe_bl))
        pss_nil)
      (pss_cons (ps_asg (pv 0) (pg_tup rfl (pgs_cons (pg_name (i := 1) sc_is_web.nd rfl (.inr rfl)) (pgs_cons (pg_name (i := 2) sc_is_web.nd rfl (.inl rfl)) pgs_nil))))
      (pss_cons (ps_if (PW.pt (pw_or (pt_not (pt_val (pe_call G2 (hr.mono (by decide)) (by rfl) g2 k2 b2 .nil pass0 (pa_cons pe_int (pa_cons (pv 1) pa_nil))))) (pw_or1 (pt_not (pt_val (pe_callB call_isi (by rfl) M.isinstance (by decide +kernel) (pa_cons (pv 2) (pa_cons (pe_bltn (v := .ty "tuple") (by rfl) M.tuple (by decide +kernel) rfl) pa_nil))))))))
        (pss_one (ps_ret pe_bl))
        pss_nil)
      (pss_one (ps_ret (pe_all (k := 4) (own := [("tie", 3)]) (g := gName 3) hr TB rfl rfl sc_is_web.nd (by rfl) hall (pi_tup (pv 2)) (blkOk_by (N := N_is_web) (sc := defScope s_is_web) (own := [("tie", 3)]) (by decide +kernel)) ⟨rfl, by decide +kernel, by decide +kernel⟩ (show (".0" : Str) ∉ N_is_web by decide +kernel)
        (fun _ _ _ _ _ _ _ => pg_name (i := 3) sc_is_web.nd rfl (.inl rfl)) (fun _ _ _ _ _ _ _ hr' => pe_call G3 hr' (by rfl) g3 k3 b3 .nil pass0 (pa_cons (pv 1) (pa_cons (pv 3) pa_nil))))))))), ?_⟩
    refine ⟨v, rfl, 2, v, rfl, kv, _, rfl, ?_⟩
    unfold webB at q
    cases hpt : parts H v with
    | none =>
      have e0 : lenIs H v 2 = false := by
        unfold lenIs
        rw [hpt]
      rw [e0]
      rw [hpt] at q
      exact q _ (Kt.refl hT)
    | some xs =>
      have e0 : lenIs H v 2 = decide ((xs.length : Int) = 2) := by
        unfold lenIs
        rw [hpt]
      rw [e0]
      rw [hpt] at q
      obtain ⟨kx, k3⟩ := kp xs hpt
      obtain ⟨va, rfl, ha⟩ := tup_of_parts kv hpt
      by_cases hl : (xs.length : Int) = 2
      · rw [decide_eq_true hl]
        match xs, hl, hpt, kx, k3, q, ha with
        | [m, t], _, hpt, kx, k3, q, ha =>
          have km := kx m (by simp)
          have kt' := kx t (by simp)
          refine ⟨.ref va, rfl, va, _, rfl, SqT.of ha, rfl, _, _, rfl, _, _, rfl, rfl, ?_⟩
          refine ⟨m, rfl, 1, m, rfl, km, _, rfl, ?_⟩
          cases m with
          | int i =>
            have q : ∀ H', Kt Ps H H' → Q (.bl (decide (1 ≤ i) && (match parts H t with
              | some ts => ts.all (tieB H i)
              | none => false))) H' := q
            have ew : wfrom 1 (.int i) = decide (1 ≤ i) := rfl
            rw [ew]
            by_cases h1 : (1 : Int) ≤ i
            · rw [decide_eq_true h1] at q ⊢
              rw [Bool.true_and] at q
              obtain ⟨t1, y1, e1⟩ := kn_tup (K := K) kt'
              refine ⟨t, rfl, t, _, t1, _, _, rfl, .ty "tuple", y1, e1, _, rfl, ?_⟩
              cases hi : isT H t with
              | false =>
                rw [parts_none hi] at q
                exact q _ (Kt.refl hT)
              | true =>
                obtain ⟨ta, ts, rfl, hta⟩ := isT_at hi
                have hp2 := parts_of' hta
                rw [hp2] at q
                have tk := k3 _ _ rfl ts hp2
                have q : ∀ H', Kt Ps H H' → Q (.bl (ts.all (tieB H i))) H' := q
                refine ⟨.ref ta, rfl, ta, rfl, ⟨_, SqT.of hta⟩, hT Pt hPt, fun j m H' => j + m = ts.length ∧ Kt Ps H H' ∧ (ts.take j).all (tieB H i) = true, fun H2 hH2 => ⟨ts.length, by omega, Kt.tabbed hT hPt hH2, rfl⟩, fun j m H' hw => ?_⟩
                obtain ⟨em, kt, hal⟩ := hw
                have hta' := kt.tup hT hta
                by_cases hj : j < ts.length
                · refine .inr ⟨⟨_, _, SqT.of hta', List.getElem?_eq_getElem hj⟩, fun H3 => Kt Ps H H3 ∧ (ts.take (j + 1)).all (tieB H i) = true, fun H3 n3 => ⟨m - 1, by omega, by omega, n3.1, n3.2⟩, fun x H3 hy => ?_⟩
                  obtain ⟨rfl, fy⟩ := hy
                  have ex : ts[j]? = some x := fy _ (SqT.of hta')
                  have tx := tk x (List.mem_of_getElem? ex)
                  refine ⟨rfl, .int i, rfl, x, rfl, i, x, rfl, tx.kt kt hT, _, rfl, ?_⟩
                  rw [tie_kt kt hT tx]
                  have step : (ts.take (j + 1)).all (tieB H i) = tieB H i x := by
                    rw [List.take_add_one, ex, List.all_append, hal]
                    simp
                  cases hb : tieB H i x with
                  | true => exact ⟨kt, step.trans hb⟩
                  | false =>
                    have no : ts.all (tieB H i) = false := by
                      rw [Bool.eq_false_iff]
                      intro z
                      rw [List.all_eq_true] at z
                      rw [z x (List.mem_of_getElem? ex)] at hb
                      cases hb
                    rw [no] at q
                    exact q _ kt
                · refine .inl ⟨⟨_, SqT.of hta', by omega⟩, ?_⟩
                  rw [List.take_of_length_le (by omega)] at hal
                  rw [hal] at q
                  exact q _ kt
            · rw [decide_eq_false h1] at q ⊢
              exact q _ (Kt.refl hT)
          | bl _ => exact q _ (Kt.refl hT)
          | non => exact q _ (Kt.refl hT)
          | str _ => exact q _ (Kt.refl hT)
          | ref _ => exact q _ (Kt.refl hT)
          | byt x => exact km.elim
          | flt x => exact km.elim
          | ty x => exact km.elim
      · rw [decide_eq_false hl]
        refine (?_ : Q (.bl false) H)
        match xs, hl, q with
        | [], _, q => exact q _ (Kt.refl hT)
        | [x], _, q => cases x <;> exact q _ (Kt.refl hT)
        | [_, _], hl, _ => exact absurd rfl hl
        | x :: _ :: _ :: _, _, q => cases x <;> exact q _ (Kt.refl hT)
end
/-! ### k01: the law's own look -/
def isS : V → Bool
  | .str _ => true
  | _ => false
theorem parts_same {H H' : Hp} (s : Same H H') {v : V} (h : Kn H v) : parts H' v = parts H v := by
  cases v with
  | ref a =>
    unfold parts
    rcases h with ⟨xs, h⟩ | ⟨xs, h⟩ | ⟨xs, h⟩
    · simp only [h, s _ _ h]
    · simp only [h, s _ _ h]
    · simp only [h, s _ _ h]
  | _ => rfl
theorem Kn.same {H H' : Hp} (s : Same H H') {v : V} (h : Kn H v) : Kn H' v := by
  cases v with
  | ref a =>
    rcases h with ⟨xs, h⟩ | ⟨xs, h⟩ | ⟨xs, h⟩
    · exact .inl ⟨xs, s _ _ h⟩
    · exact .inr (.inl ⟨xs, s _ _ h⟩)
    · exact .inr (.inr ⟨xs, s _ _ h⟩)
  | _ => exact h
def spLIsWeb (K : PySem.W.Frag) : Sp := fun vs H Q _ => ∃ v, vs = [v] ∧ WebK K H v ∧ ∀ H', Same H H' → Q (.bl (webB H v)) H'
section
variable {P : Program} {w : World} {K : PySem.W.Frag} {mg : Str → Option Value} {base : Heap}
theorem kn_str {H : Hp} {v : V} (h : Kn H v) : ∃ t, TyX K H v t ∧ PySem.W.kitOne K t (.type "str") = some (isS v) := by
  cases v with
  | non => exact ⟨_, .base .non, kit_ty (r := false) (by decide +kernel)⟩
  | bl b => exact ⟨_, .base (.bl b), kit_ty (r := false) (by decide +kernel)⟩
  | int i => exact ⟨_, .base (.int i), kit_ty (r := false) (by decide +kernel)⟩
  | str x => exact ⟨_, .base (.str x), kit_ty (r := true) (by decide +kernel)⟩
  | ref a =>
    rcases h with ⟨xs, h⟩ | ⟨xs, h⟩ | ⟨xs, h⟩
    · exact ⟨_, .base (.lst h), kit_ty (r := false) (by decide +kernel)⟩
    · exact ⟨_, .base (.tup h), kit_ty (r := false) (by decide +kernel)⟩
    · exact ⟨_, .base (.dK h), kit_ty (r := false) (by decide +kernel)⟩
  | _ => exact h.elim
theorem ok_l_is_web {f : Addr} {fd : FuncData} (F : Fun K "_law_is_web" "_law_is_web" s_l_is_web f fd) (M : Free mg) (D_l_whole : Df P w K mg base 1 "_law_whole" ["_law_thing"] spWhole) : FnOk P w K mg base CX0 2 f fd ["_law_thing"] (spLIsWeb K) := by
  obtain ⟨f_l_whole, fd_l_whole, G_l_whole, g_l_whole, k_l_whole, b_l_whole⟩ := D_l_whole
  refine F.ok sc_l_is_web (fun vs H Q E h => ?_) (fun cdv A outer s H vs Q E hr h => ?_)
  · obtain ⟨v, rfl, _⟩ := h
    rfl
  · obtain ⟨v, rfl, ⟨kv, kp⟩, q⟩ := h
    refine ⟨_, (pss_cons (ps_if (PW.pt (pw_or (pt_not (pt_val (pe_callB call_isi (by rfl) M.isinstance (by decide +kernel) (pa_cons (pv 0) (pa_cons (pe_bltn (v := .ty "tuple") (by rfl) M.tuple (by decide +kernel) rfl) pa_nil))))) (pw_or (pt_cmpR op_ne (pe_callB call_len_seq (by rfl) M.len PySem.boot_len (pa_cons (pv 0) pa_nil)) pe_int (nomark _)) (pw_or (pt_not (pt_val (pe_call G_l_whole (hr.mono (by decide)) (by rfl) g_l_whole k_l_whole b_l_whole .nil pass0 (pa_cons (pe_ix ix_tup (pv 0) pe_int (fun _ _ => rfl)) pa_nil)))) (pw_or1 (pt_cmpR op_lt (pe_ix ix_tup (pv 0) pe_int (fun _ _ => rfl)) pe_int (nomark _)))))))
        (pss_one (ps_ret pe_bl))
        pss_nil)
      (pss_cons (ps_if (pt_not (pt_val (pe_callB call_isi (by rfl) M.isinstance (by decide +kernel) (pa_cons (pe_ix ix_tup (pv 0) pe_int (fun _ _ => rfl)) (pa_cons (pe_bltn (v := .ty "tuple") (by rfl) M.tuple (by decide +kernel) rfl) pa_nil)))))
        (pss_one (ps_ret pe_bl))
        pss_nil)
      (pss_cons (ps_for PassesOwn.never rfl (pi_tup (pe_ix ix_tup (pv 0) pe_int (fun _ _ => rfl))) (pg_name (i := 1) sc_l_is_web.nd rfl (.inl rfl))
        (pss_cons (ps_if (PW.pt (pw_or (pt_not (pt_val (pe_callB call_isi (by rfl) M.isinstance (by decide +kernel) (pa_cons (pv 1) (pa_cons (pe_bltn (v := .ty "tuple") (by rfl) M.tuple (by decide +kernel) rfl) pa_nil))))) (pw_or (pt_cmpR op_ne (pe_callB call_len_seq (by rfl) M.len PySem.boot_len (pa_cons (pv 1) pa_nil)) pe_int (nomark _)) (pw_or1 (pt_not (pt_val (pe_callB call_isi (by rfl) M.isinstance (by decide +kernel) (pa_cons (pe_ix ix_tup (pv 1) pe_int (fun _ _ => rfl)) (pa_cons (pe_bltn (v := .ty "str") (by rfl) M.str (by decide +kernel) rfl) pa_nil)))))))))
          (pss_one (ps_ret pe_bl))
          pss_nil)
        (Evl.pss_cut (ps_if (PW.pt (pw_and (pt_cmpR op_ne (pe_ix ix_tup (pv 1) pe_int (fun _ _ => rfl)) pe_str (nomark _)) (pw_and1 (pt_cmpR op_ne (pe_ix ix_tup (pv 1) pe_int (fun _ _ => rfl)) pe_str (nomark _)))))
          (pss_one (ps_ret pe_bl))
          pss_nil)
        (Evl.pss_cut (ps_for PassesOwn.never rfl (pi_tup (pe_slice sl_tupU (pv 1) po_none (po_some pe_int))) (pg_name (i := 2) sc_l_is_web.nd rfl (.inl rfl))
          (pss_one (ps_if (PW.pt (pw_or (pt_not (pt_val (pe_call G_l_whole (hr.mono (by decide)) (by rfl) g_l_whole k_l_whole b_l_whole .nil pass0 (pa_cons (pv 2) pa_nil)))) (pw_or (pt_cmpR op_lt (pv 2) pe_int (nomark _)) (pw_or1 (pt_cmpR op_ge (pv 2) (pe_ix ix_tup (pv 0) pe_int (fun _ _ => rfl)) (nomark _))))))
            (pss_one (ps_ret pe_bl))
            pss_nil)))
        (pss_one (ps_if (pt_cmpR op_eq (pe_ix ix_tup (pv 1) pe_int (fun _ _ => rfl)) (pe_ix ix_tup (pv 1) pe_int (fun _ _ => rfl)) (nomark _))
          (pss_one (ps_ret pe_bl))
          pss_nil))))))
      (pss_one (ps_ret pe_bl))))), ?_⟩
    have eI : ∀ x y : Int, decide (V.int x = V.int y) = decide (x = y) := fun x y => by rw [decide_eq_decide]; exact ⟨fun h => V.int.inj h, fun h => by rw [h]⟩
    unfold webB at q
    obtain ⟨t1, h1, e1⟩ := kn_tup (K := K) kv
    refine ⟨v, rfl, v, _, t1, _, _, rfl, .ty "tuple", h1, e1, _, rfl, ?_⟩
    cases hi : isT H v with
    | false =>
      rw [parts_none hi] at q
      exact q _ (Same.refl _)
    | true =>
      obtain ⟨va, xs, rfl, ha⟩ := isT_at hi
      have hpt := parts_of' ha
      rw [hpt] at q
      obtain ⟨kx, k3⟩ := kp xs hpt
      refine ⟨.ref va, rfl, va, xs, rfl, .inr (SqT.of ha), rfl, _, rfl, ?_⟩
      rw [eI]
      by_cases hl : (xs.length : Int) = 2
      · rw [decide_eq_true hl]
        match xs, hl, kx, k3, q, ha with
        | [m, t], _, kx, k3, q, ha =>
          have km := kx m (by simp)
          have kt' := kx t (by simp)
          refine ⟨.ref va, rfl, va, _, 0, m, rfl, rfl, SqT.of ha, rfl, m, rfl, km, _, rfl, ?_⟩
          cases m with
          | int i =>
            have q : ∀ H', Same H H' → Q (.bl (decide (1 ≤ i) && (match parts H t with
              | some ts => ts.all (tieB H i)
              | none => false))) H' := q
            refine ⟨.ref va, rfl, va, _, 0, .int i, rfl, rfl, SqT.of ha, rfl, i, 1, rfl, rfl, _, rfl, ?_⟩
            by_cases h1 : i < 1
            · rw [decide_eq_true h1]
              rw [decide_eq_false (by omega)] at q
              exact q _ (Same.refl _)
            · rw [decide_eq_false h1]
              rw [decide_eq_true (by omega), Bool.true_and] at q
              obtain ⟨t2, y2, e2⟩ := kn_tup (K := K) kt'
              refine ⟨.ref va, rfl, va, _, 1, t, rfl, rfl, SqT.of ha, rfl, t, _, t2, _, _, rfl, .ty "tuple", y2, e2, _, rfl, ?_⟩
              cases hi2 : isT H t with
              | false =>
                rw [parts_none hi2] at q
                exact q _ (Same.refl _)
              | true =>
                obtain ⟨ta, ts, rfl, hta⟩ := isT_at hi2
                have hp2 := parts_of' hta
                rw [hp2] at q
                have tk := k3 _ _ rfl ts hp2
                have q : ∀ H', Same H H' → Q (.bl (ts.all (tieB H i))) H' := q
                refine ⟨.ref va, rfl, va, _, 1, .ref ta, rfl, rfl, SqT.of ha, rfl, ta, rfl, ⟨_, SqT.of hta⟩, ?_⟩
                refine for_tup (xs := ts) (fun j σ' H' => ∃ y1 y2 : Option V, σ' = [some (.ref va), y1, y2] ∧ Same H H' ∧ (ts.take j).all (tieB H i) = true) ⟨none, none, rfl, Same.refl _, rfl⟩ (fun j σ' H' _ h => by
                  obtain ⟨_, _, _, sh, _⟩ := h
                  exact SqT.of (sh _ _ hta)) ?_ ?_
                · rintro j x σ' H2 ex ⟨y1, y2, rfl, s2, hal⟩
                  obtain ⟨kxx, kxp⟩ := tk x (List.mem_of_getElem? ex)
                  have step : (ts.take (j + 1)).all (tieB H i) = tieB H i x := by
                    rw [List.take_add_one, ex, List.all_append, hal]
                    simp
                  have no : tieB H i x = false → ∀ H', Same H H' → Q (.bl false) H' := fun hb H' sh => by
                    have z : ts.all (tieB H i) = false := by
                      rw [Bool.eq_false_iff]
                      intro z
                      rw [List.all_eq_true] at z
                      rw [z x (List.mem_of_getElem? ex)] at hb
                      cases hb
                    rw [z] at q
                    exact q _ sh
                  obtain ⟨t3, y3, e3⟩ := kn_tup (K := K) (Kn.same s2 kxx)
                  refine ⟨x, rfl, x, _, t3, _, _, rfl, .ty "tuple", y3, e3, _, rfl, ?_⟩
                  cases hi3 : isT H2 x with
                  | false =>
                    refine no ?_ _ s2
                    unfold tieB
                    rw [← parts_same s2 kxx, parts_none hi3]
                  | true =>
                    obtain ⟨xa, ws, rfl, hxa⟩ := isT_at hi3
                    have hp3 : parts H (.ref xa) = some ws := by rw [← parts_same s2 kxx, parts_of' hxa]
                    obtain ⟨kw, k4⟩ := kxp ws hp3
                    refine ⟨.ref xa, rfl, xa, ws, rfl, .inr (SqT.of hxa), rfl, _, rfl, ?_⟩
                    rw [eI]
                    by_cases hl3 : (ws.length : Int) = 3
                    · rw [decide_eq_true hl3]
                      match ws, hl3, hp3, kw, k4, hxa with
                      | [a, b, c], _, hp3, kw, k4, hxa =>
                        have et : tieB H i (.ref xa) = (unlB i a b && inK kindsL c) := by
                          unfold tieB
                          rw [hp3]
                        rw [et] at step no
                        have ka := Kn.same s2 (kw a (by simp))
                        have kb := Kn.same s2 (kw b (by simp))
                        have kc := Kn.same s2 (kw c (by simp))
                        obtain ⟨t4, y4, e4⟩ := kn_str (K := K) kc
                        refine ⟨.ref xa, rfl, xa, _, 2, c, rfl, rfl, SqT.of hxa, rfl, c, _, t4, _, _, rfl, .ty "str", y4, e4, _, rfl, ?_⟩
                        have noK : inK kindsL c = false → Q (.bl false) H2 := fun z => no (by rw [z, Bool.and_false]) _ s2
                        cases c with
                        | str k =>
                          refine ⟨fun σ' H' => σ' = [some (.ref va), some (.ref xa), y2] ∧ H' = H2 ∧ inK kindsL (.str k) = true, ?_, ?_⟩
                          · have ek : inK kindsL (.str k) = (decide (("friend" : Str) = k) || decide (("foe" : Str) = k)) := by
                              show ((("friend" : Str) == k) || ((("foe" : Str) == k) || false)) = _
                              rw [Bool.or_false]
                              rfl
                            refine ⟨.ref xa, rfl, xa, _, 2, .str k, rfl, rfl, SqT.of hxa, rfl, rfl, _, rfl, ?_⟩
                            by_cases h5 : k = "friend"
                            · rw [decide_eq_true (by rw [h5])]
                              refine ⟨rfl, rfl, ?_⟩
                              rw [ek, decide_eq_true h5.symm, Bool.true_or]
                            · rw [decide_eq_false (fun z => h5 (V.str.inj z))]
                              refine ⟨.ref xa, rfl, xa, _, 2, .str k, rfl, rfl, SqT.of hxa, rfl, rfl, _, rfl, ?_⟩
                              by_cases h6 : k = "foe"
                              · rw [decide_eq_true (by rw [h6])]
                                refine ⟨rfl, rfl, ?_⟩
                                rw [ek, decide_eq_true h6.symm, Bool.or_true]
                              · rw [decide_eq_false (fun z => h6 (V.str.inj z))]
                                refine noK ?_
                                rw [ek, decide_eq_false (fun z => h5 z.symm), decide_eq_false (fun z => h6 z.symm)]
                                rfl
                          rintro σ' H2' ⟨rfl, rfl, hin⟩
                          rw [hin, Bool.and_true] at step no
                          have noP : ∀ z ∈ [a, b], wbelow i z = false → ∀ H', Same H H' → Q (.bl false) H' := fun z hz hb => no (by
                            unfold unlB
                            simp only [List.mem_cons, List.not_mem_nil, or_false] at hz
                            rcases hz with rfl | rfl
                            · rw [hb, Bool.false_and]
                            · rw [hb, Bool.false_and, Bool.and_false])
                          refine ⟨fun σ' H' => ∃ y2 : Option V, σ' = [some (.ref va), some (.ref xa), y2] ∧ Same H2' H' ∧ wbelow i a = true ∧ wbelow i b = true, ?_, ?_⟩
                          · refine ⟨.ref xa, rfl, 2, rfl, xa, _, rfl, hxa, fun r H3 s3 h3 => ?_⟩
                            have h3 : H3 r = some (.tup [a, b]) := h3
                            refine ⟨r, rfl, ⟨_, SqT.of h3⟩, ?_⟩
                            refine for_tup (xs := [a, b]) (fun j σ' H' => ∃ y2 : Option V, σ' = [some (.ref va), some (.ref xa), y2] ∧ H' = H3 ∧ ([a, b].take j).all (wbelow i) = true) ⟨y2, rfl, rfl, rfl⟩ (fun j σ' H' _ h => by
                              obtain ⟨_, _, rfl, _⟩ := h
                              exact SqT.of h3) ?_ ?_
                            · rintro j2 x2 σ' H4 ex2 ⟨y2, rfl, rfl, hal2⟩
                              have mx := List.mem_of_getElem? ex2
                              have kx2 : Kn H4 x2 := Kn.same (s2.trans s3) (kw x2 (by
                                simp only [List.mem_cons, List.not_mem_nil, or_false] at mx ⊢
                                rcases mx with rfl | rfl
                                · exact .inl rfl
                                · exact .inr (.inl rfl)))
                              have step2 : ([a, b].take (j2 + 1)).all (wbelow i) = wbelow i x2 := by
                                rw [List.take_add_one, ex2, List.all_append, hal2]
                                simp
                              have no2 : wbelow i x2 = false → Q (.bl false) H4 := fun hb => noP x2 mx hb _ (s2.trans s3)
                              refine ⟨x2, rfl, x2, rfl, kx2, _, rfl, ?_⟩
                              cases x2 with
                              | int z =>
                                refine ⟨.int z, rfl, z, 0, rfl, rfl, _, rfl, ?_⟩
                                by_cases hz : z < 0
                                · rw [decide_eq_true hz]
                                  exact no2 (by show (decide (0 ≤ z) && decide (z < i)) = false; rw [decide_eq_false (by omega), Bool.false_and])
                                · rw [decide_eq_false hz]
                                  refine ⟨.int z, rfl, .ref va, rfl, va, _, 0, .int i, rfl, rfl, SqT.of ((s2.trans s3) _ _ ha), rfl, z, i, rfl, rfl, _, rfl, ?_⟩
                                  by_cases hz2 : i ≤ z
                                  · rw [decide_eq_true hz2]
                                    exact no2 (by show (decide (0 ≤ z) && decide (z < i)) = false; rw [decide_eq_false (show ¬ z < i by omega), Bool.and_false])
                                  · rw [decide_eq_false hz2]
                                    refine ⟨_, rfl, rfl, step2.trans ?_⟩
                                    show (decide (0 ≤ z) && decide (z < i)) = true
                                    rw [decide_eq_true (show 0 ≤ z by omega), decide_eq_true (show z < i by omega)]
                                    rfl
                              | bl b => exact no2 rfl
                              | non => exact no2 rfl
                              | str x => exact no2 rfl
                              | ref x => exact no2 rfl
                              | byt x => exact kx2.elim
                              | flt x => exact kx2.elim
                              | ty x => exact kx2.elim
                            · rintro σ' H4 ⟨y2, rfl, rfl, hal2⟩
                              have hal2 : (wbelow i a && (wbelow i b && true)) = true := hal2
                              rw [Bool.and_true, Bool.and_eq_true] at hal2
                              exact ⟨_, rfl, s3, hal2.1, hal2.2⟩
                          rintro σ' H3 ⟨y2, rfl, s3, wa, wb⟩
                          obtain ⟨p, rfl⟩ := wbelow_int wa
                          obtain ⟨p', rfl⟩ := wbelow_int wb
                          have hx3 := s3 _ _ hxa
                          refine ⟨.ref xa, rfl, xa, _, 0, .int p, rfl, rfl, SqT.of hx3, rfl, .ref xa, rfl, xa, _, 1, .int p', rfl, rfl, SqT.of hx3, rfl, rfl, _, rfl, ?_⟩
                          unfold unlB at step no
                          rw [wa, wb, Bool.true_and, Bool.true_and] at step no
                          by_cases h7 : V.int p = V.int p'
                          · rw [decide_eq_true h7] at no ⊢
                            exact no rfl _ (s2.trans s3)
                          · rw [decide_eq_false h7] at step ⊢
                            exact ⟨_, _, rfl, s2.trans s3, step⟩
                        | int _ => exact noK rfl
                        | bl _ => exact noK rfl
                        | non => exact noK rfl
                        | ref _ => exact noK rfl
                        | byt x => exact kc.elim
                        | flt x => exact kc.elim
                        | ty x => exact kc.elim
                    · rw [decide_eq_false hl3]
                      refine no ?_ _ s2
                      unfold tieB
                      rw [hp3]
                      match ws, hl3 with
                      | [], _ => rfl
                      | [_], _ => rfl
                      | [_, _], _ => rfl
                      | [_, _, _], hl => exact absurd rfl hl
                      | _ :: _ :: _ :: _ :: _, _ => rfl
                · rintro σ' H2 ⟨y1, y2, rfl, s2, hal⟩
                  rw [List.take_length] at hal
                  rw [hal] at q
                  exact q _ s2
          | bl _ => exact q _ (Same.refl _)
          | non => exact q _ (Same.refl _)
          | str _ => exact q _ (Same.refl _)
          | ref _ => exact q _ (Same.refl _)
          | byt x => exact km.elim
          | flt x => exact km.elim
          | ty x => exact km.elim
      · rw [decide_eq_false hl]
        refine (?_ : Q (.bl false) H)
        match xs, hl, q with
        | [], _, q => exact q _ (Same.refl _)
        | [x], _, q => cases x <;> exact q _ (Same.refl _)
        | [_, _], hl, _ => exact absurd rfl hl
        | x :: _ :: _ :: _, _, q => cases x <;> exact q _ (Same.refl _)
end
theorem WebK.kt {K : PySem.W.Frag} {Ps : List Addr} {H H' : Hp} (k : Kt Ps H H') (t : Tabs Ps H) {v : V} (h : WebK K H v) : WebK K H' v := ⟨k.kn t h.1, fun xs e => by
  rw [kt_parts k t h.1] at e
  obtain ⟨h1, h2⟩ := h.2 xs e
  refine ⟨fun x hx => k.kn t (h1 x hx), fun m u z ts e2 x hx => ?_⟩
  have ku : Kn H u := h1 u (by rw [z]; simp)
  rw [kt_parts k t ku] at e2
  exact (h2 m u z ts e2 x hx).kt k t⟩
theorem web_kt {K : PySem.W.Frag} {Ps : List Addr} {H H' : Hp} (k : Kt Ps H H') (t : Tabs Ps H) {v : V} (h : WebK K H v) : webB H' v = webB H v := by
  unfold webB
  rw [kt_parts k t h.1]
  cases e : parts H v with
  | none => rfl
  | some xs =>
    obtain ⟨h1, h2⟩ := h.2 xs e
    match xs, h1, h2 with
    | [], _, _ => rfl
    | [x], _, _ => cases x <;> rfl
    | x :: _ :: _ :: _, _, _ => cases x <;> rfl
    | [m, u], h1, h2 =>
      have ku : Kn H u := h1 u (by simp)
      cases m with
      | int i =>
        show (decide (1 ≤ i) && (match parts H' u with
          | some ts => ts.all (tieB H' i)
          | none => false)) = (decide (1 ≤ i) && (match parts H u with
          | some ts => ts.all (tieB H i)
          | none => false))
        rw [kt_parts k t ku]
        cases eu : parts H u with
        | none => rfl
        | some ts =>
          have : ts.all (tieB H' i) = ts.all (tieB H i) := by
            have hh := h2 _ _ rfl ts eu
            rw [Bool.eq_iff_iff, List.all_eq_true, List.all_eq_true]
            exact ⟨fun z x hx => by rw [← tie_kt k t (hh x hx)]; exact z x hx, fun z x hx => by rw [tie_kt k t (hh x hx)]; exact z x hx⟩
          show (decide (1 ≤ i) && ts.all (tieB H' i)) = (decide (1 ≤ i) && ts.all (tieB H i))
          rw [this]
      | _ => rfl
def spRight (K : PySem.W.Frag) (Ps : List Addr) : Sp := fun vs H Q _ => ∃ v, vs = [v] ∧ WebK K H v ∧ Tabs Ps H ∧ ∀ H', Kt Ps H H' → Q (.bl true) H'
section
variable {P : Program} {w : World} {K : PySem.W.Frag} {mg : Str → Option Value} {base : Heap}
theorem ok_l_right {f : Addr} {fd : FuncData} {Ps : List Addr} (F : Fun K "_law_right" "_law_right" s_l_right f fd) (M : Free mg) (D_is_web : Df P w K mg base 6 "is_web" ["thing"] (spIsWeb K Ps)) (D_l_is_web : Df P w K mg base 2 "_law_is_web" ["_law_thing"] (spLIsWeb K)) : FnOk P w K mg base CX0 7 f fd ["_law_thing"] (spRight K Ps) := by
  obtain ⟨f_is_web, fd_is_web, G_is_web, g_is_web, k_is_web, b_is_web⟩ := D_is_web
  obtain ⟨f_l_is_web, fd_l_is_web, G_l_is_web, g_l_is_web, k_l_is_web, b_l_is_web⟩ := D_l_is_web
  refine F.ok sc_l_right (fun vs H Q E h => ?_) (fun cdv A outer s H vs Q E hr h => ?_)
  · obtain ⟨v, rfl, _⟩ := h
    rfl
  · obtain ⟨v, rfl, hv, hT, q⟩ := h
    refine ⟨_, (pss_cons (ps_set (i := 1) sc_l_right.nd rfl (.inl rfl) (pe_call G_is_web (hr.mono (by decide)) (by rfl) g_is_web k_is_web b_is_web .nil pass0 (pa_cons (pv 0) pa_nil)))
      (pss_one (ps_ret (pe_and (pe_callB call_isi (by rfl) M.isinstance (by decide +kernel) (pa_cons (pv 1) (pa_cons (pe_bltn (v := .ty "bool") (by rfl) M.bool (by decide +kernel) rfl) pa_nil))) (pe_and (pe_cmpR op_eq (pv 1) (pe_call G_l_is_web (hr.mono (by decide)) (by rfl) g_l_is_web k_l_is_web b_l_is_web .nil pass0 (pa_cons (pv 0) pa_nil)) (nomark _)) (pe_one (pe_cmpR op_eq (pe_call G_is_web (hr.mono (by decide)) (by rfl) g_is_web k_is_web b_is_web .nil pass0 (pa_cons (pv 0) pa_nil)) (pv 1) (nomark _)))))))), ?_⟩
    refine ⟨v, rfl, v, rfl, hv, hT, fun H1 k1 => ?_⟩
    have T1 : Tabs Ps H1 := k1.tab
    generalize hb : webB H v = b
    obtain ⟨t2, h2, e2⟩ := kn_bool (K := K) (H := H1) (v := .bl b) trivial
    refine ⟨.bl b, rfl, .bl b, _, t2, _, _, rfl, .ty "bool", h2, e2, _, rfl, ?_⟩
    refine ⟨.bl b, rfl, v, rfl, v, rfl, hv.kt k1 hT, fun H2 s2 => ?_⟩
    rw [web_kt k1 hT hv, hb]
    have k2 := k1.trans (Kt.same T1 s2)
    have T2 : Tabs Ps H2 := k2.tab
    refine ⟨rfl, _, rfl, ?_⟩
    rw [decide_eq_true rfl]
    refine ⟨v, rfl, v, rfl, hv.kt k2 hT, T2, fun H3 k3 => ?_⟩
    rw [web_kt k2 hT hv, hb]
    refine ⟨.bl b, rfl, rfl, ?_⟩
    rw [decide_eq_true rfl]
    exact q _ (k2.trans k3)
end
/-! ### k01: which things are known -/
theorem tiek_no {K : PySem.W.Frag} {H : Hp} {v : V} (h : Kn H v) (n : isT H v = false) : TieK K H v := ⟨h, fun xs e => by rw [parts_none n] at e; cases e⟩
theorem tiek_tup {K : PySem.W.Frag} {H : Hp} {p : Addr} {xs : List V} (h : H p = some (.tup xs)) (k : ∀ x ∈ xs, Kn H x) (c3 : ∀ a b c, xs = [a, b, c] → KD K H c) : TieK K H (.ref p) := ⟨.inr (.inl ⟨xs, h⟩), fun ys e => by
  rw [parts_of' h] at e
  cases e
  exact ⟨k, c3⟩⟩
theorem tiek_len {K : PySem.W.Frag} {H : Hp} {p : Addr} {xs : List V} (h : H p = some (.tup xs)) (k : ∀ x ∈ xs, Kn H x) (l : xs.length ≠ 3) : TieK K H (.ref p) := tiek_tup h k fun a b c e => absurd (by rw [e]; rfl) l
theorem tiek_lst {K : PySem.W.Frag} {H : Hp} {p : Addr} {xs : List V} (h : H p = some (.lst xs)) : TieK K H (.ref p) := tiek_no (.inl ⟨xs, h⟩) (by unfold isT; simp only [h])
theorem tiek_dct {K : PySem.W.Frag} {H : Hp} {p : Addr} {xs : List (Key × V)} (h : H p = some (.dK xs)) : TieK K H (.ref p) := tiek_no (.inr (.inr ⟨xs, h⟩)) (by unfold isT; simp only [h])
theorem webk_no {K : PySem.W.Frag} {H : Hp} {v : V} (h : Kn H v) (n : isT H v = false) : WebK K H v := ⟨h, fun xs e => by rw [parts_none n] at e; cases e⟩
theorem webk_len {K : PySem.W.Frag} {H : Hp} {p : Addr} {xs : List V} (h : H p = some (.tup xs)) (k : ∀ x ∈ xs, Kn H x) (l : xs.length ≠ 2) : WebK K H (.ref p) := ⟨.inr (.inl ⟨xs, h⟩), fun ys e => by
  rw [parts_of' h] at e
  cases e
  exact ⟨k, fun m t z => absurd (by rw [z]; rfl) l⟩⟩
theorem webk_pair {K : PySem.W.Frag} {H : Hp} {p : Addr} {m t : V} (h : H p = some (.tup [m, t])) (km : Kn H m) (kt : Kn H t) (k : ∀ ts, parts H t = some ts → ∀ x ∈ ts, TieK K H x) : WebK K H (.ref p) := ⟨.inr (.inl ⟨_, h⟩), fun ys e => by
  rw [parts_of' h] at e
  cases e
  refine ⟨fun x hx => ?_, fun m' t' z => ?_⟩
  · simp only [List.mem_cons, List.not_mem_nil, or_false] at hx
    rcases hx with rfl | rfl
    · exact km
    · exact kt
  · cases z
    exact k⟩
theorem kd_str {K : PySem.W.Frag} {H : Hp} {x : Str} (h : SeqAt.shaped (.str x) = true) : KD K H (.str x) := .inl ⟨_, .str x, h⟩
theorem kd_int {K : PySem.W.Frag} {H : Hp} (i : Int) : KD K H (.int i) := .inl ⟨_, .int i, rfl⟩
theorem kd_bl {K : PySem.W.Frag} {H : Hp} (b : Bool) : KD K H (.bl b) := .inl ⟨_, .bl b, rfl⟩
theorem kd_non {K : PySem.W.Frag} {H : Hp} : KD K H .non := .inl ⟨_, .non, rfl⟩
theorem kd_dct {K : PySem.W.Frag} {H : Hp} {a : Addr} {kvs : List (Key × V)} (h : H a = some (.dK kvs)) : KD K H (.ref a) := .inr ⟨a, kvs, rfl, h⟩
/-- wrapped so many times -/
inductive Wrap (H : Hp) : Nat → V → Prop
  | zero {v : V} : Kn H v → Wrap H 0 v
  | one {k : Nat} {p : Addr} {v : V} : H p = some (.tup [v]) → Wrap H k v → Wrap H (k + 1) (.ref p)
  | lst {k : Nat} {p : Addr} {v : V} : H p = some (.lst [v]) → Wrap H k v → Wrap H (k + 1) (.ref p)
  | two {k : Nat} {p : Addr} {v : V} : H p = some (.tup [.int 1, v]) → Wrap H k v → Wrap H (k + 1) (.ref p)
  | end' {k : Nat} {p e : Addr} {v : V} : H p = some (.tup [v, .ref e]) → H e = some (.tup []) → Wrap H k v → Wrap H (k + 1) (.ref p)
theorem Wrap.kn {H : Hp} {k : Nat} {v : V} (h : Wrap H k v) : Kn H v := by
  cases h with
  | zero h => exact h
  | one h _ => exact .inr (.inl ⟨_, h⟩)
  | lst h _ => exact .inl ⟨_, h⟩
  | two h _ => exact .inr (.inl ⟨_, h⟩)
  | end' h _ _ => exact .inr (.inl ⟨_, h⟩)
theorem Wrap.tie {K : PySem.W.Frag} {H : Hp} {k : Nat} {v : V} (h : Wrap H (k + 1) v) : TieK K H v := by
  cases h with
  | one h w => exact tiek_len h (fun x hx => by rw [List.mem_singleton.mp hx]; exact w.kn) (by simp)
  | lst h _ => exact tiek_lst h
  | two h w => exact tiek_len h (fun x hx => by
      simp only [List.mem_cons, List.not_mem_nil, or_false] at hx
      rcases hx with rfl | rfl
      · trivial
      · exact w.kn) (by simp)
  | end' h e w => exact tiek_len h (fun x hx => by
      simp only [List.mem_cons, List.not_mem_nil, or_false] at hx
      rcases hx with rfl | rfl
      · exact w.kn
      · exact .inr (.inl ⟨_, e⟩)) (by simp)
theorem Wrap.inner {K : PySem.W.Frag} {H : Hp} {k : Nat} {v : V} (h : Wrap H (k + 2) v) : ∀ ts, parts H v = some ts → ∀ x ∈ ts, TieK K H x := by
  intro ts e x hx
  cases h with
  | one h w =>
    rw [parts_of' h] at e
    cases e
    rw [List.mem_singleton.mp hx]
    exact w.tie
  | lst h _ => rw [parts_none (by unfold isT; simp only [h])] at e; cases e
  | two h w =>
    rw [parts_of' h] at e
    cases e
    simp only [List.mem_cons, List.not_mem_nil, or_false] at hx
    rcases hx with rfl | rfl
    · exact tiek_no trivial rfl
    · exact w.tie
  | end' h e2 w =>
    rw [parts_of' h] at e
    cases e
    simp only [List.mem_cons, List.not_mem_nil, or_false] at hx
    rcases hx with rfl | rfl
    · exact w.tie
    · exact tiek_len e2 (fun y hy => by simp at hy) (by simp)
theorem Wrap.web {K : PySem.W.Frag} {H : Hp} {k : Nat} {v : V} (h : Wrap H (k + 3) v) : WebK K H v := by
  cases h with
  | one h w => exact webk_len h (fun x hx => by rw [List.mem_singleton.mp hx]; exact w.kn) (by simp)
  | lst h _ => exact webk_no (.inl ⟨_, h⟩) (by unfold isT; simp only [h])
  | two h w => exact webk_pair h trivial w.kn w.inner
  | end' h e w => exact webk_pair h w.kn (.inr (.inl ⟨_, e⟩)) (fun ts e2 x hx => by
      rw [parts_of' e] at e2
      cases e2
      simp at hx)
/-! ### k01: ties put otherwise -/
theorem st_tie3 {K : PySem.W.Frag} {d c p : Addr} {H : Hp} {a b e : V} (o : Own d c H p (.tup [a, b, e])) (ka : Stay d c Kn H a) (kb : Stay d c Kn H b) (ke : Stay d c Kn H e) (kd : Stay d c (KD K) H e) : Stay d c (TieK K) H (.ref p) := fun H' k => tiek_tup (o.kp k).2.2 (fm (ka H' k) (fm (kb H' k) (fm (ke H' k) fm_nil))) (fun a' b' c' z => by cases z; exact kd H' k)
theorem st_tieN {K : PySem.W.Frag} {d c p : Addr} {H : Hp} {xs : List V} (o : Own d c H p (.tup xs)) (k : ∀ x ∈ xs, Stay d c Kn H x) (l : xs.length ≠ 3) : Stay d c (TieK K) H (.ref p) := fun H' k' => tiek_len (o.kp k').2.2 (fun x hx => k x hx H' k') l
theorem st_tieL {K : PySem.W.Frag} {d c p : Addr} {H : Hp} {xs : List V} (o : Own d c H p (.lst xs)) : Stay d c (TieK K) H (.ref p) := fun H' k' => tiek_lst (o.kp k').2.2
theorem shaped_kind (b : Bool) : SeqAt.shaped (.str (kindS b)) = true := by cases b <;> decide +kernel
def spOddTie (K : PySem.W.Frag) : Sp := fun vs H Q _ => ∃ (d c wa ta : Addr) (n : Int) (x : V) (t : Tie), vs = [.ref d, .ref wa, .ref ta] ∧ Deck H d c ∧ H wa = some (.tup [.int n, x]) ∧ H ta = some (.tup [.int t.one, .int t.other, .str (kindS t.foe)]) ∧ ∀ v H', Deck H' d c → Kp d c H H' → Stay d c (TieK K) H' v → Q v H'
section
variable {P : Program} {w : World} {K : PySem.W.Frag} {mg : Str → Option Value} {base : Heap}
theorem ok_l_odd_tie {f : Addr} {fd : FuncData} (F : Fun K "_law_odd_tie" "_law_odd_tie" s_l_odd_tie f fd) (D_l_draw : Df P w K mg base 1 "_law_draw" ["_law_deck_here", "_law_many"] spDraw) : FnOk P w K mg base CX0 2 f fd ["_law_deck_here", "_law_web_here", "_law_tie"] (spOddTie K) := by
  obtain ⟨f_l_draw, fd_l_draw, G_l_draw, g_l_draw, k_l_draw, b_l_draw⟩ := D_l_draw
  refine F.ok sc_l_odd_tie (fun vs H Q E h => ?_) (fun cdv A outer s H vs Q E hr h => ?_)
  · obtain ⟨d, c, wa, ta, n, x, t, rfl, _⟩ := h
    rfl
  · obtain ⟨d, c, wa, ta, n, x, t, rfl, hD, hw, ht, q⟩ := h
    refine ⟨_, (pss_cons (ps_set (i := 3) sc_l_odd_tie.nd rfl (.inl rfl) (pe_ix ix_tup (pv 1) pe_int (fun _ _ => rfl)))
      (pss_cons (ps_asg (pv 2) (pg_tup rfl (pgs_cons (pg_name (i := 4) sc_l_odd_tie.nd rfl (.inl rfl)) (pgs_cons (pg_name (i := 5) sc_l_odd_tie.nd rfl (.inl rfl)) (pgs_cons (pg_name (i := 6) sc_l_odd_tie.nd rfl (.inl rfl)) pgs_nil)))))
      (Evl.pss_cut (ps_set (i := 7) sc_l_odd_tie.nd rfl (.inl rfl) (pe_ix ix_list (pe_lst (pa_cons (pv 3) (pa_cons (pe_un un_neg pe_int) (pa_cons (pe_op op_add (pv 3) pe_int) (pa_cons pe_bl (pa_cons pe_bl (pa_cons pe_str (pa_cons pe_non (pa_cons (pe_tup (pa_cons pe_int pa_nil)) (pa_cons (pe_lst (pa_cons pe_int pa_nil)) (pa_cons (pv 4) (pa_cons (pv 5) (pa_cons pe_dnewK (pa_cons (pe_op op_pow pe_int pe_int) (pa_cons (pe_un un_neg (pv 3)) pa_nil))))))))))))))) (pe_call G_l_draw (hr.mono (by decide)) (by rfl) g_l_draw k_l_draw b_l_draw .nil pass0 (pa_cons (pv 0) (pa_cons pe_int pa_nil))) (fun _ _ => rfl)))
      (pss_cons (ps_set (i := 8) sc_l_odd_tie.nd rfl (.inl rfl) (pe_lst (pa_cons pe_str (pa_cons pe_str (pa_cons pe_str (pa_cons pe_non (pa_cons pe_int (pa_cons pe_bl (pa_cons (pe_tup (pa_cons pe_str pa_nil)) (pa_cons (pe_lst (pa_cons pe_str pa_nil)) (pa_cons pe_str (pa_cons pe_str (pa_cons pe_str (pa_cons pe_dnewK (pa_cons pe_str (pa_cons pe_str pa_nil))))))))))))))))
      (Evl.pss_cut (ps_set (i := 9) sc_l_odd_tie.nd rfl (.inl rfl) (pe_ix ix_list (pv 8) (pe_call G_l_draw (hr.mono (by decide)) (by rfl) g_l_draw k_l_draw b_l_draw .nil pass0 (pa_cons (pv 0) (pa_cons pe_int pa_nil))) (fun _ _ => rfl)))
      (Evl.pss_cut (ps_set (i := 10) sc_l_odd_tie.nd rfl (.inl rfl) (pe_lst (pa_cons (pe_tup (pa_cons (pv 7) (pa_cons (pv 5) (pa_cons (pv 6) pa_nil)))) (pa_cons (pe_tup (pa_cons (pv 4) (pa_cons (pv 7) (pa_cons (pv 6) pa_nil)))) (pa_cons (pe_tup (pa_cons (pv 4) (pa_cons (pv 5) (pa_cons (pv 9) pa_nil)))) (pa_cons (pe_lst (pa_cons (pv 4) (pa_cons (pv 5) (pa_cons (pv 6) pa_nil)))) (pa_cons (pe_slice sl_tupU (pv 2) po_none (po_some pe_int)) (pa_cons (pe_op op_catU (pv 2) (pe_tup (pa_cons pe_int pa_nil))) pa_nil))))))))
      (pss_cons (ps_set (i := 10) sc_l_odd_tie.nd rfl (.inl rfl) (pe_op op_cat (pv 10) (pe_lst (pa_cons (pe_tup (pa_cons (pv 6) (pa_cons (pv 4) (pa_cons (pv 5) pa_nil)))) (pa_cons (pe_tup (pa_cons (pe_tup (pa_cons (pv 4) (pa_cons (pv 5) pa_nil))) (pa_cons (pv 6) pa_nil))) (pa_cons (pe_tup (pa_cons (pv 4) (pa_cons (pv 5) (pa_cons (pv 6) (pa_cons (pv 6) pa_nil))))) (pa_cons pe_non (pa_cons pe_str (pa_cons (pe_tup pa_nil) pa_nil)))))))))
      (pss_cons (ps_expr (pe_bm PySem.F.plainAttrs_list PySem.F.slot_list_append PySem.F.type_list_append mt_append (pv 10) (pa_cons (pe_tup (pa_cons (pv 4) (pa_cons (pv 4) (pa_cons (pv 6) pa_nil)))) pa_nil)))
      (pss_one (ps_ret (pe_ix ix_list (pe_op op_cat (pv 10) (pe_lst (pa_cons (pe_tup (pa_cons (pv 5) (pa_cons (pv 4) (pa_cons (pv 6) pa_nil)))) (pa_cons (pe_tup (pa_cons (pv 7) (pa_cons (pv 7) (pa_cons (pv 6) pa_nil)))) (pa_cons (pv 2) pa_nil))))) (pe_call G_l_draw (hr.mono (by decide)) (by rfl) g_l_draw k_l_draw b_l_draw .nil pass0 (pa_cons (pv 0) (pa_cons pe_int pa_nil))) (fun _ _ => rfl)))))))))))), ?_⟩
    have sKn : ∀ {R : Hp → V → Prop} {H' : Hp} {v : V}, (∀ H'', R H'' v) → Stay d c R H' v := fun h H'' _ => h H''
    refine ⟨.ref wa, rfl, wa, _, 0, .int n, rfl, rfl, SqT.of hw, rfl, ?_⟩
    refine ⟨.ref ta, rfl, ta, _, rfl, SqT.of ht, rfl, _, _, rfl, _, _, rfl, _, _, rfl, rfl, ?_⟩
    generalize hkk : kindS t.foe = kk at ht ⊢
    have skk : SeqAt.shaped (.str kk) = true := by rw [← hkk]; exact shaped_kind _
    refine ⟨fun σ' H' => ∃ bad : V, σ' = [some (.ref d), some (.ref wa), some (.ref ta), some (.int n), some (.int t.one), some (.int t.other), some (.str kk), some bad, none, none, none] ∧ Deck H' d c ∧ Kp d c H H' ∧ Stay d c Kn H' bad, ?_, ?_⟩
    · refine ⟨.int n, rfl, 1, rfl, .int n, rfl, n, 1, rfl, rfl, by show 1 ≤ sizeLine; decide, fun p1 n1 => ?_⟩
      have o1 : Own d c _ p1 (.tup [.int 0]) := Own.new hD n1
      have D1 := hD.new (o := .tup [.int 0]) n1
      have K1 : Kp d c H _ := Kp.new (o := .tup [.int 0]) n1
      refine ⟨by show 1 ≤ sizeLine; decide, fun p2 n2 => ?_⟩
      have o2 : Own d c _ p2 (.lst [.int 0]) := Own.new D1 n2
      have D2 := D1.new (o := .lst [.int 0]) n2
      have K2 : Kp d c _ _ := Kp.new (d := d) (c := c) (o := .lst [.int 0]) n2
      refine ⟨.int t.one, rfl, .int t.other, rfl, fun p3 n3 => ?_⟩
      have o3 : Own d c _ p3 (.dK []) := Own.new D2 n3
      have D3 := D2.new (o := .dK []) n3
      have K3 : Kp d c _ _ := Kp.new (d := d) (c := c) (o := .dK []) n3
      refine ⟨10, 59, rfl, rfl, ⟨by decide, by decide, by decide⟩, .int n, rfl, n, rfl, by show 14 ≤ sizeLine; decide, fun L nL => ?_⟩
      refine ⟨.ref d, rfl, d, c, 14, rfl, D3.new nL, by decide, by decide, fun v H4 a4 b4 D4 K4 => ?_⟩
      have oL := (Own.new D3 nL).kp K4
      have K5 := (Kp.new (d := d) (c := c) nL).trans K4
      have q1 := ((o1.kp K2).kp K3).kp K5
      have q2 := (o2.kp K3).kp K5
      have q3 := o3.kp K5
      obtain ⟨z, e1, hz⟩ := pickO (R := fun x => Stay d c Kn H4 x) oL a4 b4 rfl (fm (sKn fun _ => trivial) (fm (sKn fun _ => trivial) (fm (sKn fun _ => trivial) (fm (sKn fun _ => trivial) (fm (sKn fun _ => trivial) (fm (sKn fun _ => trivial) (fm (sKn fun _ => trivial) (fm q1.kn (fm q2.knL (fm (sKn fun _ => trivial) (fm (sKn fun _ => trivial) (fm q3.knD (fm (sKn fun _ => trivial) (fm (sKn fun _ => trivial) fm_nil))))))))))))))
      exact ⟨L, _, v, z, rfl, rfl, SqL.of oL.2.2, e1, z, rfl, D4, ((K1.trans K2).trans K3).trans K5, hz⟩
    rintro σ' H1 ⟨bad, rfl, D1, K1, hb⟩
    have ht1 := (K1.tk hD) _ _ ht
    clear hw ht
    refine ⟨by show 1 ≤ sizeLine; decide, fun p1 n1 => ?_⟩
    have o1 : Own d c _ p1 (.tup [.str "friend"]) := Own.new D1 n1
    have D2 := D1.new (o := .tup [.str "friend"]) n1
    have K2 : Kp d c H1 _ := Kp.new (o := .tup [.str "friend"]) n1
    refine ⟨by show 1 ≤ sizeLine; decide, fun p2 n2 => ?_⟩
    have o2 : Own d c _ p2 (.lst [.str "foe"]) := Own.new D2 n2
    have D3 := D2.new (o := .lst [.str "foe"]) n2
    have K3 : Kp d c _ _ := Kp.new (d := d) (c := c) (o := .lst [.str "foe"]) n2
    refine fun p3 n3 => ?_
    have o3 : Own d c _ p3 (.dK []) := Own.new D3 n3
    have D4 := D3.new (o := .dK []) n3
    have K4 : Kp d c _ _ := Kp.new (d := d) (c := c) (o := .dK []) n3
    refine ⟨by show 14 ≤ sizeLine; decide, fun L nL => ?_⟩
    refine ⟨fun σ' H' => ∃ (y : V) (word : V), σ' = [some (.ref d), some (.ref wa), some (.ref ta), some (.int n), some (.int t.one), some (.int t.other), some (.str kk), some bad, some y, some word, none] ∧ Deck H' d c ∧ Kp d c H1 H' ∧ Stay d c Kn H' word ∧ Stay d c (KD K) H' word, ?_, ?_⟩
    · refine ⟨.ref L, rfl, .ref d, rfl, d, c, 14, rfl, D4.new nL, by decide, by decide, fun v H5 a5 b5 D5 K5 => ?_⟩
      have oL := (Own.new D4 nL).kp K5
      have K6 := (Kp.new (d := d) (c := c) nL).trans K5
      have q1 := ((o1.kp K3).kp K4).kp K6
      have q2 := (o2.kp K4).kp K6
      have q3 := o3.kp K6
      have st : ∀ (x : Str), SeqAt.shaped (.str x) = true → Stay d c Kn H5 (.str x) ∧ Stay d c (KD K) H5 (.str x) := fun x hx => ⟨sKn fun _ => trivial, sKn fun _ => kd_str hx⟩
      obtain ⟨z, e1, hz⟩ := pickO (R := fun x => Stay d c Kn H5 x ∧ Stay d c (KD K) H5 x) oL a5 b5 rfl (fm (st _ (by decide +kernel)) (fm (st _ (by decide +kernel)) (fm (st _ (by decide +kernel)) (fm ⟨sKn fun _ => trivial, sKn fun _ => kd_non⟩ (fm ⟨sKn fun _ => trivial, sKn fun _ => kd_int 5⟩ (fm ⟨sKn fun _ => trivial, sKn fun _ => kd_bl true⟩
        (fm ⟨q1.kn, fun H' k => .inl ⟨_, .tup (SqT.of (q1.kp k).2.2) (.cons (.str _) .nil), by decide +kernel⟩⟩ (fm ⟨q2.knL, fun H' k => .inl ⟨_, .lst (SqL.of (q2.kp k).2.2) (.cons (.str _) .nil), by decide +kernel⟩⟩
        (fm (st _ (by decide +kernel)) (fm (st _ (by decide +kernel)) (fm (st _ (by decide +kernel)) (fm ⟨q3.knD, fun H' k => kd_dct (q3.kp k).2.2⟩ (fm (st _ (by decide +kernel)) (fm (st _ (by decide +kernel)) fm_nil))))))))))))))
      exact ⟨L, _, v, z, rfl, rfl, SqL.of oL.2.2, e1, .ref L, z, rfl, D5, ((K2.trans K3).trans K4).trans K6, hz⟩
    clear o1 o2 o3 D2 D3 D4 K2 K3 K4 n1 n2 n3 nL p1 p2 p3 L
    rintro σ' H2 ⟨y, word, rfl, D2, K2, hwk, hwd⟩
    have ht2 := (K2.tk D1) _ _ ht1
    have hb2 := hb.kp K2
    have iK : ∀ {H' : Hp} (i : Int), Stay d c Kn H' (.int i) := fun i => sKn fun _ => trivial
    have sK : ∀ {H' : Hp} (x : Str), Stay d c Kn H' (.str x) := fun i => sKn fun _ => trivial
    have kK : ∀ {H' : Hp}, Stay d c (KD K) H' (.str kk) := sKn fun _ => kd_str skk
    refine ⟨fun σ' H' => ∃ (L : Addr) (vs : List V), σ' = [some (.ref d), some (.ref wa), some (.ref ta), some (.int n), some (.int t.one), some (.int t.other), some (.str kk), some bad, some y, some word, some (.ref L)] ∧ Deck H' d c ∧ Kp d c H2 H' ∧ Own d c H' L (.lst vs) ∧ vs.length = 6 ∧ ∀ x ∈ vs, Stay d c (TieK K) H' x, ?_, ?_⟩
    · refine ⟨bad, rfl, .int t.other, rfl, .str kk, rfl, by show 3 ≤ sizeLine; decide, fun p1 n1 => ?_⟩
      have o1 : Own d c _ p1 (.tup [bad, .int t.other, .str kk]) := Own.new D2 n1
      have D3 := D2.new (o := .tup [bad, .int t.other, .str kk]) n1
      have K3 : Kp d c H2 _ := Kp.new (o := .tup [bad, .int t.other, .str kk]) n1
      refine ⟨.int t.one, rfl, bad, rfl, .str kk, rfl, by show 3 ≤ sizeLine; decide, fun p2 n2 => ?_⟩
      have o2 : Own d c _ p2 (.tup [.int t.one, bad, .str kk]) := Own.new D3 n2
      have D4 := D3.new (o := .tup [.int t.one, bad, .str kk]) n2
      have K4 : Kp d c _ _ := Kp.new (d := d) (c := c) (o := .tup [.int t.one, bad, .str kk]) n2
      refine ⟨.int t.one, rfl, .int t.other, rfl, word, rfl, by show 3 ≤ sizeLine; decide, fun p3 n3 => ?_⟩
      have o3 : Own d c _ p3 (.tup [.int t.one, .int t.other, word]) := Own.new D4 n3
      have D5 := D4.new (o := .tup [.int t.one, .int t.other, word]) n3
      have K5 : Kp d c _ _ := Kp.new (d := d) (c := c) (o := .tup [.int t.one, .int t.other, word]) n3
      refine ⟨.int t.one, rfl, .int t.other, rfl, .str kk, rfl, by show 3 ≤ sizeLine; decide, fun p4 n4 => ?_⟩
      have o4 : Own d c _ p4 (.lst [.int t.one, .int t.other, .str kk]) := Own.new D5 n4
      have D6 := D5.new (o := .lst [.int t.one, .int t.other, .str kk]) n4
      have K6 : Kp d c _ _ := Kp.new (d := d) (c := c) (o := .lst [.int t.one, .int t.other, .str kk]) n4
      have K26 := ((K3.trans K4).trans K5).trans K6
      have ht6 := (K26.tk D2) _ _ ht2
      refine ⟨.ref ta, rfl, 2, rfl, ta, _, rfl, ht6, fun p5 H7 s7 h7 => ?_⟩
      have D7 := D6.same s7
      have o5 := Own.tup D7 h7
      have K7 := Same.kp (d := d) (c := c) s7
      have ht7 := (K7.tk D6) _ _ ht6
      refine ⟨.ref ta, rfl, by show 1 ≤ sizeLine; decide, fun p6 n6 => ?_⟩
      have D8 := D7.new (o := .tup [.int 1]) n6
      have K8 := Kp.new (d := d) (c := c) (o := .tup [.int 1]) n6
      have ht8 := (K8.tk D7) _ _ ht7
      refine ⟨ta, p6, _, _, rfl, rfl, ht8, upd_same, by show 3 + 1 ≤ 100000; decide, fun p7 H9 s9 h9 => ?_⟩
      have D9 := D8.same s9
      have K9 := K8.trans (Same.kp (d := d) (c := c) s9)
      have o7 := Own.tup D9 h9
      refine ⟨by show 6 ≤ sizeLine; decide, fun L nL => ?_⟩
      have K10 := Kp.new (d := d) (c := c) (o := .lst [.ref p1, .ref p2, .ref p3, .ref p4, .ref p5, .ref p7]) nL
      have K7e := (K7.trans K9).trans K10
      have K6e := K6.trans K7e
      have K5e := K5.trans K6e
      have K4e := K4.trans K5e
      have K3e := K3.trans K4e
      refine ⟨L, _, rfl, D9.new nL, K3e, Own.new D9 nL, rfl, ?_⟩
      have hbe := hb2.kp K3e
      refine fm (st_tie3 (o1.kp K4e) hbe (iK _) (sK _) kK) (fm (st_tie3 (o2.kp K5e) (iK _) hbe (sK _) kK) (fm (st_tie3 (o3.kp K6e) (iK _) (iK _) (hwk.kp K3e) (hwd.kp K3e)) (fm (st_tieL (o4.kp K7e)) (fm ?_ (fm ?_ fm_nil)))))
      · exact st_tieN (xs := [.int t.one, .int t.other]) ((o5.kp K9).kp K10) (fm (iK _) (fm (iK _) fm_nil)) (by simp)
      · exact st_tieN (xs := [.int t.one, .int t.other, .str kk, .int 1]) (o7.kp K10) (fm (iK _) (fm (iK _) (fm (sK _) (fm (iK _) fm_nil)))) (by simp)
    rintro σ' H3 ⟨L, vs, rfl, D3, K3, oL, lv, hvs⟩
    have ht3 := (K3.tk D2) _ _ ht2
    have hb3 := hb2.kp K3
    refine ⟨.ref L, rfl, .str kk, rfl, .int t.one, rfl, .int t.other, rfl, by show 3 ≤ sizeLine; decide, fun p1 n1 => ?_⟩
    have o1 : Own d c _ p1 (.tup [.str kk, .int t.one, .int t.other]) := Own.new D3 n1
    have D4 := D3.new (o := .tup [.str kk, .int t.one, .int t.other]) n1
    have K4 : Kp d c H3 _ := Kp.new (o := .tup [.str kk, .int t.one, .int t.other]) n1
    refine ⟨.int t.one, rfl, .int t.other, rfl, by show 2 ≤ sizeLine; decide, fun p2 n2 => ?_⟩
    have o2 : Own d c _ p2 (.tup [.int t.one, .int t.other]) := Own.new D4 n2
    have D5 := D4.new (o := .tup [.int t.one, .int t.other]) n2
    have K5 : Kp d c _ _ := Kp.new (d := d) (c := c) (o := .tup [.int t.one, .int t.other]) n2
    refine ⟨.str kk, rfl, by show 2 ≤ sizeLine; decide, fun p3 n3 => ?_⟩
    have o3 : Own d c _ p3 (.tup [.ref p2, .str kk]) := Own.new D5 n3
    have D6 := D5.new (o := .tup [.ref p2, .str kk]) n3
    have K6 : Kp d c _ _ := Kp.new (d := d) (c := c) (o := .tup [.ref p2, .str kk]) n3
    refine ⟨.int t.one, rfl, .int t.other, rfl, .str kk, rfl, .str kk, rfl, by show 4 ≤ sizeLine; decide, fun p4 n4 => ?_⟩
    have o4 : Own d c _ p4 (.tup [.int t.one, .int t.other, .str kk, .str kk]) := Own.new D6 n4
    have D7 := D6.new (o := .tup [.int t.one, .int t.other, .str kk, .str kk]) n4
    have K7 : Kp d c _ _ := Kp.new (d := d) (c := c) (o := .tup [.int t.one, .int t.other, .str kk, .str kk]) n4
    refine ⟨Nat.zero_le _, fun p5 n5 => ?_⟩
    have o5 : Own d c _ p5 (.tup []) := Own.new D7 n5
    have D8 := D7.new (o := .tup []) n5
    have K8 : Kp d c _ _ := Kp.new (d := d) (c := c) (o := .tup []) n5
    refine ⟨by show 6 ≤ sizeLine; decide, fun B nB => ?_⟩
    have oB : Own d c _ B (.lst [.ref p1, .ref p3, .ref p4, .non, .str "0 1 foe", .ref p5]) := Own.new D8 nB
    have D9 := D8.new (o := .lst [.ref p1, .ref p3, .ref p4, .non, .str "0 1 foe", .ref p5]) nB
    have K9 : Kp d c _ _ := Kp.new (d := d) (c := c) (o := .lst [.ref p1, .ref p3, .ref p4, .non, .str "0 1 foe", .ref p5]) nB
    have K89 := K8.trans K9
    have K79 := K7.trans K89
    have K69 := K6.trans K79
    have K59 := K5.trans K69
    have K49 := K4.trans K59
    have all12 : ∀ x ∈ vs ++ [V.ref p1, .ref p3, .ref p4, .non, .str "0 1 foe", .ref p5], Stay d c (TieK K) _ x := fm_app (fun x hx => (hvs x hx).kp K49)
      (fm (st_tie3 (o1.kp K59) (sK _) (iK _) (iK _) (sKn fun _ => kd_int _)) (fm (st_tieN (o3.kp K79) (fm (o2.kp K69).kn (fm (sK _) fm_nil)) (by simp)) (fm (st_tieN (o4.kp K89) (fm (iK _) (fm (iK _) (fm (sK _) (fm (sK _) fm_nil)))) (by simp)) (fm (sKn fun _ => tiek_no trivial rfl) (fm (sKn fun _ => tiek_no trivial rfl) (fm (st_tieN (o5.kp K9) fm_nil (by simp)) fm_nil))))))
    have oL9 := oL.kp K49
    have ht9 := (K49.tk D3) _ _ ht3
    have hb9 := hb3.kp K49
    have K39 : Kp d c H _ := ((K1.trans K2).trans K3).trans K49
    generalize upd _ B (HO.lst [.ref p1, .ref p3, .ref p4, .non, .str "0 1 foe", .ref p5]) = H9 at oB D9 K9 K89 K79 K69 K59 K49 all12 oL9 ht9 hb9 K39 ⊢
    refine ⟨L, B, _, _, rfl, rfl, oL9.2.2, oB.2.2, by rw [lv]; show 12 ≤ sizeLine; decide, fun C nC => ?_⟩
    generalize hcv : vs ++ [V.ref p1, .ref p3, .ref p4, .non, .str "0 1 foe", .ref p5] = cv at all12 ⊢
    have lc : cv.length = 12 := by rw [← hcv, List.length_append, lv]; rfl
    have oC : Own d c _ C (.lst cv) := Own.new D9 nC
    have D10 := D9.new (o := .lst cv) nC
    have K10 : Kp d c H9 _ := Kp.new (o := .lst cv) nC
    generalize upd H9 C (HO.lst cv) = H10 at oC D10 K10 ⊢
    refine ⟨.ref C, rfl, .inl ⟨rfl, _, SqL.of oC.2.2⟩, .int t.one, rfl, .int t.one, rfl, .str kk, rfl, by show 3 ≤ sizeLine; decide, fun p6 n6 => ?_⟩
    have o6 : Own d c _ p6 (.tup [.int t.one, .int t.one, .str kk]) := Own.new D10 n6
    have D11 := D10.new (o := .tup [.int t.one, .int t.one, .str kk]) n6
    have K11 := K10.trans (Kp.new (d := d) (c := c) (o := .tup [.int t.one, .int t.one, .str kk]) n6)
    have oC11 := oC.kp (Kp.new (d := d) (c := c) (o := .tup [.int t.one, .int t.one, .str kk]) n6)
    have e6C : p6 ≠ C := (ne_of_none oC.2.2 n6).symm
    generalize upd H10 p6 (HO.tup [.int t.one, .int t.one, .str kk]) = H11 at o6 D11 K11 oC11 ⊢
    refine ⟨C, cv, _, rfl, rfl, oC11.2.2, small1000 (by omega), ?_⟩
    have D12 := D11.mut (o := .lst (cv ++ [.ref p6])) oC.1 oC.2.1
    have K12 := K11.mut (o := .lst (cv ++ [.ref p6])) nC
    have o6' : Own d c (upd H11 C (.lst (cv ++ [.ref p6]))) p6 (.tup [.int t.one, .int t.one, .str kk]) := ⟨o6.1, o6.2.1, by rw [upd_ne e6C]; exact o6.2.2⟩
    have oC12 : Own d c (upd H11 C (.lst (cv ++ [.ref p6]))) C (.lst (cv ++ [.ref p6])) := ⟨oC.1, oC.2.1, upd_same⟩
    generalize upd H11 C (HO.lst (cv ++ [.ref p6])) = H12 at D12 K12 o6' oC12 ⊢
    have all13 : ∀ x ∈ cv ++ [V.ref p6], Stay d c (TieK K) H12 x := fm_app (fun x hx => (all12 x hx).kp K12) (fm (st_tie3 o6' (iK _) (iK _) (sK _) kK) fm_nil)
    generalize hdv : cv ++ [V.ref p6] = dv at all13 oC12
    have ld : dv.length = 13 := by rw [← hdv, List.length_append, lc]; rfl
    have hb12 := hb9.kp K12
    have ht12 := (K12.tk D9) _ _ ht9
    refine ⟨.ref C, rfl, .int t.other, rfl, .int t.one, rfl, .str kk, rfl, by show 3 ≤ sizeLine; decide, fun p7 n7 => ?_⟩
    have o7 : Own d c _ p7 (.tup [.int t.other, .int t.one, .str kk]) := Own.new D12 n7
    have D13 := D12.new (o := .tup [.int t.other, .int t.one, .str kk]) n7
    have K13 := Kp.new (d := d) (c := c) (o := .tup [.int t.other, .int t.one, .str kk]) n7
    refine ⟨bad, rfl, bad, rfl, .str kk, rfl, by show 3 ≤ sizeLine; decide, fun p8 n8 => ?_⟩
    have o8 : Own d c _ p8 (.tup [bad, bad, .str kk]) := Own.new D13 n8
    have D14 := D13.new (o := .tup [bad, bad, .str kk]) n8
    have K14 := Kp.new (d := d) (c := c) (o := .tup [bad, bad, .str kk]) n8
    refine ⟨.ref ta, rfl, by show 3 ≤ sizeLine; decide, fun E1 nE => ?_⟩
    have oE : Own d c _ E1 (.lst [.ref p7, .ref p8, .ref ta]) := Own.new D14 nE
    have D15 := D14.new (o := .lst [.ref p7, .ref p8, .ref ta]) nE
    have K15 := Kp.new (d := d) (c := c) (o := .lst [.ref p7, .ref p8, .ref ta]) nE
    have K1215 := (K13.trans K14).trans K15
    refine ⟨C, E1, _, _, rfl, rfl, (oC12.kp K1215).2.2, oE.2.2, by rw [ld]; show 16 ≤ sizeLine; decide, fun G nG => ?_⟩
    have ot12 := Own.tup D12 ht12
    have K16 := Kp.new (d := d) (c := c) (o := .lst (dv ++ [.ref p7, .ref p8, .ref ta])) nG
    have all16 : ∀ x ∈ dv ++ [V.ref p7, .ref p8, .ref ta], Stay d c (TieK K) _ x := fm_app (fun x hx => (all13 x hx).kp K1215)
      (fm (st_tie3 ((o7.kp K14).kp K15) (iK _) (iK _) (sK _) kK) (fm (st_tie3 (o8.kp K15) (hb12.kp K1215) (hb12.kp K1215) (sK _) kK) (fm (st_tie3 (ot12.kp K1215) (iK _) (iK _) (sK _) kK) fm_nil)))
    refine ⟨.ref d, rfl, d, c, 16, rfl, D15.new nG, by decide, by decide, fun v H17 a17 b17 D17 K17 => ?_⟩
    have K1517 := K16.trans K17
    have oG := (Own.new D15 nG).kp K17
    have lg : ((dv ++ [V.ref p7, .ref p8, .ref ta]).length : Int) = 16 := by rw [List.length_append, ld]; rfl
    obtain ⟨z, e1, hz⟩ := pickV (R := fun x => Stay d c (TieK K) H17 x) a17 (by rw [lg]; exact b17) (fun x hx => (all16 x hx).kp K1517)
    exact ⟨G, _, v, z, rfl, rfl, SqL.of oG.2.2, e1, q z H17 D17 (((K39.trans K12).trans K1215).trans K1517) hz⟩
end
/-! ### k01: webs put otherwise -/
theorem st_webT {K : PySem.W.Frag} {d c p b : Addr} {H : Hp} {m : V} {vs : List V} (o : Own d c H p (.tup [m, .ref b])) (km : Stay d c Kn H m) (ob : Own d c H b (.tup vs)) (all : ∀ x ∈ vs, Stay d c (TieK K) H x) : Stay d c (WebK K) H (.ref p) := fun H' k => webk_pair (o.kp k).2.2 (km H' k) (ob.kn H' k) (fun ts e x hx => by
  rw [parts_of' (ob.kp k).2.2] at e
  cases e
  exact all x hx H' k)
theorem st_webS {K : PySem.W.Frag} {d c p : Addr} {H : Hp} {m t : V} (o : Own d c H p (.tup [m, t])) (km : Stay d c Kn H m) (kt : Stay d c Kn H t) (no : ∀ H', Kp d c H H' → isT H' t = false) : Stay d c (WebK K) H (.ref p) := fun H' k => webk_pair (o.kp k).2.2 (km H' k) (kt H' k) (fun ts e x hx => by
  rw [parts_none (no H' k)] at e
  cases e)
theorem st_webN {K : PySem.W.Frag} {d c p : Addr} {H : Hp} {xs : List V} (o : Own d c H p (.tup xs)) (k : ∀ x ∈ xs, Stay d c Kn H x) (l : xs.length ≠ 2) : Stay d c (WebK K) H (.ref p) := fun H' k' => webk_len (o.kp k').2.2 (fun x hx => k x hx H' k') l
theorem isT_lst {H : Hp} {p : Addr} {xs : List V} (h : H p = some (.lst xs)) : isT H (.ref p) = false := by unfold isT; simp only [h]
theorem isT_dct {H : Hp} {p : Addr} {xs : List (Key × V)} (h : H p = some (.dK xs)) : isT H (.ref p) = false := by unfold isT; simp only [h]
theorem st_webL {K : PySem.W.Frag} {d c p : Addr} {H : Hp} {xs : List V} (o : Own d c H p (.lst xs)) : Stay d c (WebK K) H (.ref p) := fun H' k' => webk_no (o.knL H' k') (isT_lst (o.kp k').2.2)
theorem st_webD {K : PySem.W.Frag} {d c p : Addr} {H : Hp} {xs : List (Key × V)} (o : Own d c H p (.dK xs)) : Stay d c (WebK K) H (.ref p) := fun H' k' => webk_no (o.knD H' k') (isT_dct (o.kp k').2.2)
theorem Own.same {d c p : Addr} {o : HO} {H H' : Hp} (h : Own d c H p o) (k : Same H H') : Own d c H' p o := h.kp (Same.kp k)
theorem TieK.kn' {K : PySem.W.Frag} {d c : Addr} {H : Hp} {v : V} (h : Stay d c (TieK K) H v) : Stay d c Kn H v := fun H' k => (h H' k).1
theorem ties_stay {K : PySem.W.Frag} {d c : Addr} {H : Hp} {vs : List V} {ts : List Tie} (D : Deck H d c) (hp : Paired (TieV H) vs ts) : ∀ x ∈ vs, Stay d c (TieK K) H x := fun x hx => by
  obtain ⟨i, hi⟩ := List.getElem?_of_mem hx
  obtain ⟨t, _, a, rfl, e⟩ := Paired.at hp hi
  exact st_tie3 (Own.tup D e) (fun _ _ => trivial) (fun _ _ => trivial) (fun _ _ => trivial) (fun _ _ => kd_str (shaped_kind _))
theorem shaped_tie1 (i j : Int) (b : Bool) : SeqAt.shaped (.tuple [.int i, .int j, .str (kindS b)]) = true := by
  have h : PyData.canLay0 (.str (kindS b)) = true := by cases b <;> decide +kernel
  have g : PyData.canLay0 (.tuple [.int i, .int j, .str (kindS b)]) = true := by
    simp only [PyData.canLay0, PyData.canLayAll0, Bool.true_and, Bool.and_true] at h ⊢
    exact h
  have d : (PyData.tuple [.int i, .int j, .str (kindS b)]).depth = 1 := by simp [PyData.depth, PyData.depthAll]
  unfold SeqAt.shaped
  rw [g, d]
  decide
theorem ties_web {K : PySem.W.Frag} {H : Hp} {ta : Addr} {vs : List V} {ts : List Tie} (ha : H ta = some (.tup vs)) (hp : Paired (TieV H) vs ts) : WebK K H (.ref ta) := by
  have tt : ∀ x ∈ vs, ∃ (p : Addr) (t : Tie), x = .ref p ∧ H p = some (.tup [.int t.one, .int t.other, .str (kindS t.foe)]) := fun x hx => by
    obtain ⟨i, hi⟩ := List.getElem?_of_mem hx
    obtain ⟨t, _, a, e1, e⟩ := Paired.at hp hi
    exact ⟨a, t, e1, e⟩
  have kn : ∀ x ∈ vs, Kn H x := fun x hx => by
    obtain ⟨p, t, rfl, e⟩ := tt x hx
    exact .inr (.inl ⟨_, e⟩)
  by_cases h2 : vs.length = 2
  · match vs, h2, ha, tt, kn with
    | [x, y], _, ha, tt, kn =>
      obtain ⟨p, t, rfl, e⟩ := tt y (by simp)
      refine webk_pair ha (kn x (by simp)) (kn _ (by simp)) (fun us e2 => ?_)
      rw [parts_of' e] at e2
      cases e2
      exact fm (tiek_no trivial rfl) (fm (tiek_no trivial rfl) (fm (tiek_no trivial rfl) fm_nil))
  · exact webk_len ha kn h2
theorem ties_tie {K : PySem.W.Frag} {H : Hp} {ta : Addr} {vs : List V} {ts : List Tie} (ha : H ta = some (.tup vs)) (hp : Paired (TieV H) vs ts) : TieK K H (.ref ta) := by
  have tt : ∀ x ∈ vs, ∃ (p : Addr) (t : Tie), x = .ref p ∧ H p = some (.tup [.int t.one, .int t.other, .str (kindS t.foe)]) := fun x hx => by
    obtain ⟨i, hi⟩ := List.getElem?_of_mem hx
    obtain ⟨t, _, a, e1, e⟩ := Paired.at hp hi
    exact ⟨a, t, e1, e⟩
  refine tiek_tup ha (fun x hx => ?_) (fun a b c z => ?_)
  · obtain ⟨p, t, rfl, e⟩ := tt x hx
    exact .inr (.inl ⟨_, e⟩)
  · obtain ⟨p, t, rfl, e⟩ := tt c (by rw [z]; simp)
    exact .inl ⟨_, .tup (SqT.of e) (.cons (.int _) (.cons (.int _) (.cons (.str _) .nil))), shaped_tie1 _ _ _⟩
def spOther (K : PySem.W.Frag) : Sp := fun vs H Q _ => ∃ (d c : Addr) (wv : V) (n : Int) (ts : List Tie), vs = [.ref d, wv] ∧ Deck H d c ∧ WebAt H wv n ts ∧ ts.length ≤ 300 ∧ ∀ v H', Deck H' d c → Kp d c H H' → Stay d c (WebK K) H' v → Q v H'
section
variable {P : Program} {w : World} {K : PySem.W.Frag} {mg : Str → Option Value} {base : Heap}
theorem ok_l_otherwise {f : Addr} {fd : FuncData} (F : Fun K "_law_otherwise" "_law_otherwise" s_l_otherwise f fd) (M : Free mg) (D_l_draw : Df P w K mg base 1 "_law_draw" ["_law_deck_here", "_law_many"] spDraw) (D_l_odd_tie : Df P w K mg base 2 "_law_odd_tie" ["_law_deck_here", "_law_web_here", "_law_tie"] (spOddTie K)) : FnOk P w K mg base CX0 3 f fd ["_law_deck_here", "_law_web_here"] (spOther K) := by
  obtain ⟨f_l_draw, fd_l_draw, G_l_draw, g_l_draw, k_l_draw, b_l_draw⟩ := D_l_draw
  obtain ⟨f_l_odd_tie, fd_l_odd_tie, G_l_odd_tie, g_l_odd_tie, k_l_odd_tie, b_l_odd_tie⟩ := D_l_odd_tie
  refine F.ok sc_l_otherwise (fun vs H Q E h => ?_) (fun cdv A outer s H vs Q E hr h => ?_)
  · obtain ⟨d, c, wv, n, ts, rfl, _⟩ := h
    rfl
  · obtain ⟨d, c, wv, n, ts, rfl, hD, ⟨wa, ta, vs, rfl, hw, ht, hp⟩, few, q⟩ := h
    refine ⟨_, (pss_cons (ps_asg (pv 1) (pg_tup rfl (pgs_cons (pg_name (i := 2) sc_l_otherwise.nd rfl (.inl rfl)) (pgs_cons (pg_name (i := 3) sc_l_otherwise.nd rfl (.inl rfl)) pgs_nil))))
      (pss_cons (ps_set (i := 4) sc_l_otherwise.nd rfl (.inl rfl) (pe_call G_l_draw (hr.mono (by decide)) (by rfl) g_l_draw k_l_draw b_l_draw .nil pass0 (pa_cons (pv 0) (pa_cons (pe_op op_add (pe_callB call_len_seq (by rfl) M.len PySem.boot_len (pa_cons (pv 3) pa_nil)) pe_int) pa_nil))))
      (pss_cons (ps_set (i := 5) sc_l_otherwise.nd rfl (.inl rfl) (pe_call G_l_draw (hr.mono (by decide)) (by rfl) g_l_draw k_l_draw b_l_draw .nil pass0 (pa_cons (pv 0) (pa_cons pe_int pa_nil))))
      (Evl.pss_cut (ps_if (PW.pt (pw_and (pt_cmpR op_lt (pv 5) pe_int (nomark _)) (pw_and1 (pt_cmpR op_lt (pv 4) (pe_callB call_len_seq (by rfl) M.len PySem.boot_len (pa_cons (pv 3) pa_nil)) (nomark _)))))
        (pss_one (ps_ret (pe_tup (pa_cons (pv 2) (pa_cons (pe_op op_catU (pe_op op_catU (pe_slice sl_tupU (pv 3) po_none (po_some (pv 4))) (pe_tup (pa_cons (pe_call G_l_odd_tie (hr.mono (by decide)) (by rfl) g_l_odd_tie k_l_odd_tie b_l_odd_tie .nil pass0 (pa_cons (pv 0) (pa_cons (pv 1) (pa_cons (pe_ix ix_tup (pv 3) (pv 4) (fun _ _ => rfl)) pa_nil)))) pa_nil))) (pe_slice sl_tupU (pv 3) (po_some (pe_op op_add (pv 4) pe_int)) po_none)) pa_nil)))))
        pss_nil)
      (Evl.pss_cut (ps_if (PW.pt (pw_and (pt_cmpR op_eq (pv 5) pe_int (nomark _)) (pw_and1 (pt_cmpR op_lt (pv 4) (pe_callB call_len_seq (by rfl) M.len PySem.boot_len (pa_cons (pv 3) pa_nil)) (nomark _)))))
        (pss_one (ps_ret (pe_tup (pa_cons (pv 2) (pa_cons (pe_op op_catU (pe_slice sl_tupU (pv 3) po_none (po_some (pv 4))) (pe_slice sl_tupU (pv 3) (po_some (pe_op op_sub (pe_op op_add (pv 4) pe_int) (pe_op op_mul (pe_call G_l_draw (hr.mono (by decide)) (by rfl) g_l_draw k_l_draw b_l_draw .nil pass0 (pa_cons (pv 0) (pa_cons pe_int pa_nil))) pe_int))) po_none)) pa_nil)))))
        pss_nil)
      (Evl.pss_cut (ps_if (pt_cmpR op_lt (pv 5) pe_int (nomark _))
        (pss_one (ps_ret (pe_tup (pa_cons (pv 2) (pa_cons (pe_op op_catU (pe_op op_catU (pe_slice sl_tupU (pv 3) po_none (po_some (pv 4))) (pe_tup (pa_cons (pe_call G_l_odd_tie (hr.mono (by decide)) (by rfl) g_l_odd_tie k_l_odd_tie b_l_odd_tie .nil pass0 (pa_cons (pv 0) (pa_cons (pe_tup (pa_cons (pv 2) (pa_cons (pv 3) pa_nil))) (pa_cons (pe_tup (pa_cons pe_int (pa_cons (pe_op op_sub (pv 2) pe_int) (pa_cons pe_str pa_nil)))) pa_nil)))) pa_nil))) (pe_slice sl_tupU (pv 3) (po_some (pv 4)) po_none)) pa_nil)))))
        pss_nil)
      (pss_cons (ps_set (i := 6) sc_l_otherwise.nd rfl (.inl rfl) (pe_lst (pa_cons pe_int (pa_cons (pe_un un_neg pe_int) (pa_cons pe_bl (pa_cons pe_bl (pa_cons pe_str (pa_cons pe_non (pa_cons (pe_tup (pa_cons (pv 2) pa_nil)) (pa_cons (pe_lst (pa_cons (pv 2) pa_nil)) (pa_cons (pe_op op_sub (pv 2) pe_int) (pa_cons (pe_op op_add (pv 2) pe_int) (pa_cons (pe_op op_pow pe_int pe_int) (pa_cons (pe_un un_neg (pv 2)) (pa_cons pe_dnewK (pa_cons (pv 2) pa_nil))))))))))))))))
      (Evl.pss_cut (ps_if (pt_cmpR op_eq (pv 5) pe_int (nomark _))
        (pss_one (ps_ret (pe_tup (pa_cons (pe_ix ix_list (pv 6) (pe_call G_l_draw (hr.mono (by decide)) (by rfl) g_l_draw k_l_draw b_l_draw .nil pass0 (pa_cons (pv 0) (pa_cons pe_int pa_nil))) (fun _ _ => rfl)) (pa_cons (pv 3) pa_nil)))))
        pss_nil)
      (Evl.pss_cut (ps_set (i := 7) sc_l_otherwise.nd rfl (.inl rfl) (pe_lst (pa_cons (pe_lst (pa_cons (pv 2) (pa_cons (pv 3) pa_nil))) (pa_cons (pe_tup (pa_cons (pv 2) pa_nil)) (pa_cons (pe_tup (pa_cons (pv 2) (pa_cons (pv 3) (pa_cons (pe_tup pa_nil) pa_nil)))) (pa_cons (pe_tup (pa_cons (pv 3) (pa_cons (pv 2) pa_nil))) (pa_cons (pe_tup (pa_cons (pv 2) (pa_cons (pe_callTy call_list_of (by rfl) M.list (by decide +kernel) (pa_cons (pv 3) pa_nil)) pa_nil))) (pa_cons (pe_tup (pa_cons (pv 2) (pa_cons pe_non pa_nil))) (pa_cons (pv 2) (pa_cons (pv 3) (pa_cons (pe_tup pa_nil) pa_nil)))))))))))
      (pss_cons (ps_set (i := 7) sc_l_otherwise.nd rfl (.inl rfl) (pe_op op_cat (pv 7) (pe_lst (pa_cons (pe_tup (pa_cons (pv 2) (pa_cons (pe_tup (pa_cons (pv 3) pa_nil)) pa_nil))) (pa_cons pe_non (pa_cons pe_str (pa_cons pe_dnewK (pa_cons (pe_tup (pa_cons (pv 2) (pa_cons pe_str pa_nil))) (pa_cons (pe_lst pa_nil) (pa_cons (pe_tup (pa_cons (pv 2) (pa_cons pe_dnewK pa_nil))) (pa_cons (pe_tup (pa_cons (pe_tup pa_nil) (pa_cons (pe_tup pa_nil) pa_nil))) pa_nil)))))))))))
      (pss_one (ps_ret (pe_ix ix_list (pv 7) (pe_call G_l_draw (hr.mono (by decide)) (by rfl) g_l_draw k_l_draw b_l_draw .nil pass0 (pa_cons (pv 0) (pa_cons pe_int pa_nil))) (fun _ _ => rfl)))))))))))))), ?_⟩
    have sKn : ∀ {R : Hp → V → Prop} {H' : Hp} {v : V}, (∀ H'', R H'' v) → Stay d c R H' v := fun h H'' _ => h H''
    have iK : ∀ {H' : Hp} (i : Int), Stay d c Kn H' (.int i) := fun i => sKn fun _ => trivial
    have lv : vs.length = ts.length := Paired.length hp
    refine ⟨.ref wa, rfl, wa, _, rfl, SqT.of hw, rfl, _, _, rfl, _, _, rfl, rfl, ?_⟩
    refine ⟨.ref d, rfl, .ref ta, rfl, ta, vs, rfl, .inr (SqT.of ht), _, 1, rfl, rfl, d, c, _, rfl, hD, by omega, by omega, fun at_ H1 a1 b1 D1 K1 => ?_⟩
    refine ⟨.ref d, rfl, d, c, 8, rfl, D1, by decide, by decide, fun way H2 a2 b2 D2 K2 => ?_⟩
    have K12 := K1.trans K2
    have ow := Own.tup D2 ((K12.tk hD) _ _ hw)
    have ot := Own.tup D2 ((K12.tk hD) _ _ ht)
    have hp2 := ties_tk (K12.tk hD) hp
    have all2 : ∀ x ∈ vs, Stay d c (TieK K) H2 x := ties_stay D2 hp2
    clear hw ht hp D1 K1 K2 hD
    -- a tie put otherwise
    refine ⟨fun σ' H' => σ' = [some (.ref d), some (.ref wa), some (.int n), some (.ref ta), some (.int at_), some (.int way), none, none] ∧ H' = H2, ?_, ?_⟩
    · refine ⟨.int way, rfl, way, 4, rfl, rfl, _, rfl, ?_⟩
      refine ite2 (fun _ => ?_) (fun _ => ⟨rfl, rfl⟩)
      refine ⟨.int at_, rfl, .ref ta, rfl, ta, vs, rfl, .inr (SqT.of ot.2.2), at_, _, rfl, rfl, _, rfl, ?_⟩
      refine ite2 (fun hlt => ?_) (fun _ => ⟨rfl, rfl⟩)
      have hlt : at_ < (vs.length : Int) := of_decide_eq_true hlt
      obtain ⟨tv, e1, e2⟩ := getI a1 hlt
      obtain ⟨t, e3, tb, rfl, e4⟩ := Paired.at hp2 e2
      refine ⟨.int n, rfl, .ref ta, rfl, .int at_, rfl, at_, rfl, ta, _, rfl, ot.2.2, fun r1 H3 s3 h3 => ?_⟩
      have D3 := D2.same s3
      refine ⟨.ref d, rfl, .ref wa, rfl, .ref ta, rfl, .int at_, rfl, ta, _, at_, _, rfl, rfl, SqT.of (s3 _ _ ot.2.2), e1, d, c, wa, tb, n, _, t, rfl, D3, s3 _ _ ow.2.2, s3 _ _ e4, fun v H4 D4 K4 hv => ?_⟩
      refine ⟨by show 1 ≤ sizeLine; decide, fun p5 n5 => ?_⟩
      have D5 := D4.new (o := .tup [v]) n5
      have K5 := Kp.new (d := d) (c := c) (o := .tup [v]) n5
      have o1 := (Own.tup D3 h3).kp (K4.trans K5)
      refine ⟨r1, p5, _, _, rfl, rfl, o1.2.2, upd_same, ?_, fun r2 H6 s6 h6 => ?_⟩
      · have := len_cut vs none (some at_)
        show (cutV vs none (some at_)).length + 1 ≤ 100000
        omega
      have D6 := D5.same s6
      have K26 := (((Same.kp s3).trans K4).trans K5).trans (Same.kp (d := d) (c := c) s6)
      refine ⟨.ref ta, rfl, .int at_, rfl, at_, 1, rfl, rfl, _, rfl, ta, _, rfl, (ot.kp K26).2.2, fun r3 H7 s7 h7 => ?_⟩
      refine ⟨r2, r3, _, _, rfl, rfl, s7 _ _ h6, h7, ?_, fun r4 H8 s8 h8 => ⟨by show 2 ≤ sizeLine; decide, fun p9 n9 => ?_⟩⟩
      · have := len_cut vs none (some at_)
        have := len_cut vs (some (at_ + 1)) none
        rw [List.length_append]
        show _ + 1 + _ ≤ 100000
        omega
      have D8 := (D6.same s7).same s8
      have K9 := Kp.new (d := d) (c := c) (o := .tup [.int n, .ref r4]) n9
      have K68 := (Same.kp (d := d) (c := c) s7).trans (Same.kp s8)
      have K69 := K68.trans K9
      have K29 := K26.trans K69
      refine q _ _ (D8.new n9) (K12.trans K29) (st_webT (Own.new D8 n9) (iK _) ((Own.tup D8 h8).kp K9) ?_)
      exact fm_app (fm_app (fm_cut (fun x hx => (all2 x hx).kp K29) _ _) (fm (hv.kp ((K5.trans (Same.kp s6)).trans K69)) fm_nil)) (fm_cut (fun x hx => (all2 x hx).kp K29) _ _)
    rintro σ' H2 ⟨rfl, rfl⟩
    -- a tie left out or twice
    refine ⟨fun σ' H' => σ' = [some (.ref d), some (.ref wa), some (.int n), some (.ref ta), some (.int at_), some (.int way), none, none] ∧ H' = H2, ?_, ?_⟩
    · refine ⟨.int way, rfl, rfl, _, rfl, ?_⟩
      refine ite2 (fun _ => ?_) (fun _ => ⟨rfl, rfl⟩)
      refine ⟨.int at_, rfl, .ref ta, rfl, ta, vs, rfl, .inr (SqT.of ot.2.2), at_, _, rfl, rfl, _, rfl, ?_⟩
      refine ite2 (fun hlt => ?_) (fun _ => ⟨rfl, rfl⟩)
      refine ⟨.int n, rfl, .ref ta, rfl, .int at_, rfl, at_, rfl, ta, _, rfl, ot.2.2, fun r1 H3 s3 h3 => ?_⟩
      have D3 := D2.same s3
      refine ⟨.ref ta, rfl, .int at_, rfl, at_, 1, rfl, rfl, .ref d, rfl, d, c, 2, rfl, D3, by decide, by decide, fun u H4 a4 b4 D4 K4 => ?_⟩
      refine ⟨u, 2, rfl, rfl, .inl ⟨by omega, by omega⟩, _, _, rfl, rfl, _, rfl, ta, _, rfl, ((ot.same s3).kp K4).2.2, fun r3 H7 s7 h7 => ?_⟩
      refine ⟨r1, r3, _, _, rfl, rfl, s7 _ _ ((Own.tup D3 h3).kp K4).2.2, h7, ?_, fun r4 H8 s8 h8 => ⟨by show 2 ≤ sizeLine; decide, fun p9 n9 => ?_⟩⟩
      · have := len_cut vs none (some at_)
        have := len_cut vs (some (at_ + 1 - u * 2)) none
        omega
      have D8 := (D4.same s7).same s8
      have K9 := Kp.new (d := d) (c := c) (o := .tup [.int n, .ref r4]) n9
      have K29 := ((((Same.kp (d := d) (c := c) s3).trans K4).trans (Same.kp s7)).trans (Same.kp s8)).trans K9
      refine q _ _ (D8.new n9) (K12.trans K29) (st_webT (Own.new D8 n9) (iK _) ((Own.tup D8 h8).kp K9) ?_)
      exact fm_app (fm_cut (fun x hx => (all2 x hx).kp K29) _ _) (fm_cut (fun x hx => (all2 x hx).kp K29) _ _)
    rintro σ' H2 ⟨rfl, rfl⟩
    -- a tie more
    refine ⟨fun σ' H' => σ' = [some (.ref d), some (.ref wa), some (.int n), some (.ref ta), some (.int at_), some (.int way), none, none] ∧ H' = H2, ?_, ?_⟩
    · refine ⟨.int way, rfl, way, 6, rfl, rfl, _, rfl, ?_⟩
      refine ite2 (fun _ => ?_) (fun _ => ⟨rfl, rfl⟩)
      refine ⟨.int n, rfl, .ref ta, rfl, .int at_, rfl, at_, rfl, ta, _, rfl, ot.2.2, fun r1 H3 s3 h3 => ?_⟩
      have D3 := D2.same s3
      refine ⟨.ref d, rfl, .int n, rfl, .ref ta, rfl, by show 2 ≤ sizeLine; decide, fun p4 n4 => ?_⟩
      have D4 := D3.new (o := .tup [.int n, .ref ta]) n4
      have o4 : Own d c _ p4 (.tup [.int n, .ref ta]) := Own.new D3 n4
      have K4 := Kp.new (d := d) (c := c) (o := .tup [.int n, .ref ta]) n4
      refine ⟨.int n, rfl, n, 1, rfl, rfl, by show 3 ≤ sizeLine; decide, fun p5 n5 => ?_⟩
      have D5 := D4.new (o := .tup [.int 0, .int (n - 1), .str "foe"]) n5
      have K5 := Kp.new (d := d) (c := c) (o := .tup [.int 0, .int (n - 1), .str "foe"]) n5
      refine ⟨d, c, p4, p5, n, _, ⟨0, n - 1, true⟩, rfl, D5, (o4.kp K5).2.2, upd_same, fun v H6 D6 K6 hv => ?_⟩
      have K36 := (K4.trans K5).trans K6
      refine ⟨by show 1 ≤ sizeLine; decide, fun p7 n7 => ?_⟩
      have D7 := D6.new (o := .tup [v]) n7
      have K7 := Kp.new (d := d) (c := c) (o := .tup [v]) n7
      have o1 := (Own.tup D3 h3).kp (K36.trans K7)
      refine ⟨r1, p7, _, _, rfl, rfl, o1.2.2, upd_same, ?_, fun r2 H8 s8 h8 => ?_⟩
      · have := len_cut vs none (some at_)
        show (cutV vs none (some at_)).length + 1 ≤ 100000
        omega
      have D8 := D7.same s8
      have K78 := K7.trans (Same.kp (d := d) (c := c) s8)
      have K28 := ((Same.kp s3).trans K36).trans K78
      refine ⟨.ref ta, rfl, .int at_, rfl, at_, rfl, ta, _, rfl, (ot.kp K28).2.2, fun r3 H9 s9 h9 => ?_⟩
      refine ⟨r2, r3, _, _, rfl, rfl, s9 _ _ h8, h9, ?_, fun r4 H10 s10 h10 => ⟨by show 2 ≤ sizeLine; decide, fun p11 n11 => ?_⟩⟩
      · have := len_cut vs none (some at_)
        have := len_cut vs (some at_) none
        rw [List.length_append]
        show _ + 1 + _ ≤ 100000
        omega
      have D10 := (D8.same s9).same s10
      have K11 := Kp.new (d := d) (c := c) (o := .tup [.int n, .ref r4]) n11
      have K8e := ((Same.kp (d := d) (c := c) s9).trans (Same.kp s10)).trans K11
      have K2e := K28.trans K8e
      refine q _ _ (D10.new n11) (K12.trans K2e) (st_webT (Own.new D10 n11) (iK _) ((Own.tup D10 h10).kp K11) ?_)
      exact fm_app (fm_app (fm_cut (fun x hx => (all2 x hx).kp K2e) _ _) (fm (hv.kp (K78.trans K8e)) fm_nil)) (fm_cut (fun x hx => (all2 x hx).kp K2e) _ _)
    rintro σ' H2 ⟨rfl, rfl⟩
    -- how many
    refine ⟨1, rfl, .int n, rfl, by show 1 ≤ sizeLine; decide, fun p1 n1 => ?_⟩
    have o1 : Own d c _ p1 (.tup [.int n]) := Own.new D2 n1
    have D3 := D2.new (o := .tup [.int n]) n1
    have K3 := Kp.new (d := d) (c := c) (o := .tup [.int n]) n1
    refine ⟨.int n, rfl, by show 1 ≤ sizeLine; decide, fun p2 n2 => ?_⟩
    have o2 : Own d c _ p2 (.lst [.int n]) := Own.new D3 n2
    have D4 := D3.new (o := .lst [.int n]) n2
    have K4 := Kp.new (d := d) (c := c) (o := .lst [.int n]) n2
    refine ⟨.int n, rfl, n, 1, rfl, rfl, .int n, rfl, n, 1, rfl, rfl, 10, 59, rfl, rfl, ⟨by decide, by decide, by decide⟩, .int n, rfl, n, rfl, fun p3 n3 => ?_⟩
    have o3 : Own d c _ p3 (.dK []) := Own.new D4 n3
    have D5 := D4.new (o := .dK []) n3
    have K5 := Kp.new (d := d) (c := c) (o := .dK []) n3
    refine ⟨.int n, rfl, by show 14 ≤ sizeLine; decide, fun L nL => ?_⟩
    have K6 := Kp.new (d := d) (c := c) (o := .lst [.int 0, .int (-1), .bl true, .bl false, .str "3", .non, .ref p1, .ref p2, .int (n - 1), .int (n + 1), .int (10 ^ 59), .int (-n), .ref p3, .int n]) nL
    have oL : Own d c _ L (.lst [.int 0, .int (-1), .bl true, .bl false, .str "3", .non, .ref p1, .ref p2, .int (n - 1), .int (n + 1), .int (10 ^ 59), .int (-n), .ref p3, .int n]) := Own.new D5 nL
    have D6 := D5.new (o := .lst [.int 0, .int (-1), .bl true, .bl false, .str "3", .non, .ref p1, .ref p2, .int (n - 1), .int (n + 1), .int (10 ^ 59), .int (-n), .ref p3, .int n]) nL
    have q1 := ((o1.kp K4).kp K5).kp K6
    have q2 := (o2.kp K5).kp K6
    have q3 := o3.kp K6
    have K26 := ((K3.trans K4).trans K5).trans K6
    refine ⟨fun σ' H' => σ' = [some (.ref d), some (.ref wa), some (.int n), some (.ref ta), some (.int at_), some (.int way), some (.ref L), none] ∧ Deck H' d c ∧ Kp d c H2 H', ?_, ?_⟩
    · refine ⟨.int way, rfl, rfl, _, rfl, ?_⟩
      refine ite2 (fun _ => ?_) (fun _ => ⟨rfl, D6, K26⟩)
      refine ⟨.ref L, rfl, .ref d, rfl, d, c, 14, rfl, D6, by decide, by decide, fun v H7 a7 b7 D7 K7 => ?_⟩
      obtain ⟨z, e1, hz⟩ := pickO (R := fun x => Stay d c Kn _ x) oL a7 b7 rfl (fm (sKn fun _ => trivial) (fm (sKn fun _ => trivial) (fm (sKn fun _ => trivial) (fm (sKn fun _ => trivial) (fm (sKn fun _ => trivial) (fm (sKn fun _ => trivial) (fm q1.kn (fm q2.knL (fm (sKn fun _ => trivial) (fm (sKn fun _ => trivial) (fm (sKn fun _ => trivial) (fm (sKn fun _ => trivial) (fm q3.knD (fm (sKn fun _ => trivial) fm_nil))))))))))))))
      refine ⟨L, _, v, z, rfl, rfl, SqL.of (oL.kp K7).2.2, e1, .ref ta, rfl, by show 2 ≤ sizeLine; decide, fun p8 n8 => ?_⟩
      have K8 := Kp.new (d := d) (c := c) (o := .tup [z, .ref ta]) n8
      have K28 := (K26.trans K7).trans K8
      exact q _ _ (D7.new n8) (K12.trans K28) (st_webT (Own.new D7 n8) ((hz.kp K7).kp K8) (ot.kp K28) (fun x hx => (all2 x hx).kp K28))
    clear o1 o2 o3 q1 q2 q3 oL K3 K4 K5 K6 K26 D3 D4 D5 D6 n1 n2 n3 nL
    rintro σ' H3 ⟨rfl, D3, K3⟩
    have ot3 := ot.kp K3
    have all3 := fun x hx => (all2 x hx).kp K3
    have K13 := K12.trans K3
    have hp3 := ties_tk (K3.tk D2) hp2
    clear ow all2 hp2 K12 K3 D2
    clear ot p1 p2 p3
    refine ⟨fun σ' H' => ∃ (B : Addr) (xs : List V), σ' = [some (.ref d), some (.ref wa), some (.int n), some (.ref ta), some (.int at_), some (.int way), some (.ref L), some (.ref B)] ∧ Deck H' d c ∧ Kp d c H3 H' ∧ Own d c H' B (.lst xs) ∧ xs.length = 9 ∧ ∀ x ∈ xs, Stay d c (WebK K) H' x, ?_, ?_⟩
    · refine ⟨.int n, rfl, .ref ta, rfl, by show 2 ≤ sizeLine; decide, fun p1 n1 => ?_⟩
      have o1 : Own d c _ p1 (.lst [.int n, .ref ta]) := Own.new D3 n1
      have D4 := D3.new (o := .lst [.int n, .ref ta]) n1
      have K4 := Kp.new (d := d) (c := c) (o := .lst [.int n, .ref ta]) n1
      refine ⟨.int n, rfl, by show 1 ≤ sizeLine; decide, fun p2 n2 => ?_⟩
      have o2 : Own d c _ p2 (.tup [.int n]) := Own.new D4 n2
      have D5 := D4.new (o := .tup [.int n]) n2
      have K5 := Kp.new (d := d) (c := c) (o := .tup [.int n]) n2
      refine ⟨.int n, rfl, .ref ta, rfl, Nat.zero_le _, fun p3 n3 => ?_⟩
      have o3 : Own d c _ p3 (.tup []) := Own.new D5 n3
      have D6 := D5.new (o := .tup []) n3
      have K6 := Kp.new (d := d) (c := c) (o := .tup []) n3
      refine ⟨by show 3 ≤ sizeLine; decide, fun p4 n4 => ?_⟩
      have o4 : Own d c _ p4 (.tup [.int n, .ref ta, .ref p3]) := Own.new D6 n4
      have D7 := D6.new (o := .tup [.int n, .ref ta, .ref p3]) n4
      have K7 := Kp.new (d := d) (c := c) (o := .tup [.int n, .ref ta, .ref p3]) n4
      refine ⟨.ref ta, rfl, .int n, rfl, by show 2 ≤ sizeLine; decide, fun p5 n5 => ?_⟩
      have o5 : Own d c _ p5 (.tup [.ref ta, .int n]) := Own.new D7 n5
      have D8 := D7.new (o := .tup [.ref ta, .int n]) n5
      have K8 := Kp.new (d := d) (c := c) (o := .tup [.ref ta, .int n]) n5
      have K38 := (((K4.trans K5).trans K6).trans K7).trans K8
      refine ⟨.int n, rfl, .ref ta, rfl, ta, vs, rfl, .inr (SqT.of (ot3.kp K38).2.2), fun p6 n6 => ?_⟩
      have o6 : Own d c _ p6 (.lst vs) := Own.new D8 n6
      have D9 := D8.new (o := .lst vs) n6
      have K9 := Kp.new (d := d) (c := c) (o := .lst vs) n6
      refine ⟨by show 2 ≤ sizeLine; decide, fun p7 n7 => ?_⟩
      have o7 : Own d c _ p7 (.tup [.int n, .ref p6]) := Own.new D9 n7
      have D10 := D9.new (o := .tup [.int n, .ref p6]) n7
      have K10 := Kp.new (d := d) (c := c) (o := .tup [.int n, .ref p6]) n7
      refine ⟨.int n, rfl, by show 2 ≤ sizeLine; decide, fun p8 n8 => ?_⟩
      have o8 : Own d c _ p8 (.tup [.int n, .non]) := Own.new D10 n8
      have D11 := D10.new (o := .tup [.int n, .non]) n8
      have K11 := Kp.new (d := d) (c := c) (o := .tup [.int n, .non]) n8
      refine ⟨.int n, rfl, .ref ta, rfl, Nat.zero_le _, fun p9 n9 => ?_⟩
      have o9 : Own d c _ p9 (.tup []) := Own.new D11 n9
      have D12 := D11.new (o := .tup []) n9
      have K12 := Kp.new (d := d) (c := c) (o := .tup []) n9
      refine ⟨by show 9 ≤ sizeLine; decide, fun B nB => ?_⟩
      have K13' := Kp.new (d := d) (c := c) (o := .lst [.ref p1, .ref p2, .ref p4, .ref p5, .ref p7, .ref p8, .int n, .ref ta, .ref p9]) nB
      have Kc := K12.trans K13'
      have Kb := K11.trans Kc
      have Ka := K10.trans Kb
      have Kq := K9.trans Ka
      have Kr := K8.trans Kq
      have Ks := K7.trans Kr
      have Kt := K6.trans Ks
      have Ku := K5.trans Kt
      have Kv := K4.trans Ku
      have otv := ot3.kp Kv
      refine ⟨B, _, rfl, D12.new nB, Kv, Own.new D12 nB, rfl, ?_⟩
      refine fm (st_webL (o1.kp Ku)) (fm (st_webN (o2.kp Kt) (fm (iK _) fm_nil) (by simp)) (fm (st_webN (o4.kp Kr) (fm (iK _) (fm otv.kn (fm (o3.kp Ks).kn fm_nil))) (by simp)) (fm (st_webS (o5.kp Kq) otv.kn (iK _) (fun _ _ => rfl)) (fm (st_webS (o7.kp Kb) (iK _) (o6.kp Ka).knL (fun _ k => isT_lst ((o6.kp Ka).kp k).2.2)) (fm (st_webS (o8.kp Kc) (iK _) (sKn fun _ => trivial) (fun _ _ => rfl)) (fm (sKn fun _ => webk_no trivial rfl) (fm ?_ (fm (st_webN (o9.kp K13') fm_nil (by simp)) fm_nil))))))))
      -- the ties alone
      intro H' k
      have oz := (otv.kp k)
      exact ties_web oz.2.2 (ties_tk ((Kv.trans k).tk D3) hp3)
    rintro σ' H4 ⟨B, xs, rfl, D4, K4, oB, lx, all4⟩
    have ot4 := ot3.kp K4
    refine ⟨.ref B, rfl, .int n, rfl, .ref ta, rfl, by show 1 ≤ sizeLine; decide, fun p1 n1 => ?_⟩
    have o1 : Own d c _ p1 (.tup [.ref ta]) := Own.new D4 n1
    have D5 := D4.new (o := .tup [.ref ta]) n1
    have K5 := Kp.new (d := d) (c := c) (o := .tup [.ref ta]) n1
    refine ⟨by show 2 ≤ sizeLine; decide, fun p2 n2 => ?_⟩
    have o2 : Own d c _ p2 (.tup [.int n, .ref p1]) := Own.new D5 n2
    have D6 := D5.new (o := .tup [.int n, .ref p1]) n2
    have K6 := Kp.new (d := d) (c := c) (o := .tup [.int n, .ref p1]) n2
    refine fun p3 n3 => ?_
    have o3 : Own d c _ p3 (.dK []) := Own.new D6 n3
    have D7 := D6.new (o := .dK []) n3
    have K7 := Kp.new (d := d) (c := c) (o := .dK []) n3
    refine ⟨.int n, rfl, by show 2 ≤ sizeLine; decide, fun p4 n4 => ?_⟩
    have o4 : Own d c _ p4 (.tup [.int n, .str "friend"]) := Own.new D7 n4
    have D8 := D7.new (o := .tup [.int n, .str "friend"]) n4
    have K8 := Kp.new (d := d) (c := c) (o := .tup [.int n, .str "friend"]) n4
    refine ⟨Nat.zero_le _, fun p5 n5 => ?_⟩
    have o5 : Own d c _ p5 (.lst []) := Own.new D8 n5
    have D9 := D8.new (o := .lst []) n5
    have K9 := Kp.new (d := d) (c := c) (o := .lst []) n5
    refine ⟨.int n, rfl, fun p6 n6 => ?_⟩
    have o6 : Own d c _ p6 (.dK []) := Own.new D9 n6
    have D10 := D9.new (o := .dK []) n6
    have K10 := Kp.new (d := d) (c := c) (o := .dK []) n6
    refine ⟨by show 2 ≤ sizeLine; decide, fun p7 n7 => ?_⟩
    have o7 : Own d c _ p7 (.tup [.int n, .ref p6]) := Own.new D10 n7
    have D11 := D10.new (o := .tup [.int n, .ref p6]) n7
    have K11 := Kp.new (d := d) (c := c) (o := .tup [.int n, .ref p6]) n7
    refine ⟨Nat.zero_le _, fun p8 n8 => ?_⟩
    have o8 : Own d c _ p8 (.tup []) := Own.new D11 n8
    have D12 := D11.new (o := .tup []) n8
    have K12 := Kp.new (d := d) (c := c) (o := .tup []) n8
    refine ⟨Nat.zero_le _, fun p9 n9 => ?_⟩
    have o9 : Own d c _ p9 (.tup []) := Own.new D12 n9
    have D13 := D12.new (o := .tup []) n9
    have K13' := Kp.new (d := d) (c := c) (o := .tup []) n9
    refine ⟨by show 2 ≤ sizeLine; decide, fun p10 n10 => ?_⟩
    have o10 : Own d c _ p10 (.tup [.ref p8, .ref p9]) := Own.new D13 n10
    have D14 := D13.new (o := .tup [.ref p8, .ref p9]) n10
    have K14 := Kp.new (d := d) (c := c) (o := .tup [.ref p8, .ref p9]) n10
    refine ⟨by show 8 ≤ sizeLine; decide, fun C nC => ?_⟩
    have oC : Own d c _ C (.lst [.ref p2, .non, .str "web 1", .ref p3, .ref p4, .ref p5, .ref p7, .ref p10]) := Own.new D14 nC
    have D15 := D14.new (o := .lst [.ref p2, .non, .str "web 1", .ref p3, .ref p4, .ref p5, .ref p7, .ref p10]) nC
    have K15 := Kp.new (d := d) (c := c) (o := .lst [.ref p2, .non, .str "web 1", .ref p3, .ref p4, .ref p5, .ref p7, .ref p10]) nC
    have Ka := K14.trans K15
    have Kb := K13'.trans Ka
    have Kc := K12.trans Kb
    have Kd := K11.trans Kc
    have Ke := K10.trans Kd
    have Kf := K9.trans Ke
    have Kg := K8.trans Kf
    have Kh := K7.trans Kg
    have Ki := K6.trans Kh
    have Kj := K5.trans Ki
    refine ⟨B, C, _, _, rfl, rfl, (oB.kp Kj).2.2, oC.2.2, by rw [lx]; show 17 ≤ sizeLine; decide, fun G nG => ?_⟩
    have K16 := Kp.new (d := d) (c := c) (o := .lst (xs ++ [.ref p2, .non, .str "web 1", .ref p3, .ref p4, .ref p5, .ref p7, .ref p10])) nG
    have all5 : ∀ x ∈ xs ++ [V.ref p2, .non, .str "web 1", .ref p3, .ref p4, .ref p5, .ref p7, .ref p10], Stay d c (WebK K) _ x := fm_app (fun x hx => (all4 x hx).kp Kj)
      (fm (st_webT (o2.kp Kh) (iK _) (o1.kp Ki) (fm ?_ fm_nil)) (fm (sKn fun _ => webk_no trivial rfl) (fm (sKn fun _ => webk_no trivial rfl) (fm (st_webD (o3.kp Kg)) (fm (st_webS (o4.kp Kf) (iK _) (sKn fun _ => trivial) (fun _ _ => rfl)) (fm (st_webL (o5.kp Ke)) (fm (st_webS (o7.kp Kc) (iK _) (o6.kp Kd).knD (fun _ k => isT_dct ((o6.kp Kd).kp k).2.2)) (fm (st_webT (o10.kp K15) (o8.kp Kb).kn (o9.kp Ka) fm_nil) fm_nil))))))))
    · refine ⟨.ref G, rfl, .ref d, rfl, d, c, 17, rfl, D15.new nG, by decide, by decide, fun v H17 a17 b17 D17 K17 => ?_⟩
      have K1517 := K16.trans K17
      have oG := (Own.new D15 nG).kp K17
      have lg : ((xs ++ [V.ref p2, .non, .str "web 1", .ref p3, .ref p4, .ref p5, .ref p7, .ref p10]).length : Int) = 17 := by rw [List.length_append, lx]; rfl
      obtain ⟨z, e1, hz⟩ := pickV (R := fun x => Stay d c (WebK K) H17 x) a17 (by rw [lg]; exact b17) (fun x hx => (all5 x hx).kp K1517)
      exact ⟨G, _, v, z, rfl, rfl, SqL.of oG.2.2, e1, q z H17 D17 (((K13.trans K4).trans Kj).trans K1517) hz⟩
    · exact fun H' k => ties_tie ((ot4.kp Kj).kp k).2.2 (ties_tk (((K4.trans Kj).trans k).tk D3) hp3)
end
/-! ### k01: the law -/
section
open PySem.SeqAt PySem.MeetsSeq
open PySem.AutoSeq1 (wpAny_loadPart')
theorem tuple_mul0 (l : Addr) (n : Nat) (dd : Option Addr) (sl : Array (Option Value)) (x : Int) (u : Tok) (c0 : (decide (x < -(2 ^ 63)) || decide (x ≥ 2 ^ 63)) = false) :
    Meets (Builtin.«tuple.__mul__» ⟨[.ref l, .int x u], []⟩) (fun _ R s => s.heap.get? l = some { cls := .type "tuple", dict := dd, data := .seq #[] n, slots := sl } ∧ R (.ok (.ret (Value.ref l))) s) :=
  .of_wp fun prog w A R s h => by
    obtain ⟨hp, g, d, tk, os⟩ := s
    obtain ⟨hl, h⟩ := h
    have f1 := AutoSeq1.idx_int
    have c1 : ((#[] : Array Value).isEmpty || x == 1) = true := rfl
    wp_walk using wpAny_loadPart' hl
    repeat (first
      | (refine wpAny_ite_false (decide_eq_false (by rw [c0]; exact Bool.false_ne_true)) ?_; wp_walk using wpAny_loadPart' hl)
      | (refine wpAny_ite_true (decide_eq_true c1) ?_; wp_walk using wpAny_loadPart' hl))
    exact ⟨_, rfl, h⟩
end
def rRepE : R2 := fun x y H Q => ∃ l k xs, x = .ref l ∧ y = .int k ∧ H l = some (.tup xs) ∧ 2 ≤ k ∧ k ≤ 1000 ∧ xs.length ≤ 1000 ∧ ∀ r H', Same H H' → H' r = some (.tup (List.replicate k.toNat xs).flatten) → Q (.ref r) H'
theorem op_repE {X : Cx} : OpR X (binaryOp .Mult) rRepE := by
  intro pins s σ H x y v u Q I rx ry h
  obtain ⟨l, k, xs, rfl, rfl, hT, h1, h2, hz, q⟩ := h
  by_cases hx : xs = []
  · subst hx
    cases rx
    obtain ⟨t, rfl⟩ := ry
    obtain ⟨its, r, ⟨⟨cls, dd, data, sl⟩, ho, hc, n, hd⟩, hs⟩ := I.tuple (SqT.of (K := X.K) hT)
    simp only at hc hd
    subst hc hd
    have he : its = [] := List.eq_nil_of_length_eq_zero r.length.symm
    subst he
    have c0 : (decide (k < -(2 ^ 63)) || decide (k ≥ 2 ^ 63)) = false := by
      rw [decide_eq_false (by omega), decide_eq_false (by omega)] <;> rfl
    refine wpAny_binaryOp_repeat_ref (T := "tuple") (U := "int") (by decide) ⟨_, ho, rfl⟩ (fun s' => typeIs_int s' k t) noFill_tuple_mul F.fills_int_mul F.slot_int_rmul repeat_tuple F.slot_int_index.lookup
      (call_meets F.slot_int_rmul (typeIs_int s k t) F.entry_int_rmul (F.args_int_rmul_2 _ _) (int_rmul_tuple k t l #[] n dd sl)
        ⟨ho, rfl, ⟨_, ho, rfl⟩, call_meets F.slot_tuple_mul ⟨_, ho, rfl⟩ F.entry_tuple_mul (F.args_tuple_mul_2 _ _) (tuple_mul0 l n dd sl k t c0) ⟨ho, ?_⟩⟩)
    exact ⟨.ref l, H, I, rfl, q l H (Same.refl H) (by rw [hT]; congr 2; induction k.toNat with
      | zero => rfl
      | succ m ih => simpa using ih)⟩
  · exact op_repT pins s σ H _ _ v u Q I rx ry ⟨l, k, xs, rfl, rfl, SqT.of hT, hx, h1, h2, hz, fun p np => q p _ (same_new np) upd_same⟩
theorem Tabs.kp {Ps : List Addr} {d c : Addr} {H H' : Hp} (t : Tabs Ps H) (k : Kp d c H H') (D : Deck H d c) : Tabs Ps H' := fun P hP => by
  obtain ⟨ps, e, x⟩ := t P hP
  obtain ⟨cells, st, n, e1, e2, _⟩ := D
  exact ⟨ps, k _ _ (ne_of e e1 (by intro z; cases z)) (ne_of e e2 (by intro z; cases z)) e, x⟩
theorem Tabs.same {Ps : List Addr} {H H' : Hp} (t : Tabs Ps H) (s : Same H H') : Tabs Ps H' := (Kt.same t s).tab
theorem pair_of {H : Hp} {n : Int} : ∀ vs : List V, (∀ x ∈ vs, ∃ t, TieV H x t ∧ TieOk n t) → ∃ ts, Paired (TieV H) vs ts ∧ ∀ t ∈ ts, TieOk n t
  | [], _ => ⟨[], .nil, fun t h => by cases h⟩
  | v :: vs, h => by
    obtain ⟨ts, p, o⟩ := pair_of vs (fun x hx => h x (List.mem_cons_of_mem _ hx))
    obtain ⟨t, tv, to⟩ := h v List.mem_cons_self
    exact ⟨t :: ts, .cons tv p, fun u hu => by
      rcases List.mem_cons.mp hu with e | e
      · rw [e]; exact to
      · exact o u e⟩
theorem tie_true {H : Hp} {n : Int} {v : V} {t : Tie} (h : TieV H v t) (o : TieOk n t) : tieB H n v = true := by
  obtain ⟨a, rfl, e⟩ := h
  unfold tieB
  rw [parts_of' e]
  show (unlB n (.int t.one) (.int t.other) && inK kindsL (.str (kindS t.foe))) = true
  have k : inK kindsL (.str (kindS t.foe)) = true := by cases t.foe <;> decide +kernel
  rw [k]
  unfold unlB
  show ((decide (0 ≤ t.one) && decide (t.one < n)) && ((decide (0 ≤ t.other) && decide (t.other < n)) && !decide (V.int t.one = V.int t.other)) && true) = true
  rw [dec_int, decide_eq_true o.1, decide_eq_true o.2.1, decide_eq_true o.2.2.1, decide_eq_true o.2.2.2.1, decide_eq_false o.2.2.2.2]
  rfl
theorem web_true {H : Hp} {n : Int} {v : V} {ts : List Tie} (h : WebAt H v n ts) (n1 : 1 ≤ n) (o : ∀ t ∈ ts, TieOk n t) : webB H v = true := by
  obtain ⟨a, b, vs, rfl, ha, hb, hp⟩ := h
  unfold webB
  rw [parts_of' ha]
  show (decide (1 ≤ n) && (match parts H (.ref b) with
    | some ts => ts.all (tieB H n)
    | none => false)) = true
  rw [parts_of' hb, decide_eq_true n1]
  show vs.all (tieB H n) = true
  rw [List.all_eq_true]
  intro x hx
  obtain ⟨i, hi⟩ := List.getElem?_of_mem hx
  obtain ⟨t, e, tv⟩ := Paired.at hp hi
  exact tie_true tv (o t (List.mem_of_getElem? e))
theorem web_known {K : PySem.W.Frag} {H : Hp} {n : Int} {v : V} {ts : List Tie} (h : WebAt H v n ts) : WebK K H v := by
  obtain ⟨a, b, vs, rfl, ha, hb, hp⟩ := h
  refine webk_pair ha trivial (.inr (.inl ⟨_, hb⟩)) (fun us e x hx => ?_)
  rw [parts_of' hb] at e
  cases e
  obtain ⟨i, hi⟩ := List.getElem?_of_mem hx
  obtain ⟨t, _, p, rfl, e⟩ := Paired.at hp hi
  exact tiek_tup e (fm trivial (fm trivial (fm trivial fm_nil))) (fun a b c z => by cases z; exact kd_str (shaped_kind _))
def spLaw (K : PySem.W.Frag) (Ps : List Addr) : Sp := fun vs H Q _ => ∃ (a : Addr) (ns : List Int), vs = [.ref a] ∧ SqL K H a (ns.map V.int) ∧ ns.length ≤ 63 ∧ Tabs Ps H ∧ ∀ H', Q (.bl true) H'
section
variable {P : Program} {w : World} {K : PySem.W.Frag} {mg : Str → Option Value} {base : Heap}
theorem ok_law {f : Addr} {fd : FuncData} {Ps : List Addr} (F : Fun K "law" "law" s_law f fd) (M : Free mg) (D_l_deck : Df P w K mg base 1 "_law_deck" ["_law_script"] (spDeck K)) (D_l_web : Df P w K mg base 2 "_law_web" ["_law_deck_here"] spWeb) (D_l_draw : Df P w K mg base 1 "_law_draw" ["_law_deck_here", "_law_many"] spDraw)
    (D_is_web : Df P w K mg base 6 "is_web" ["thing"] (spIsWeb K Ps)) (D_l_right : Df P w K mg base 7 "_law_right" ["_law_thing"] (spRight K Ps)) (D_l_otherwise : Df P w K mg base 3 "_law_otherwise" ["_law_deck_here", "_law_web_here"] (spOther K)) : FnOk P w K mg base CX0 8 f fd ["_law_script"] (spLaw K Ps) := by
  obtain ⟨f_l_deck, fd_l_deck, G_l_deck, g_l_deck, k_l_deck, b_l_deck⟩ := D_l_deck
  obtain ⟨f_l_web, fd_l_web, G_l_web, g_l_web, k_l_web, b_l_web⟩ := D_l_web
  obtain ⟨f_l_draw, fd_l_draw, G_l_draw, g_l_draw, k_l_draw, b_l_draw⟩ := D_l_draw
  obtain ⟨f_is_web, fd_is_web, G_is_web, g_is_web, k_is_web, b_is_web⟩ := D_is_web
  obtain ⟨f_l_right, fd_l_right, G_l_right, g_l_right, k_l_right, b_l_right⟩ := D_l_right
  obtain ⟨f_l_otherwise, fd_l_otherwise, G_l_otherwise, g_l_otherwise, k_l_otherwise, b_l_otherwise⟩ := D_l_otherwise
  refine F.ok sc_law (fun vs H Q E h => ?_) (fun cdv A outer s H vs Q E hr h => ?_)
  · obtain ⟨a, ns, rfl, _⟩ := h
    rfl
  · obtain ⟨sc, ns, rfl, hS, hlen, hT, q⟩ := h
    refine ⟨_, (pss_cons (ps_set (i := 1) sc_law.nd rfl (.inl rfl) (pe_call G_l_deck (hr.mono (by decide)) (by rfl) g_l_deck k_l_deck b_l_deck .nil pass0 (pa_cons (pv 0) pa_nil)))
      (pss_cons (ps_set (i := 2) sc_law.nd rfl (.inl rfl) (pe_call G_l_web (hr.mono (by decide)) (by rfl) g_l_web k_l_web b_l_web .nil pass0 (pa_cons (pv 1) pa_nil)))
      (Evl.pss_cut (ps_if (pt_cmpR op_eq (pe_call G_l_draw (hr.mono (by decide)) (by rfl) g_l_draw k_l_draw b_l_draw .nil pass0 (pa_cons (pv 1) (pa_cons pe_int pa_nil))) pe_int (nomark _))
        (pss_one (ps_set (i := 2) sc_law.nd rfl (.inl rfl) (pe_tup (pa_cons (pe_ix ix_tup (pv 2) pe_int (fun _ _ => rfl)) (pa_cons (pe_slice sl_tupU (pe_op op_repE (pe_ix ix_tup (pv 2) pe_int (fun _ _ => rfl)) pe_int) po_none (po_some (pe_op op_add pe_int (pe_call G_l_draw (hr.mono (by decide)) (by rfl) g_l_draw k_l_draw b_l_draw .nil pass0 (pa_cons (pv 1) (pa_cons pe_int pa_nil)))))) pa_nil)))))
        pss_nil)
      (pss_cons (ps_if (pt_cmpR op_isnot_bl (pe_call G_is_web (hr.mono (by decide)) (by rfl) g_is_web k_is_web b_is_web .nil pass0 (pa_cons (pv 2) pa_nil)) pe_bl (nomark _))
        (pss_one (ps_ret pe_bl))
        pss_nil)
      (pss_cons (ps_for PassesOwn.never rfl (pi_range1 (by rfl) M.range (pa_cons pe_int pa_nil)) (pg_name (i := 3) sc_law.nd rfl (.inl rfl))
        (pss_one (ps_if (pt_not (pt_val (pe_call G_l_right (hr.mono (by decide)) (by rfl) g_l_right k_l_right b_l_right .nil pass0 (pa_cons (pe_call G_l_otherwise (hr.mono (by decide)) (by rfl) g_l_otherwise k_l_otherwise b_l_otherwise .nil pass0 (pa_cons (pv 1) (pa_cons (pv 2) pa_nil))) pa_nil))))
          (pss_one (ps_ret pe_bl))
          pss_nil)))
      (pss_cons (ps_set (i := 4) sc_law.nd rfl (.inl rfl) (pv 2))
      (pss_cons (ps_for PassesOwn.never rfl (pi_range1 (by rfl) M.range (pa_cons pe_int pa_nil)) (pg_name (i := 3) sc_law.nd rfl (.inl rfl))
        (pss_one (ps_set (i := 4) sc_law.nd rfl (.inl rfl) (pe_ix ix_list (pe_lst (pa_cons (pe_tup (pa_cons (pv 4) pa_nil)) (pa_cons (pe_lst (pa_cons (pv 4) pa_nil)) (pa_cons (pe_tup (pa_cons pe_int (pa_cons (pv 4) pa_nil))) (pa_cons (pe_tup (pa_cons (pv 4) (pa_cons (pe_tup pa_nil) pa_nil))) pa_nil))))) (pe_call G_l_draw (hr.mono (by decide)) (by rfl) g_l_draw k_l_draw b_l_draw .nil pass0 (pa_cons (pv 1) (pa_cons pe_int pa_nil))) (fun _ _ => rfl)))))
      (Evl.pss_cut (ps_set (i := 5) sc_law.nd rfl (.inl rfl) (pe_op op_sub (pe_op op_sub (pe_op op_pow pe_int pe_int) pe_int) (pe_call G_l_draw (hr.mono (by decide)) (by rfl) g_l_draw k_l_draw b_l_draw .nil pass0 (pa_cons (pv 1) (pa_cons pe_int pa_nil)))))
      (pss_cons (ps_set (i := 6) sc_law.nd rfl (.inl rfl) (pe_lst (pa_cons (pe_tup (pa_cons (pv 5) (pa_cons (pe_tup (pa_cons (pe_tup (pa_cons pe_int (pa_cons (pe_op op_sub (pv 5) pe_int) (pa_cons pe_str pa_nil)))) (pa_cons (pe_tup (pa_cons (pe_op op_sub (pv 5) pe_int) (pa_cons pe_int (pa_cons pe_str pa_nil)))) pa_nil))) pa_nil))) (pa_cons (pe_tup (pa_cons (pv 5) (pa_cons (pe_tup (pa_cons (pe_tup (pa_cons pe_int (pa_cons (pv 5) (pa_cons pe_str pa_nil)))) pa_nil)) pa_nil))) pa_nil))))
      (pss_cons (ps_for PassesOwn.never rfl (pi_list (pe_op op_cat (pv 6) (pe_lst (pa_cons (pv 4) (pa_cons pe_non (pa_cons pe_bl (pa_cons pe_str pa_nil))))))) (pg_name (i := 7) sc_law.nd rfl (.inl rfl))
        (pss_one (ps_if (pt_not (pt_val (pe_call G_l_right (hr.mono (by decide)) (by rfl) g_l_right k_l_right b_l_right .nil pass0 (pa_cons (pv 7) pa_nil))))
          (pss_one (ps_ret pe_bl))
          pss_nil)))
      (pss_one (ps_ret (pe_and (pe_cmpR op_isBl (pe_call G_is_web (hr.mono (by decide)) (by rfl) g_is_web k_is_web b_is_web .nil pass0 (pa_cons (pv 2) pa_nil)) pe_bl (nomark _)) (pe_one (pe_cmpR op_isBl (pe_call G_is_web (hr.mono (by decide)) (by rfl) g_is_web k_is_web b_is_web .nil pass0 (pa_cons (pe_tup (pa_cons pe_int (pa_cons (pe_tup pa_nil) pa_nil))) pa_nil)) pe_bl (nomark _)))))))))))))))), ?_⟩
    refine ⟨.ref sc, rfl, sc, ns, rfl, hS, hlen, fun d c H1 s1 nd nc D1 => ?_⟩
    have T1 := hT.same s1
    refine ⟨.ref d, rfl, d, c, rfl, D1, fun wv n ts H2 hW ok D2 K2 => ?_⟩
    have T2 := T1.kp K2 D1
    have n1 := ok.lo
    have n40 := ok.hi
    clear hS hT s1 nd nc T1 D1 K2
    refine ⟨fun σ' H' => ∃ (wv : V) (ts : List Tie), σ' = [some (.ref sc), some (.ref d), some wv, none, none, none, none, none] ∧ WebAt H' wv n ts ∧ ts.length ≤ 300 ∧ (∀ t ∈ ts, TieOk n t) ∧ Deck H' d c ∧ Tabs Ps H', ?_, ?_⟩
    · have few := ok.few
      refine ⟨.ref d, rfl, d, c, 8, rfl, D2, by decide, by decide, fun v H3 a3 b3 D3 K3 => ⟨rfl, _, rfl, ?_⟩⟩
      have T3 := T2.kp K3 D2
      have hW3 := hW.tk (K3.tk D2)
      refine ite2 (fun _ => ?_) (fun _ => ⟨wv, ts, rfl, hW3, by omega, ok.ok, D3, T3⟩)
      obtain ⟨a, b, vs, rfl, ha, hb, hp⟩ := hW3
      have lv : vs.length = ts.length := Paired.length hp
      refine ⟨.ref a, rfl, a, _, 0, .int n, rfl, rfl, SqT.of ha, rfl, .ref a, rfl, a, _, 1, .ref b, rfl, rfl, SqT.of ha, rfl, b, 300, vs, rfl, rfl, hb, by decide, by decide, by omega, fun r H4 s4 h4 => ?_⟩
      have D4 := D3.same s4
      have T4 := T3.same s4
      refine ⟨.ref d, rfl, d, c, 180, rfl, D4, by decide, by decide, fun u H5 a5 b5 D5 K5 => ⟨121, u, rfl, rfl, _, rfl, r, _, rfl, (K5.tk D4) _ _ h4, fun r2 H6 s6 h6 => ⟨by show 2 ≤ sizeLine; decide, fun p np => ?_⟩⟩⟩
      have s7 := same_new (o := .tup [.int n, .ref r2]) np
      have tk : Tk H3 _ := ((Same.tk s4).trans (K5.tk D4)).trans ((Same.tk s6).trans (Same.tk s7))
      have mem : ∀ x ∈ cutV (List.replicate (300 : Int).toNat vs).flatten none (some (121 + u)), ∃ t, TieV _ x t ∧ TieOk n t := fm_cut (fun x hx => by
        obtain ⟨l, hl, hxl⟩ := List.mem_flatten.mp hx
        rw [(List.mem_replicate.mp hl).2] at hxl
        obtain ⟨i, hi⟩ := List.getElem?_of_mem hxl
        obtain ⟨t, e, tv⟩ := Paired.at hp hi
        exact ⟨t, tv.tk tk, ok.ok t (List.mem_of_getElem? e)⟩) _ _
      obtain ⟨ts', hp', ok'⟩ := pair_of _ mem
      refine ⟨.ref p, ts', rfl, ⟨p, r2, _, rfl, upd_same, s7 _ _ h6, hp'⟩, ?_, ok', (D5.same s6).new np, ((T4.kp K5 D4).same s6).same s7⟩
      rw [← Paired.length hp']
      unfold cutV
      rw [List.length_take]
      have : HT.sIx (List.replicate (300 : Int).toNat vs).flatten.length (List.replicate (300 : Int).toNat vs).flatten.length (some (121 + u)) ≤ 300 := by
        unfold HT.sIx
        show (if 121 + u < 0 then _ else _) ≤ 300
        rw [if_neg (by omega)]
        omega
      omega
    clear hW ok D2 T2
    rintro σ' H2 ⟨wv, ts, rfl, hW, few, ok, D2, T2⟩
    refine ⟨wv, rfl, wv, rfl, web_known hW, T2, fun H3 k3 => ?_⟩
    rw [web_true hW n1 ok]
    refine ⟨true, true, rfl, rfl, _, rfl, ?_⟩
    rw [decide_eq_true rfl]
    refine ⟨12, rfl, by decide, by decide, ?_⟩
    refine for_range (lo := 0) (n := 12) (fun i σ' H' => ∃ y3 : Option V, σ' = [some (.ref sc), some (.ref d), some wv, y3, none, none, none, none] ∧ WebAt H' wv n ts ∧ Deck H' d c ∧ Tabs Ps H') ⟨none, rfl, hW.tk (k3.tk T2), k3.deck T2 D2, k3.tab⟩ ?_ ?_
    · rintro i σ' H4 hi ⟨y3, rfl, hW4, D4, T4⟩
      refine ⟨.ref d, rfl, wv, rfl, d, c, wv, n, ts, rfl, D4, hW4, few, fun v H5 D5 K5 hv => ?_⟩
      have T5 := T4.kp K5 D4
      refine ⟨v, rfl, hv.now, T5, fun H6 k6 => ⟨_, rfl, ?_⟩⟩
      exact ⟨_, rfl, (hW4.tk (K5.tk D4)).tk (k6.tk T5), k6.deck T5 D5, k6.tab⟩
    clear hW D2 T2 k3
    rintro σ' H3 ⟨y3, rfl, hW, D3, T3⟩
    refine ⟨wv, rfl, ?_⟩
    refine ⟨12, rfl, by decide, by decide, ?_⟩
    refine for_range (lo := 0) (n := 12) (fun i σ' H' => ∃ (y3 : Option V) (deep : V), σ' = [some (.ref sc), some (.ref d), some wv, y3, some deep, none, none, none] ∧ WebAt H' wv n ts ∧ Deck H' d c ∧ Tabs Ps H' ∧ Stay d c (fun H v => Wrap H i v) H' deep) ⟨_, wv, rfl, hW, D3, T3, ?_⟩ ?_ ?_
    · obtain ⟨a, b, vs, rfl, ha, hb, hp⟩ := hW
      exact fun H' k => .zero ((Own.tup D3 ha).kn H' k)
    · rintro i σ' H4 hi ⟨y3, deep, rfl, hW4, D4, T4, hw⟩
      refine ⟨deep, rfl, by show 1 ≤ sizeLine; decide, fun p1 m1 => ?_⟩
      have o1 : Own d c _ p1 (.tup [deep]) := Own.new D4 m1
      have D5 := D4.new (o := .tup [deep]) m1
      have K5 := Kp.new (d := d) (c := c) (o := .tup [deep]) m1
      refine ⟨deep, rfl, by show 1 ≤ sizeLine; decide, fun p2 m2 => ?_⟩
      have o2 : Own d c _ p2 (.lst [deep]) := Own.new D5 m2
      have D6 := D5.new (o := .lst [deep]) m2
      have K6 := Kp.new (d := d) (c := c) (o := .lst [deep]) m2
      refine ⟨deep, rfl, by show 2 ≤ sizeLine; decide, fun p3 m3 => ?_⟩
      have o3 : Own d c _ p3 (.tup [.int 1, deep]) := Own.new D6 m3
      have D7 := D6.new (o := .tup [.int 1, deep]) m3
      have K7 := Kp.new (d := d) (c := c) (o := .tup [.int 1, deep]) m3
      refine ⟨deep, rfl, Nat.zero_le _, fun p4 m4 => ?_⟩
      have o4 : Own d c _ p4 (.tup []) := Own.new D7 m4
      have D8 := D7.new (o := .tup []) m4
      have K8 := Kp.new (d := d) (c := c) (o := .tup []) m4
      refine ⟨by show 2 ≤ sizeLine; decide, fun p5 m5 => ?_⟩
      have o5 : Own d c _ p5 (.tup [deep, .ref p4]) := Own.new D8 m5
      have D9 := D8.new (o := .tup [deep, .ref p4]) m5
      have K9 := Kp.new (d := d) (c := c) (o := .tup [deep, .ref p4]) m5
      refine ⟨by show 4 ≤ sizeLine; decide, fun L nL => ?_⟩
      have oL : Own d c _ L (.lst [.ref p1, .ref p2, .ref p3, .ref p5]) := Own.new D9 nL
      have D10 := D9.new (o := .lst [.ref p1, .ref p2, .ref p3, .ref p5]) nL
      have K10 := Kp.new (d := d) (c := c) (o := .lst [.ref p1, .ref p2, .ref p3, .ref p5]) nL
      refine ⟨.ref d, rfl, d, c, 4, rfl, D10, by decide, by decide, fun v H11 a11 b11 D11 K11 => ?_⟩
      have Ka := K10.trans K11
      have Kb := K9.trans Ka
      have Kc := K8.trans Kb
      have Kd := K7.trans Kc
      have Ke := K6.trans Kd
      have Kf := K5.trans Ke
      have hw' := hw.kp Kf
      obtain ⟨z, e1, hz⟩ := pickO (R := fun x => Stay d c (fun H v => Wrap H (i + 1) v) H11 x) (oL.kp K11) a11 b11 rfl (fm (fun H' k => .one ((o1.kp Ke).kp k).2.2 (hw' H' k)) (fm (fun H' k => .lst ((o2.kp Kd).kp k).2.2 (hw' H' k)) (fm (fun H' k => .two ((o3.kp Kc).kp k).2.2 (hw' H' k)) (fm (fun H' k => .end' ((o5.kp Ka).kp k).2.2 ((o4.kp Kb).kp k).2.2 (hw' H' k)) fm_nil))))
      exact ⟨L, _, v, z, rfl, rfl, SqL.of (oL.kp K11).2.2, e1, _, z, rfl, hW4.tk (Kf.tk D4), D11, T4.kp Kf D4, hz⟩
    clear hW D3 T3
    rintro σ' H3 ⟨y3', deep, rfl, hW, D3, T3, hw⟩
    refine ⟨fun σ' H' => ∃ far : Int, σ' = [some (.ref sc), some (.ref d), some wv, y3', some deep, some (.int far), none, none] ∧ WebAt H' wv n ts ∧ Deck H' d c ∧ Tabs Ps H' ∧ Stay d c (fun H v => Wrap H 12 v) H' deep, ?_, ?_⟩
    · exact ⟨10, 59, rfl, rfl, ⟨by decide, by decide, by decide⟩, _, 1, rfl, rfl, .ref d, rfl, d, c, 1000, rfl, D3, by decide, by decide, fun u H4 a4 b4 D4 K4 => ⟨_, u, rfl, rfl, _, rfl, hW.tk (K4.tk D3), D4, T3.kp K4 D3, hw.kp K4⟩⟩
    clear hW D3 T3 hw
    rintro σ' H4 ⟨far, rfl, hW4, D4, T4, hw4⟩
    have sKn : ∀ {R : Hp → V → Prop} {H' : Hp} {v : V}, (∀ H'', R H'' v) → Stay d c R H' v := fun h H'' _ => h H''
    have iK : ∀ {H' : Hp} (i : Int), Stay d c Kn H' (.int i) := fun i => sKn fun _ => trivial
    have kS : ∀ {H' : Hp} (x : Str), Stay d c Kn H' (.str x) := fun x => sKn fun _ => trivial
    refine ⟨.int far, rfl, .int far, rfl, far, 1, rfl, rfl, by show 3 ≤ sizeLine; decide, fun p1 m1 => ?_⟩
    have o1 : Own d c _ p1 (.tup [.int 0, .int (far - 1), .str "foe"]) := Own.new D4 m1
    have D5 := D4.new (o := .tup [.int 0, .int (far - 1), .str "foe"]) m1
    have K5 := Kp.new (d := d) (c := c) (o := .tup [.int 0, .int (far - 1), .str "foe"]) m1
    refine ⟨.int far, rfl, far, 1, rfl, rfl, by show 3 ≤ sizeLine; decide, fun p2 m2 => ?_⟩
    have o2 : Own d c _ p2 (.tup [.int (far - 1), .int 1, .str "friend"]) := Own.new D5 m2
    have D6 := D5.new (o := .tup [.int (far - 1), .int 1, .str "friend"]) m2
    have K6 := Kp.new (d := d) (c := c) (o := .tup [.int (far - 1), .int 1, .str "friend"]) m2
    refine ⟨by show 2 ≤ sizeLine; decide, fun p3 m3 => ?_⟩
    have o3 : Own d c _ p3 (.tup [.ref p1, .ref p2]) := Own.new D6 m3
    have D7 := D6.new (o := .tup [.ref p1, .ref p2]) m3
    have K7 := Kp.new (d := d) (c := c) (o := .tup [.ref p1, .ref p2]) m3
    refine ⟨by show 2 ≤ sizeLine; decide, fun p4 m4 => ?_⟩
    have o4 : Own d c _ p4 (.tup [.int far, .ref p3]) := Own.new D7 m4
    have D8 := D7.new (o := .tup [.int far, .ref p3]) m4
    have K8 := Kp.new (d := d) (c := c) (o := .tup [.int far, .ref p3]) m4
    refine ⟨.int far, rfl, .int far, rfl, by show 3 ≤ sizeLine; decide, fun p5 m5 => ?_⟩
    have o5 : Own d c _ p5 (.tup [.int 0, .int far, .str "foe"]) := Own.new D8 m5
    have D9 := D8.new (o := .tup [.int 0, .int far, .str "foe"]) m5
    have K9 := Kp.new (d := d) (c := c) (o := .tup [.int 0, .int far, .str "foe"]) m5
    refine ⟨by show 1 ≤ sizeLine; decide, fun p6 m6 => ?_⟩
    have o6 : Own d c _ p6 (.tup [.ref p5]) := Own.new D9 m6
    have D10 := D9.new (o := .tup [.ref p5]) m6
    have K10 := Kp.new (d := d) (c := c) (o := .tup [.ref p5]) m6
    refine ⟨by show 2 ≤ sizeLine; decide, fun p7 m7 => ?_⟩
    have o7 : Own d c _ p7 (.tup [.int far, .ref p6]) := Own.new D10 m7
    have D11 := D10.new (o := .tup [.int far, .ref p6]) m7
    have K11 := Kp.new (d := d) (c := c) (o := .tup [.int far, .ref p6]) m7
    refine ⟨by show 2 ≤ sizeLine; decide, fun L nL => ?_⟩
    have oL : Own d c _ L (.lst [.ref p4, .ref p7]) := Own.new D11 nL
    have D12 := D11.new (o := .lst [.ref p4, .ref p7]) nL
    have K12 := Kp.new (d := d) (c := c) (o := .lst [.ref p4, .ref p7]) nL
    refine ⟨.ref L, rfl, deep, rfl, by show 4 ≤ sizeLine; decide, fun B nB => ?_⟩
    have oB : Own d c _ B (.lst [deep, .non, .bl true, .str ""]) := Own.new D12 nB
    have D13 := D12.new (o := .lst [deep, .non, .bl true, .str ""]) nB
    have K13 := Kp.new (d := d) (c := c) (o := .lst [deep, .non, .bl true, .str ""]) nB
    refine ⟨L, B, _, _, rfl, rfl, (oL.kp K13).2.2, oB.2.2, by show 6 ≤ sizeLine; decide, fun C nC => ?_⟩
    have D14 := D13.new (o := .lst ([.ref p4, .ref p7] ++ [deep, .non, .bl true, .str ""])) nC
    have K14 := Kp.new (d := d) (c := c) (o := .lst ([.ref p4, .ref p7] ++ [deep, .non, .bl true, .str ""])) nC
    have Ka := K13.trans K14
    have Kb := K12.trans Ka
    have Kc := K11.trans Kb
    have Kd := K10.trans Kc
    have Ke := K9.trans Kd
    have Kf := K8.trans Ke
    have Kg := K7.trans Kf
    have Kh := K6.trans Kg
    have Ki := K5.trans Kh
    have hall : ∀ x ∈ [V.ref p4, .ref p7] ++ [deep, .non, .bl true, .str ""], WebK K _ x := fun x hx => Stay.now (d := d) (c := c) (R := WebK K) (H := _) ((fm_app (R := fun x => Stay d c (WebK K) _ x) (fm (st_webT (o4.kp Ke) (iK _) (o3.kp Kf) (fm (st_tie3 (o1.kp Kh) (iK _) (iK _) (kS _) (sKn fun _ => kd_str (by decide +kernel))) (fm (st_tie3 (o2.kp Kg) (iK _) (iK _) (kS _) (sKn fun _ => kd_str (by decide +kernel))) fm_nil)))
      (fm (st_webT (o7.kp Kb) (iK _) (o6.kp Kc) (fm (st_tie3 (o5.kp Kd) (iK _) (iK _) (kS _) (sKn fun _ => kd_str (by decide +kernel))) fm_nil)) fm_nil))
      (fm (fun H' k => Wrap.web (k := 9) (hw4.kp Ki H' k)) (fm (sKn fun _ => webk_no (v := .non) trivial rfl) (fm (sKn fun _ => webk_no (v := .bl true) trivial rfl) (fm (sKn fun _ => webk_no (v := .str "") trivial rfl) fm_nil))))) x hx)
    have hW5 := hW4.tk (Ki.tk D4)
    have T5 := T4.kp Ki D4
    have oC := (Own.new (o := .lst ([.ref p4, .ref p7] ++ [deep, .non, .bl true, .str ""])) D13 nC).2.2
    generalize upd _ C (HO.lst ([.ref p4, .ref p7] ++ [deep, .non, .bl true, .str ""])) = H5 at hall hW5 T5 D14 oC
    refine ⟨C, rfl, ⟨_, SqL.of oC⟩, ?_⟩
    refine for_list (xs := [V.ref p4, .ref p7] ++ [deep, .non, .bl true, .str ""]) (fun j σ' H' => ∃ y7 : Option V, σ' = [some (.ref sc), some (.ref d), some wv, y3', some deep, some (.int far), some (.ref L), y7] ∧ Kt Ps H5 H') ⟨_, rfl, Kt.refl T5⟩ (fun j σ' H' _ h => by
      obtain ⟨_, _, k9⟩ := h
      exact SqL.of (k9.lst T5 oC)) ?_ ?_
    · rintro j x σ' H6 ex ⟨y7, rfl, k6⟩
      exact ⟨x, rfl, x, rfl, (hall x (List.mem_of_getElem? ex)).kt k6 T5, k6.tab, fun H7 k7 => ⟨_, rfl, _, rfl, k6.trans k7⟩⟩
    · rintro σ' H6 ⟨y7, rfl, k6⟩
      have hW6 := hW5.tk (k6.tk T5)
      refine ⟨wv, rfl, wv, rfl, web_known hW6, k6.tab, fun H7 k7 => ?_⟩
      rw [web_true hW6 n1 ok]
      refine ⟨true, true, rfl, rfl, _, rfl, ?_⟩
      rw [decide_eq_true rfl]
      refine ⟨Nat.zero_le _, fun e1 me1 => ⟨by show 2 ≤ sizeLine; decide, fun e2 me2 => ?_⟩⟩
      have s8 := same_new (o := .tup []) me1
      have s9 := same_new (o := .tup [.int 1, .ref e1]) me2
      have hE : WebAt (upd (upd H7 e1 (.tup [])) e2 (.tup [.int 1, .ref e1])) (.ref e2) 1 [] := ⟨e2, e1, [], rfl, upd_same, s9 _ _ upd_same, .nil⟩
      have T7 : Tabs Ps H7 := k7.tab
      refine ⟨.ref e2, rfl, web_known hE, (T7.same s8).same s9, fun H10 k10 => ?_⟩
      rw [web_true hE (by decide) (fun t h => by cases h)]
      refine ⟨true, true, rfl, rfl, ?_⟩
      rw [decide_eq_true rfl]
      exact q _
end
/-! ### a tuple of texts that stands in the module -/
structure TupK (K : PySem.W.Frag) (x : Str) (ka : Addr) (ss : List Str) : Prop where
  ns : PySem.W.nsIn K mainGlobals x = some (some (.ref ka))
  ex : ∃ (o : Obj) (its : Array Value) (n : Nat), K.lookup ka = some o ∧ o.cls = .type "tuple" ∧ o.data = .seq its n ∧ its.size ≤ sizeLine ∧ Vals (ss.map V.str) its.toList
theorem TupK.sqt {K : PySem.W.Frag} {x : Str} {ka : Addr} {ss : List Str} (h : TupK K x ka ss) (H : Hp) : SqT K H ka (ss.map V.str) := .inr h.ex
theorem tupK_mk2 {K : PySem.W.Frag} {x a b : Str} {ka : Addr} {t1 t2 : Tok} {od : Option Addr} {n : Nat} {osl : Array (Option Value)} (p1 : PySem.W.nsIn K mainGlobals x = some (some (.ref ka))) (p2 : K.lookup ka = some ⟨.type "tuple", od, .seq #[.str a t1, .str b t2] n, osl⟩) : TupK K x ka [a, b] :=
  ⟨p1, _, _, _, p2, rfl, rfl, by show 2 ≤ sizeLine; decide, .cons ⟨_, rfl⟩ (.cons ⟨_, rfl⟩ .nil)⟩
/-! ### the end of a law whose defs hold generator expressions: their tables are empty behind the top -/
theorem walk_tabs {l : PySem.W.OpenLaw} {n k : Nat} {q : Program} {loose : List Str} {XP : (Str → Option Value) → Heap → Prop} {YP : World → Heap → Prop} {d : DefRec} {K : Params → PySem.W.Frag} {x : Str}
    (hn : l.most = some n) (hn2 : n ≤ sizeLine) (hdf : d.params.defaults = []) (hr : Room k callerA) (hY : ∀ (w : World) (h : Heap), YP w h → (K w.params).In h)
    (F : ∀ (w : World) (mg : Str → Option Value) (fa : Addr) (h : Heap), (K w.params).In h → h.Ns mainGlobals mg → mg d.name = some (.ref fa) →
      (∀ (y : Str) (fy : Addr), ((recsOf q).any fun e => e.name == y) = true → mg y = some (.ref fy) → LamX.OwnTab (K w.params) fy h) → LamX.LawAtS l w (K w.params) CX0 k n x mg fa h) :
    PySem.W.WalkO q loose XP YP l.row.toRowW d [] (fun f vs => PySem.call f vs) := by
  refine Att.attach_callB hn hdf fun w s₀ s₁ mg mb fa o pm cd doc a vs ns G Y ho hd hcd hmg hobj hints hlen hbits hg => ?_
  have KX := hY w _ Y
  have tabs : ∀ (y : Str) (fy : Addr), ((recsOf q).any fun e => e.name == y) = true → mg y = some (.ref fy) → LamX.OwnTab (K w.params) fy s₁.heap := fun y fy hy hm c P o1 fd1 e dd vs1 sl k1 k2 k3 k4 k5 => by
    obtain ⟨dL, hmem, hnm⟩ := List.any_eq_true.mp hy
    have hnm : dL.name = y := beq_iff_eq.mp hnm
    obtain ⟨a', o', fd', c', P', h1, h2, h3, h4, h5, h6⟩ := G.T.tab dL hmem
    rw [hnm, hm] at h1
    cases h1
    rw [KX _ _ k1] at h2
    cases h2
    rw [k2] at h3
    cases h3
    rw [k3] at h4
    cases h4
    obtain ⟨⟨oc, vc, e1, _, e3, e4⟩, hP⟩ := h6
    rw [KX _ _ k4] at e1
    cases e1
    cases e3
    rw [k5] at e4
    cases e4
    exact hP
  obtain ⟨fd, cs, sp, hT, nT, C, hb, hsp, hF⟩ := F w mg fa _ KX G.T.g hmg tabs
  exact LamX.law_callTs KX G.T.g G.T.b G.T.builtins G.T.nolimit hg hT nT C G.T.bmain hobj hints (Nat.le_trans hlen hn2) hr hF hb (fun H hH hS => hsp H a ns hlen hbits hH hS) fun H e s' z => z
/-- where a def stands, and where its code object does -/
structure At (K : PySem.W.Frag) (x : Str) (st : Stmt) (f : Addr) : Prop where
  ns : PySem.W.nsIn K mainGlobals x = some (some (.ref f))
  ex : ∃ (oc : Value) (od : Option Addr) (kV doc pm : Value) (an : Option Addr) (cdv ct : Value) (osl : Array (Option Value)),
    K.lookup f = some ⟨oc, od, .func (PySem.W.fnOf x x (defArgs st) (defBody st) (defScope st) .none kV doc pm an cdv ct), osl⟩ ∧ PySem.W.codeIn K cdv x = true
  kp : PySem.W.keepIn K (.ref f) = true
theorem at_mk {K : PySem.W.Frag} {x : Str} {st : Stmt} {f : Addr} {oc : Value} {od an : Option Addr} {osl : Array (Option Value)} {kV doc pm cdv ct : Value} (a : PySem.W.nsIn K mainGlobals x = some (some (.ref f)))
    (l : K.lookup f = some ⟨oc, od, .func (PySem.W.fnOf x x (defArgs st) (defBody st) (defScope st) .none kV doc pm an cdv ct), osl⟩) (c : PySem.W.codeIn K cdv x = true) (k : PySem.W.keepIn K (.ref f) = true) : At K x st f := ⟨a, ⟨oc, od, kV, doc, pm, an, cdv, ct, osl, l, c⟩, k⟩
theorem At.fn {K : PySem.W.Frag} {x : Str} {st : Stmt} {f : Addr} (h : At K x st f) : ∃ fd, Fun K x x st f fd := by
  obtain ⟨oc, od, kV, doc, pm, an, cdv, ct, osl, l, c⟩ := h.ex
  exact ⟨_, fun_mk l c h.kp⟩
structure AtC (K : PySem.W.Frag) (x : Str) (st : Stmt) (f c Pt : Addr) : Prop where
  ns : PySem.W.nsIn K mainGlobals x = some (some (.ref f))
  ex : ∃ (oc : Value) (od : Option Addr) (kV doc pm : Value) (an : Option Addr) (ct : Value) (osl : Array (Option Value)),
    K.lookup f = some ⟨oc, od, .func (PySem.W.fnOf x x (defArgs st) (defBody st) (defScope st) .none kV doc pm an (.ref c) ct), osl⟩ ∧ PySem.W.codeIn K (.ref c) x = true
  kp : PySem.W.keepIn K (.ref f) = true
  co : ∃ (dd : Option Addr) (vs : Array Value) (sl : Array (Option Value)) (file : Str) (tf : Tok) (flags : Int) (tg : Tok) (inF : Bool) (text : Int) (tt : Tok), K.lookup c = some ⟨.type "code", dd, .fields vs, sl⟩ ∧ vs[11]? = some (.ref Pt) ∧ vs.getD 11 .none = .ref Pt ∧ vs.getD 18 .none = .str file tf ∧
    vs.getD 7 .none = .int flags tg ∧ vs.getD 9 .none = .bool inF ∧ vs.getD 10 .none = .int text tt ∧ c ≠ Pt
  nP : K.lookup Pt = none
theorem atC_mk {K : PySem.W.Frag} {x : Str} {st : Stmt} {f c Pt : Addr} {oc : Value} {od an dd : Option Addr} {osl sl : Array (Option Value)} {kV doc pm ct : Value} {vs : Array Value} {file : Str} {tf tg tt : Tok} {flags text : Int} {inF : Bool} (a : PySem.W.nsIn K mainGlobals x = some (some (.ref f)))
    (l : K.lookup f = some ⟨oc, od, .func (PySem.W.fnOf x x (defArgs st) (defBody st) (defScope st) .none kV doc pm an (.ref c) ct), osl⟩) (cc : PySem.W.codeIn K (.ref c) x = true) (k : PySem.W.keepIn K (.ref f) = true)
    (lc : K.lookup c = some ⟨.type "code", dd, .fields vs, sl⟩) (v11 : vs[11]? = some (.ref Pt)) (w11 : vs.getD 11 .none = .ref Pt) (v18 : vs.getD 18 .none = .str file tf) (v7 : vs.getD 7 .none = .int flags tg) (v9 : vs.getD 9 .none = .bool inF) (v10 : vs.getD 10 .none = .int text tt) (ne : c ≠ Pt)
    (nP : K.lookup Pt = none) : AtC K x st f c Pt := ⟨a, ⟨oc, od, kV, doc, pm, an, ct, osl, l, cc⟩, k, ⟨dd, vs, sl, file, tf, flags, tg, inF, text, tt, lc, v11, w11, v18, v7, v9, v10, ne⟩, nP⟩
theorem AtC.fn {K : PySem.W.Frag} {x : Str} {st : Stmt} {f c Pt : Addr} (h : AtC K x st f c Pt) : ∃ fd, FunC K x x st f fd c := by
  obtain ⟨oc, od, kV, doc, pm, an, ct, osl, l, cc⟩ := h.ex
  exact ⟨_, ⟨oc, od, kV, doc, pm, an, ct, osl, rfl, l, cc⟩, h.kp⟩
theorem AtC.hd {K : PySem.W.Frag} {h : Heap} {x : Str} {st : Stmt} {f c Pt : Addr} (a : AtC K x st f c Pt) (X : K.In h) : PySem.W.CodeHd h c Pt := by
  obtain ⟨dd, vs, sl, file, tf, flags, tg, inF, text, tt, lc, v11, w11, v18, v7, v9, v10, ne⟩ := a.co
  exact ⟨_, vs, file, tf, flags, tg, inF, text, tt, X _ _ lc, rfl, rfl, v11, w11, v18, v7, v9, v10, ne⟩
theorem AtC.tab {K : PySem.W.Frag} {h : Heap} {x : Str} {st : Stmt} {f c Pt : Addr} (a : AtC K x st f c Pt) (o : LamX.OwnTab K f h) : h.get? Pt = some { cls := .none, data := .fields #[] } := by
  obtain ⟨oc, od, kV, doc, pm, an, ct, osl, l, cc⟩ := a.ex
  obtain ⟨dd, vs, sl, file, tf, flags, tg, inF, text, tt, lc, v11, w11, v18, v7, v9, v10, ne⟩ := a.co
  exact o c Pt _ _ _ _ _ _ l rfl rfl lc v11
section
variable {P : Program} {w : World} {K : PySem.W.Frag} {mg : Str → Option Value} {base : Heap}
theorem Df.of {x : Str} {st : Stmt} {f : Addr} {fd : FuncData} {k : Nat} {ps : List Str} {sp : Sp} (g : mg x = some (.ref f)) (F : Fun K x x st f fd) (G : FnOk P w K mg base CX0 k f fd ps sp)
    (h : ∀ (kV doc pm : Value) (an : Option Addr) (cdv ct : Value) (us : List Value), us.length = ps.length → bindArgs (PySem.W.fnOf x x (defArgs st) (defBody st) (defScope st) .none kV doc pm an cdv ct) ⟨us, []⟩ = pure (ps.zip us)) : Df P w K mg base k x ps sp :=
  ⟨f, fd, G, g, F.kp, F.binds h⟩
end
/-! ### what the top has written -/
section
variable {P : Program} {w : World} {K : PySem.W.Frag} {mg : Str → Option Value} {base : Heap}
theorem law_at {l : PySem.W.OpenLaw} {w : World} {K : PySem.W.Frag} {h : Heap} {mg : Str → Option Value} {fa f0 f1 f2 f3 f4 f5 f6 f7 f8 f9 f10 f11 f12 f13 f14 f15 c6 P6 u_0 : Addr} (X : K.In h) (G : h.Ns mainGlobals mg) (hfa : mg "law" = some (.ref fa))
    (t6 : ∀ (fy : Addr), mg "is_web" = some (.ref fy) → LamX.OwnTab K fy h)
    (a0 : At K "is_whole" s_is_whole f0)
    (a1 : At K "is_whole_from" s_is_whole_from f1)
    (a2 : At K "is_whole_below" s_is_whole_below f2)
    (a3 : At K "are_unlike_places" s_are_unlike_places f3)
    (a4 : At K "is_tuple_of" s_is_tuple_of f4)
    (a5 : At K "is_tie" s_is_tie f5)
    (a6 : AtC K "is_web" s_is_web f6 c6 P6)
    (a7 : At K "_law_deck" s_l_deck f7)
    (a8 : At K "_law_draw" s_l_draw f8)
    (a9 : At K "_law_web" s_l_web f9)
    (a10 : At K "_law_whole" s_l_whole f10)
    (a11 : At K "_law_is_web" s_l_is_web f11)
    (a12 : At K "_law_odd_tie" s_l_odd_tie f12)
    (a13 : At K "_law_otherwise" s_l_otherwise f13)
    (a14 : At K "_law_right" s_l_right f14)
    (a15 : At K "law" s_law f15)
    (z0 : PySem.W.nsIn K mainGlobals "len" = some none)
    (z1 : PySem.W.nsIn K mainGlobals "int" = some none)
    (z2 : PySem.W.nsIn K mainGlobals "bool" = some none)
    (z3 : PySem.W.nsIn K mainGlobals "str" = some none)
    (z4 : PySem.W.nsIn K mainGlobals "list" = some none)
    (z5 : PySem.W.nsIn K mainGlobals "tuple" = some none)
    (z6 : PySem.W.nsIn K mainGlobals "range" = some none)
    (z7 : PySem.W.nsIn K mainGlobals "isinstance" = some none)
    (z8 : PySem.W.nsIn K mainGlobals "sum" = some none)
    (z9 : PySem.W.nsIn K mainGlobals "all" = some none)
    (u0 : TupK K "KINDS" u_0 ["friend", "foe"]) :
    LamX.LawAtS l w K CX0 8 63 "_law_script" mg fa h := by
  have efa := hfa.symm.trans (PySem.W.mg_of X G a15.ns)
  cases efa
  have M : Free mg := ⟨PySem.W.mg_none_of X G z0, PySem.W.mg_none_of X G z1, PySem.W.mg_none_of X G z2, PySem.W.mg_none_of X G z3, PySem.W.mg_none_of X G z4, PySem.W.mg_none_of X G z5, PySem.W.mg_none_of X G z6, PySem.W.mg_none_of X G z7, PySem.W.mg_none_of X G z8⟩
  have m_all := PySem.W.mg_none_of X G z9
  obtain ⟨d0, F0⟩ := a0.fn
  obtain ⟨d1, F1⟩ := a1.fn
  obtain ⟨d2, F2⟩ := a2.fn
  obtain ⟨d3, F3⟩ := a3.fn
  obtain ⟨d4, F4⟩ := a4.fn
  obtain ⟨d5, F5⟩ := a5.fn
  obtain ⟨d6, F6⟩ := a6.fn
  obtain ⟨d7, F7⟩ := a7.fn
  obtain ⟨d8, F8⟩ := a8.fn
  obtain ⟨d9, F9⟩ := a9.fn
  obtain ⟨d10, F10⟩ := a10.fn
  obtain ⟨d11, F11⟩ := a11.fn
  obtain ⟨d12, F12⟩ := a12.fn
  obtain ⟨d13, F13⟩ := a13.fn
  obtain ⟨d14, F14⟩ := a14.fn
  obtain ⟨d15, F15⟩ := a15.fn
  have g0 := PySem.W.mg_of X G a0.ns
  have g1 := PySem.W.mg_of X G a1.ns
  have g2 := PySem.W.mg_of X G a2.ns
  have g3 := PySem.W.mg_of X G a3.ns
  have g4 := PySem.W.mg_of X G a4.ns
  have g5 := PySem.W.mg_of X G a5.ns
  have g6 := PySem.W.mg_of X G a6.ns
  have g7 := PySem.W.mg_of X G a7.ns
  have g8 := PySem.W.mg_of X G a8.ns
  have g9 := PySem.W.mg_of X G a9.ns
  have g10 := PySem.W.mg_of X G a10.ns
  have g11 := PySem.W.mg_of X G a11.ns
  have g12 := PySem.W.mg_of X G a12.ns
  have g13 := PySem.W.mg_of X G a13.ns
  have g14 := PySem.W.mg_of X G a14.ns
  have hb0 : ∀ (s : Shared) (u : Value), BindsTo s d15 ⟨[u], []⟩ [("_law_script", u)] := by
    obtain ⟨oc, od, kV, doc, pm, an, cdv, ct, osl, rfl, _⟩ := F15.ex
    exact fun s u => .of_eq rfl
  refine ⟨d15, [(c6, P6)], (spLaw K [P6]), (List.forall_mem_cons.mpr ⟨a6.tab (t6 _ g6), (fun p hp => by simp at hp)⟩), (List.forall_mem_cons.mpr ⟨a6.nP, (fun p hp => by simp at hp)⟩), (List.forall_mem_cons.mpr ⟨a6.hd X, (fun p hp => by simp at hp)⟩), hb0, fun H a ns hl _ hT hS => ⟨a, ns, rfl, hS, hl, (List.forall_mem_cons.mpr ⟨⟨#[], hT (c6, P6) (by simp), by trivial⟩, (fun p hp => by simp at hp)⟩), fun _ => rfl⟩, fun base KB GB TB => ?_⟩
  have tb6 := TB (c6, P6) (by simp)
  have D0 : Df l.prog w K mg base 1 "is_whole" ["thing"] spWhole := .of g0 F0 (ok_is_whole F0 M) fun _ _ _ _ _ _ us hl => match us, hl with | [_], _ => rfl
  have D1 : Df l.prog w K mg base 2 "is_whole_from" ["low", "thing"] spFrom := .of g1 F1 (ok_is_whole_from F1 D0) fun _ _ _ _ _ _ us hl => match us, hl with | [_, _], _ => rfl
  have D2 : Df l.prog w K mg base 2 "is_whole_below" ["limit", "thing"] spBelow := .of g2 F2 (ok_is_whole_below F2 D0) fun _ _ _ _ _ _ us hl => match us, hl with | [_, _], _ => rfl
  have D3 : Df l.prog w K mg base 3 "are_unlike_places" ["many", "one", "other"] spUnlPl := .of g3 F3 (ok_unlike_places F3 D2) fun _ _ _ _ _ _ us hl => match us, hl with | [_, _, _], _ => rfl
  have D4 : Df l.prog w K mg base 1 "is_tuple_of" ["length", "thing"] spTupleOf := .of g4 F4 (ok_is_tuple_of F4 M) fun _ _ _ _ _ _ us hl => match us, hl with | [_, _], _ => rfl
  have D5 : Df l.prog w K mg base 4 "is_tie" ["many", "thing"] (spTie K) := .of g5 F5 (ok_is_tie F5 (PySem.W.mg_of X G u0.ns) u0.sqt D4 D3) fun _ _ _ _ _ _ us hl => match us, hl with | [_, _], _ => rfl
  have D6 : Df l.prog w K mg base 6 "is_web" ["thing"] (spIsWeb K [P6]) := .of g6 F6.fn (ok_is_web F6 ⟨tb6.code, tb6.bm, tb6.gP⟩ (show P6 ∈ [P6] by simp) M m_all D4 D1 D5) fun _ _ _ _ _ _ us hl => match us, hl with | [_], _ => rfl
  have D7 : Df l.prog w K mg base 1 "_law_deck" ["_law_script"] (spDeck K) := .of g7 F7 (ok_l_deck F7 M) fun _ _ _ _ _ _ us hl => match us, hl with | [_], _ => rfl
  have D8 : Df l.prog w K mg base 1 "_law_draw" ["_law_deck_here", "_law_many"] spDraw := .of g8 F8 (ok_l_draw F8) fun _ _ _ _ _ _ us hl => match us, hl with | [_, _], _ => rfl
  have D9 : Df l.prog w K mg base 2 "_law_web" ["_law_deck_here"] spWeb := .of g9 F9 (ok_l_web F9 M D8) fun _ _ _ _ _ _ us hl => match us, hl with | [_], _ => rfl
  have D10 : Df l.prog w K mg base 1 "_law_whole" ["_law_thing"] spWhole := .of g10 F10 (ok_l_whole F10 M) fun _ _ _ _ _ _ us hl => match us, hl with | [_], _ => rfl
  have D11 : Df l.prog w K mg base 2 "_law_is_web" ["_law_thing"] (spLIsWeb K) := .of g11 F11 (ok_l_is_web F11 M D10) fun _ _ _ _ _ _ us hl => match us, hl with | [_], _ => rfl
  have D12 : Df l.prog w K mg base 2 "_law_odd_tie" ["_law_deck_here", "_law_web_here", "_law_tie"] (spOddTie K) := .of g12 F12 (ok_l_odd_tie F12 D8) fun _ _ _ _ _ _ us hl => match us, hl with | [_, _, _], _ => rfl
  have D13 : Df l.prog w K mg base 3 "_law_otherwise" ["_law_deck_here", "_law_web_here"] (spOther K) := .of g13 F13 (ok_l_otherwise F13 M D8 D12) fun _ _ _ _ _ _ us hl => match us, hl with | [_, _], _ => rfl
  have D14 : Df l.prog w K mg base 7 "_law_right" ["_law_thing"] (spRight K [P6]) := .of g14 F14 (ok_l_right F14 M D6 D11) fun _ _ _ _ _ _ us hl => match us, hl with | [_], _ => rfl
  exact ok_law F15 M D7 D9 D8 D6 D14 D13
end
end FF
open PySem PySem.W PyProof.Rows
set_option maxRecDepth 100000 in
set_option maxHeartbeats 0 in
theorem PySem.Challenge.cw_friendfoe_k01_what_is_a_web_holds : PySem.Challenge.rw_friendfoe_k01_what_is_a_web.Holds := by
  w_on; o_law; k_head; (case hw => w_witness2)
  k_fill
  refine FF.walk_tabs (l := PySem.Challenge.rw_friendfoe_k01_what_is_a_web) (n := 63) (k := 8) (x := "_law_script") rfl (by decide) rfl ⟨rfl, by decide, by decide⟩ (fun w h Y => PySem.W.kIn_of Y) ?F
  case F =>
    intro w mg fa h KX G hmg tabs
    refine' FF.law_at KX G hmg (fun fy => tabs "is_web" fy ?r6) ?a0 ?a1 ?a2 ?a3 ?a4 ?a5 ?a6 ?a7 ?a8 ?a9 ?a10 ?a11 ?a12 ?a13 ?a14 ?a15 ?z0 ?z1 ?z2 ?z3 ?z4 ?z5 ?z6 ?z7 ?z8 ?z9 ?u0
    (case r6 => rfl)
    (case a0 => refine' FF.at_mk ?p1 ?p2 ?p3 ?p4; (case p1 => k_is); (case p2 => k_is); (case p3 => k_is); (case p4 => k_is))
    (case a1 => refine' FF.at_mk ?p1 ?p2 ?p3 ?p4; (case p1 => k_is); (case p2 => k_is); (case p3 => k_is); (case p4 => k_is))
    (case a2 => refine' FF.at_mk ?p1 ?p2 ?p3 ?p4; (case p1 => k_is); (case p2 => k_is); (case p3 => k_is); (case p4 => k_is))
    (case a3 => refine' FF.at_mk ?p1 ?p2 ?p3 ?p4; (case p1 => k_is); (case p2 => k_is); (case p3 => k_is); (case p4 => k_is))
    (case a4 => refine' FF.at_mk ?p1 ?p2 ?p3 ?p4; (case p1 => k_is); (case p2 => k_is); (case p3 => k_is); (case p4 => k_is))
    (case a5 => refine' FF.at_mk ?p1 ?p2 ?p3 ?p4; (case p1 => k_is); (case p2 => k_is); (case p3 => k_is); (case p4 => k_is))
    (case a6 => refine' FF.atC_mk ?p1 ?p2 ?p3 ?p4 ?p5 ?p6 ?p7 ?p8 ?p9 ?p10 ?p11 ?p12 ?p13; (case p1 => k_is); (case p2 => k_is); (case p3 => k_is); (case p4 => k_is); (case p5 => k_is); (case p6 => rfl); (case p7 => rfl); (case p8 => rfl); (case p9 => rfl); (case p10 => rfl); (case p11 => rfl); (case p12 => decide); (case p13 => rfl))
    (case a7 => refine' FF.at_mk ?p1 ?p2 ?p3 ?p4; (case p1 => k_is); (case p2 => k_is); (case p3 => k_is); (case p4 => k_is))
    (case a8 => refine' FF.at_mk ?p1 ?p2 ?p3 ?p4; (case p1 => k_is); (case p2 => k_is); (case p3 => k_is); (case p4 => k_is))
    (case a9 => refine' FF.at_mk ?p1 ?p2 ?p3 ?p4; (case p1 => k_is); (case p2 => k_is); (case p3 => k_is); (case p4 => k_is))
    (case a10 => refine' FF.at_mk ?p1 ?p2 ?p3 ?p4; (case p1 => k_is); (case p2 => k_is); (case p3 => k_is); (case p4 => k_is))
    (case a11 => refine' FF.at_mk ?p1 ?p2 ?p3 ?p4; (case p1 => k_is); (case p2 => k_is); (case p3 => k_is); (case p4 => k_is))
    (case a12 => refine' FF.at_mk ?p1 ?p2 ?p3 ?p4; (case p1 => k_is); (case p2 => k_is); (case p3 => k_is); (case p4 => k_is))
    (case a13 => refine' FF.at_mk ?p1 ?p2 ?p3 ?p4; (case p1 => k_is); (case p2 => k_is); (case p3 => k_is); (case p4 => k_is))
    (case a14 => refine' FF.at_mk ?p1 ?p2 ?p3 ?p4; (case p1 => k_is); (case p2 => k_is); (case p3 => k_is); (case p4 => k_is))
    (case a15 => refine' FF.at_mk ?p1 ?p2 ?p3 ?p4; (case p1 => k_is); (case p2 => k_is); (case p3 => k_is); (case p4 => k_is))
    (case z0 => k_is)
    (case z1 => k_is)
    (case z2 => k_is)
    (case z3 => k_is)
    (case z4 => k_is)
    (case z5 => k_is)
    (case z6 => k_is)
    (case z7 => k_is)
    (case z8 => k_is)
    (case z9 => k_is)
    (case u0 => refine' FF.tupK_mk2 ?q1 ?q2; (case q1 => k_is); (case q2 => first | k_is | rfl | kernel_rfl))
