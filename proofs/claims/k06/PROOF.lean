import PyProof.Rows.All
import Wide.All
import OpenK.AllK
import Wide.FinOn
import HandS.ForMost
import HandS.IsInst
import HandS.TupAny
import HandS.TupLe
import HandS.Wide
import HandS.Style
import HandS.SortInts
import HandS.Conv
import HandS.More
import HandS.EndTab
import HandS.EndOwn
import HandS.AnyAll
import HandS.GenOver
import HandS.Evl
import HandS.Walk
import HandS.NoneIn
import HandS.Zip
import HandS.DictComp
import HandS.SetFor
import KE.GoesEnum
import HandS.TupMul
import HandS.Strs
import KE.DataMinMax
import HandS.ForExc
import HandS.ExcIs
import HandS.FStr
import HandS.Text
import KE.KUnpackStar
import HandS.Defaults
import HandS.ExcCtx
import HandS.HotCalls
import PySem.Challenge.RW_friendfoe_k06_refusals_made
set_option Elab.async false
set_option linter.all false
set_option maxRecDepth 100000
namespace FF
open PySem PySem.Spec PyProof.Rows L2
/-! ### heaps: what is kept -/
/-- all that is tracked, but at d and c, is as it was -/
def Kp (d c : Addr) (H H' : Hp) : Prop := ∀ b o, b ≠ d → b ≠ c → H b = some o → H' b = some o
theorem Kp.refl {d c : Addr} {H : Hp} : Kp d c H H := fun _ _ _ _ h => h
theorem Kp.trans {d c : Addr} {H H1 H2 : Hp} (a : Kp d c H H1) (b : Kp d c H1 H2) : Kp d c H H2 := fun x o h1 h2 h => b x o h1 h2 (a x o h1 h2 h)
theorem Kp.at_d {d c : Addr} {H : Hp} {o : HO} : Kp d c H (upd H d o) := fun b u h1 _ h => by rw [upd_ne h1]; exact h
theorem Kp.at_c {d c : Addr} {H : Hp} {o : HO} : Kp d c H (upd H c o) := fun b u _ h2 h => by rw [upd_ne h2]; exact h
theorem Kp.new {d c p : Addr} {H : Hp} {o : HO} (hp : H p = none) : Kp d c H (upd H p o) := fun b u _ _ h => by rw [upd_ne (ne_of_none h hp)]; exact h
theorem same_new {H : Hp} {p : Addr} {o : HO} (h : H p = none) : Same H (upd H p o) := fun b x e => by
  rw [upd_ne (ne_of_none e h)]
  exact e
theorem Same.kp {d c : Addr} {H H' : Hp} (s : Same H H') : Kp d c H H' := fun b o _ _ h => s b o h
/-! ### defs as they are called -/
def Df (P : Program) (w : World) (K : PySem.W.Frag) (mg : Str → Option Value) (base : Heap) (k : Nat) (x : Str) (ps : List Str) (sp : Sp) : Prop :=
  ∃ (f : Addr) (fd : FuncData), FnOk P w K mg base CX0 k f fd ps sp ∧ mg x = some (.ref f) ∧ PySem.W.keepIn K (.ref f) = true ∧ Binds K fd ps []
/-- built-in names that the module has not taken -/
structure Free (mg : Str → Option Value) : Prop where
  len : mg "len" = none
  int : mg "int" = none
  bool : mg "bool" = none
  str : mg "str" = none
  list : mg "list" = none
  tuple : mg "tuple" = none
  range : mg "range" = none
  isinstance : mg "isinstance" = none
  sum : mg "sum" = none
/-! ### the deck -/
structure Deck (H : Hp) (d c : Addr) : Prop where
  ex : ∃ (cells : List Int) (st n : Int), H d = some (.lst [.ref c, .int st, .int n]) ∧ H c = some (.lst (cells.map V.int)) ∧ cells.length ≤ 63
theorem Deck.ne {H : Hp} {d c : Addr} (h : Deck H d c) : d ≠ c := by
  obtain ⟨cells, st, n, h1, h2, _⟩ := h
  intro e
  rw [e, h2] at h1
  have q := HO.lst.inj (Option.some.inj h1)
  cases cells with
  | nil => simp at q
  | cons x r => simp at q
theorem Deck.same {H H' : Hp} {d c : Addr} (h : Deck H d c) (s : Same H H') : Deck H' d c := by
  obtain ⟨cells, st, n, h1, h2, h3⟩ := h
  exact ⟨cells, st, n, s _ _ h1, s _ _ h2, h3⟩
theorem mod_rng {a m : Int} (h : 0 < m) : 0 ≤ a % m ∧ a % m < m := ⟨Int.emod_nonneg a (by omega), Int.emod_lt_of_pos a h⟩
/-- a draw below m: any number from 0 on, less than m -/
def spDraw : Sp := fun vs H Q _ => ∃ (d c : Addr) (m : Int), vs = [.ref d, .int m] ∧ Deck H d c ∧ 0 < m ∧ m.natAbs < 2 ^ 120 ∧
  ∀ v H', 0 ≤ v → v < m → Deck H' d c → Kp d c H H' → Q (.int v) H'
/-! ### a generator expression's own frame -/
/-- the context of a generator's turns: its frame cenv stands over the def's -/
abbrev gX (X : Cx) (s : Shared) (H : Hp) (A' : Around) (cenv : Env) (fp : List Addr) : Cx :=
  { X with A := A', s_0 := s, H_0 := H, env := cenv, outer := X.stack, stack := cenv :: X.stack, ex := fp, fn := fun _ => false, pn := [], xe := fun _ _ => False }
/-- what is asked of the expression's own scope -/
structure GnOk (scope : Scope) : Prop where
  co : scope.isCoroutine = false
  nocell : ∀ y ∈ scope.names, y.2 ≠ .cell
  dot : scope.names.lookup (".0" : Str) = some NameKind.local
section
variable {X : Cx} {pins : List (Addr × Obj)} {σ : L2.St} {H : Hp} {s : Shared}
theorem gen_start {scope : Scope} {own : List (Str × Nat)} {fp : List Addr} {A' : Around} {code : Value} {m0 : Str → Option Value} {h5 : Heap} {g5 : Array GenState} {t5 : Nat} {a : Addr} {go : Obj}
    (I : Inv X pins σ H s) (ok : BlkOk X.N X.env.scope scope own) (gk : GnOk scope) (hN : X.N.Nodup) (hfp : ∀ b ∈ fp, FpOk X pins H b ∧ b < s.heap.objs.size)
    (hA : A'.handled = none) (hF : A'.frames = some (genEnv scope (cloFrom X.env.cells scope.names []) s.heap.objs.size code builtinsNs X.env :: X.stack))
    (kp : ∀ b o, s.heap.get? b = some o → h5.get? b = some o) (hn : h5.Ns s.heap.objs.size m0) (hm0 : ∀ x, x ≠ (".0" : Str) → m0 x = none) (hdN : (".0" : Str) ∉ X.N) (hb5 : AllBare g5)
    (ha : s.heap.objs.size < a) (hgo : h5.get? a = some go) (hgd : ∀ v, go.data ≠ .cell v) :
    Inv (gX X s H A' (genEnv scope (cloFrom X.env.cells scope.names []) s.heap.objs.size code builtinsNs X.env) fp) [(a, go)] (wipe σ (own.map (·.2))) H { s with heap := h5, gens := g5, toks := t5 } := by
  have hfree : ∀ y ∈ scope.names, y.2 = .free → ∃ c, X.env.cells.lookup y.1 = some c := fun y hy e =>
    (ok.free y hy e).elim (fun k => I.ok.has _ (.inl k)) fun k => I.ok.has _ (.inr k)
  have cm : ∀ {y c}, (y, c) ∈ cloFrom X.env.cells scope.names [] → X.env.cells.lookup y = some c ∧ c < s.heap.objs.size := fun {y c} q => by
    rcases cloFrom_mem q with q | ⟨h1, e1⟩
    · cases q
    · obtain ⟨c1, hc1⟩ := hfree _ h1 rfl
      rw [hc1] at e1
      cases e1
      obtain ⟨w1, z1⟩ := I.cell _ _ hc1
      exact ⟨hc1, z1.lt⟩
  have cl : ∀ {y c}, (cloFrom X.env.cells scope.names []).lookup y = some c → X.env.cells.lookup y = some c ∧ c < s.heap.objs.size := fun {y c} e => cm (PySem.mem_of_lookup e)
  have look : ∀ {y}, scope.names.lookup y = some .free → ∃ c, (cloFrom X.env.cells scope.names []).lookup y = some c := fun {y} e =>
    mem_lookup (cloFrom_has (cells := X.env.cells) (acc := []) (PySem.mem_of_lookup e))
  generalize hce : genEnv scope (cloFrom X.env.cells scope.names []) s.heap.objs.size code builtinsNs X.env = ce at hF
  have cL : ce.locals = s.heap.objs.size := by rw [← hce]; rfl
  have cC : ce.cells = cloFrom X.env.cells scope.names [] := by rw [← hce]; rfl
  have cS : ce.scope = scope := by rw [← hce]; rfl
  have cF : ce.frame = some ce.locals := by rw [← hce]; rfl
  have okG : (gX X s H A' ce fp).Ok := by
    refine ⟨I.ok.mod, ?_, ?_, ?_, ?_, fun y z c e1 e2 => ?_, fun y hy => ?_, fun y c z e => ?_, fun _ => hA, hF, .inr ⟨rfl, cF⟩, fun b hb => ⟨?_, fun y c e z => ?_⟩, I.bs, Nat.le_trans I.ok.bsz I.sz, fun b o e hb => ?_, fun b hb z => ?_, I.stack, I.stkFree⟩
    · show ce.scope.kind = _
      rw [cS]
      exact ok.kind
    · show ce.globals = _
      rw [← hce]
      exact I.ok.glob
    · show ce.builtins = _
      rw [← hce]
      rfl
    · show s.heap.objs.size ≤ ce.locals
      rw [cL]
      exact Nat.le_refl _
    · have e1 : ce.cells.lookup y = some c := e1
      have e2 : ce.cells.lookup z = some c := e2
      rw [cC] at e1 e2
      exact I.ok.inj y z c (cl e1).1 (cl e2).1
    · show ∃ c, ce.cells.lookup y = some c
      rw [cC]
      have hy : scope.names.lookup y = some .cell ∨ scope.names.lookup y = some .free := by
        have hy' : ce.scope.names.lookup y = some .cell ∨ ce.scope.names.lookup y = some .free := hy
        rw [cS] at hy'
        exact hy'
      rcases hy with k | k
      · exact absurd rfl (gk.nocell _ (PySem.mem_of_lookup k))
      · exact look k
    · exact absurd (show false = true from z) Bool.false_ne_true
    · show b ≠ ce.locals
      rw [cL]
      exact Nat.ne_of_lt (hfp b hb).2
    · have e : ce.cells.lookup y = some c := e
      rw [cC] at e
      exact (hfp b hb).1.2.2.2.2.1 y c (cl e).1 z
    · rcases (hfp b hb).1.2.2.2.1 with q | q
      · exact I.ok.noex b o e q
      · exact absurd (Nat.lt_of_lt_of_le (Heap.lt_size e) (Nat.le_trans I.ok.bsz q)) (Nat.lt_irrefl _)
    · rcases List.mem_cons.mp (I.stkSub b z) with q | q
      · exact (hfp b hb).1.2.1 q
      · exact (hfp b hb).1.2.2.1 q
  refine ⟨okG, rfl, hb5, Un.kept kp, ⟨m0, ?_, fun i y av e1 e2 e3 => ?_⟩, fun y c e => ?_, ?_, fun y c e => ?_, fun p hp => ?_, I.hok.kept kp, by rw [wipe_length]; exact I.len⟩
  · show Heap.Ns _ ce.locals _
    rw [cL]
    exact hn
  · obtain ⟨e2, hne⟩ := wipe_some e2
    have e3 : Vis ce.scope y := e3
    rw [cS] at e3
    have hfr : scope.names.lookup y = some .free := by
      have no : ∀ k, scope.names.lookup y = some k → ¬ (k = .local ∨ k = .cell) := fun k hk hh => by
        rcases ok.own _ (PySem.mem_of_lookup hk) hh with q | q
        · obtain ⟨p, hp, hpy⟩ := List.mem_map.mp q
          have e4 := ok.ix p hp
          have hpy : p.1 = y := hpy
          rw [hpy] at e4
          exact hne (List.mem_map.mpr ⟨p, hp, nodup_ix hN e4 e1⟩)
        · exact q (List.mem_of_getElem? e1)
      rcases e3 with e3 | e3 | e3
      · exact absurd (.inl rfl) (no _ e3)
      · exact absurd (.inr rfl) (no _ e3)
      · exact e3
    obtain ⟨m, _, hl⟩ := I.loc
    have hvis : Vis X.env.scope y := (ok.free _ (PySem.mem_of_lookup hfr) rfl).elim (fun k => .inr (.inl k)) fun k => .inr (.inr k)
    obtain ⟨w1, r1, q1⟩ := hl i y av e1 e2 hvis
    obtain ⟨c, hc⟩ := look hfr
    refine ⟨w1, r1, .inr ⟨.inr (by show ce.scope.names.lookup y = _; rw [cS]; exact hfr), c, by show ce.cells.lookup y = _; rw [cC]; exact hc, ?_⟩⟩
    rcases q1 with ⟨k, _⟩ | ⟨_, c', e', z⟩
    · have k : X.env.scope.names.lookup y = some .local := k
      rcases ok.free _ (PySem.mem_of_lookup hfr) rfl with k' | k' <;> (have k' : X.env.scope.names.lookup y = _ := k'; rw [k'] at k; cases k)
    · rw [(cl hc).1] at e'
      cases e'
      exact z.keeps kp
  · have e : ce.cells.lookup y = some c := e
    rw [cC] at e
    obtain ⟨w1, z1⟩ := I.cell y c (cl e).1
    exact ⟨w1, z1.keeps kp⟩
  · show H ce.locals = none
    rw [cL]
    exact I.hok.fresh (Nat.le_refl _)
  · have e : ce.cells.lookup y = some c := e
    rw [cC] at e
    exact I.freeC y c (cl e).1
  · have hp : p = (a, go) := by simpa using hp
    subst hp
    refine ⟨hgo, I.hok.fresh (Nat.le_of_lt ha), ?_, fun z => ?_, hgd⟩
    · show a ≠ ce.locals
      rw [cL]
      exact Nat.ne_of_gt ha
    · have z : a ∈ frs X.stack := z
      obtain ⟨_, o, ho, _⟩ := I.stack.mem z
      exact absurd (Nat.lt_trans (Heap.lt_size ho) ha) (Nat.lt_irrefl _)
end
/-! ### all(..), any(..) of a generator, told by what each turn does -/
/-- between a yield and the next turn -/
structure Rs (s s' : Shared) : Prop where
  heap : s'.heap = s.heap
  os : s'.os = s.os
  bare : AllBare s'.gens
  size : s.gens.size ≤ s'.gens.size
theorem inv_gens {X : Cx} {pins : List (Addr × Obj)} {σ : L2.St} {H : Hp} {s s' : Shared} (I : Inv X pins σ H s) (h1 : s'.heap = s.heap) (h2 : s'.os = s.os) (h3 : AllBare s'.gens) : Inv X pins σ H s' := by
  obtain ⟨hh, g, d, t, o⟩ := s'
  have e1 : hh = s.heap := h1
  have e2 : o = s.os := h2
  subst e1 e2
  exact ⟨I.ok, I.os, h3, I.base, I.loc, I.cell, I.free, I.freeC, I.pin, I.hok, I.len⟩
theorem Rs.inv {X : Cx} {pins : List (Addr × Obj)} {σ : L2.St} {H : Hp} {s s' : Shared} (r : Rs s s') (I : Inv X pins σ H s) : Inv X pins σ H s' := by
  obtain ⟨h1, h2, h3, _⟩ := r
  obtain ⟨hh, g, d, t, o⟩ := s'
  have e1 : hh = s.heap := h1
  have e2 : o = s.os := h2
  subst e1 e2
  exact ⟨I.ok, I.os, h3, I.base, I.loc, I.cell, I.free, I.freeC, I.pin, I.hok, I.len⟩
theorem bare_set {gens : Array GenState} (h : AllBare gens) {g : Nat} {x : GenState} (hx : x.bare = true) : AllBare (gens.setIfInBounds g x) := fun y hy => by
  obtain ⟨i, hi, rfl⟩ := Array.mem_iff_getElem.mp hy
  rw [Array.size_setIfInBounds] at hi
  rw [Array.getElem_setIfInBounds hi]
  split
  · exact hx
  · exact h _ (Array.getElem_mem hi)
theorem Rs.set {s : Shared} (hb : AllBare s.gens) {g : Nat} {x : GenState} (hx : x.bare = true) : Rs s (s.setGen g x) :=
  ⟨rfl, rfl, bare_set hb hx, Nat.le_of_eq (GenW.setGen_size s g x).symm⟩
theorem Rs.trans {s s1 s2 : Shared} (a : Rs s s1) (b : Rs s1 s2) : Rs s s2 := ⟨b.heap.trans a.heap, b.os.trans a.os, b.bare, Nat.le_trans a.size b.size⟩
/-- the protocol of a generator whose items are truths: T b: what holds where b comes out -/
def gY (gi : Nat) (a : Addr) (stop : Bool) (Fin : Shared → Prop) : Protocol := fun n s₀ v s kap =>
  ∃ b, v = .bool b ∧ s.heap.IsGen a gi ∧ s.heap.NoLimit ∧ AllBare s.gens ∧ gi < s.gens.size ∧ (b = stop → Fin s) ∧ (b ≠ stop → ∀ s', Rs s s' → kap (.send .none) s')
def gR (End : Shared → Prop) : Nat → Shared → Shared → Prop := fun _ _ s => AllBare s.gens ∧ End s
/-- the generator waits -/
def Waits (prog : Program) (w : World) (A : Around) (gi : Nat) (a : Addr) (stop : Bool) (End Fin : Shared → Prop) (n : Nat) (s : Shared) : Prop :=
  s.heap.IsGen a gi ∧ s.heap.NoLimit ∧ AllBare s.gens ∧ ∃ gs, s.gens[gi]? = some gs ∧
    ∀ s', Rs s s' → gs.Goes (model prog w) A.in1 (fun n s₀ r s₁ => r = .ok .next ∧ gR End n s₀ s₁) (gY gi a stop Fin) n (.send .none) s'
section
variable {prog : Program} {w : World} {A : Around} {gi : Nat} {a : Addr} {stop : Bool} {End Fin : Shared → Prop}
theorem waits_next {n : Nat} {s : Shared} {Q : Option Value → Shared → Prop} {E : Value → Shared → Prop} (hh : A.handled = none) (hroom : A.depth < recursionLimit)
    (hE : ∀ s s' : Shared, End s → s'.os = s.os → AllBare s'.gens → (∀ b o, s.heap.get? b = some o → s'.heap.get? b = some o) → End s')
    (hF : ∀ s s' : Shared, Fin s → s'.os = s.os → AllBare s'.gens → (∀ b o, s.heap.get? b = some o → s'.heap.get? b = some o) → Fin s')
    (W : Waits prog w A gi a stop End Fin n s) (hN : ∀ s', End s' → Q none s') (hS : ∀ s', Fin s' → Q (some (.bool stop)) s')
    (hG : ∀ s' m, m < n → Waits prog w A gi a stop End Fin m s' → Q (some (.bool (!stop))) s') : wpAny (model prog w) A (pyNext (.ref a)) Q E s := by
  obtain ⟨hg, hl, hb, gs, hgs, hgo⟩ := W
  refine wpAny_pyNext_genexpQ (P := gR End) (Y := gY gi a stop Fin) hh hl hroom hg hgs (hgo _ (Rs.set hb rfl)) (fun v s₁ gs' hb' hv => ?_) fun s₁ hp h' hk => ?_
  · obtain ⟨b, rfl, g1, l1, b1, z1, f1, k1⟩ := hv
    by_cases e : b = stop
    · subst e
      exact hS _ (hF _ _ (f1 rfl) rfl (bare_set b1 hb') fun _ _ q => q)
    · have eb : b = !stop := by cases b <;> cases stop <;> first | rfl | exact absurd rfl e
      subst eb
      cases n with
      | zero => exact False.elim (k1 e s₁ ⟨rfl, rfl, b1, Nat.le_refl _⟩)
      | succ m =>
        refine hG _ m (Nat.lt_succ_self m) ⟨g1, l1, bare_set b1 hb', gs', ?_, fun s' r => k1 e s' ((Rs.set b1 hb').trans r)⟩
        show (s₁.gens.setIfInBounds gi gs')[gi]? = some gs'
        rw [Array.getElem?_setIfInBounds_self_of_lt z1]
  · obtain ⟨b1, e1⟩ := hp
    exact hN _ (hE _ _ e1 rfl (bare_set b1 rfl) fun b o q => hk b o q)
end
section
variable {prog : Program} {w : World} {A : Around} {gi : Nat} {a : Addr} {End Fin : Shared → Prop}
theorem all_loop (hh : A.handled = none) (hroom : A.depth < recursionLimit)
    (hE : ∀ s s' : Shared, End s → s'.os = s.os → AllBare s'.gens → (∀ b o, s.heap.get? b = some o → s'.heap.get? b = some o) → End s')
    (hF : ∀ s s' : Shared, Fin s → s'.os = s.os → AllBare s'.gens → (∀ b o, s.heap.get? b = some o → s'.heap.get? b = some o) → Fin s') :
    ∀ (n : Nat) (s : Shared), Waits prog w A.in1 gi a false End Fin n s →
      codeAny (model prog w) A (.builtin "all.loop" ⟨[.ref a], []⟩) (fun r s' => (r = .ok (.ret (.bool true)) ∧ End s') ∨ (r = .ok (.ret (.bool false)) ∧ Fin s')) s := by
  intro n
  induction n using Nat.strongRecOn with
  | ind n ih =>
    intro s W
    refine codeAny_builtin PySem.F.entry_all_loop ?_
    rw [Around.under_plainId PySem.F.plain_all_loop]
    show wpAny (model prog w) A.in1 (pyNext (.ref a) >>= _) _ _ s
    refine wpAny_bind (waits_next (A := A.in1) hh hroom hE hF W (fun s' e => ?_) (fun s' e => ?_) fun s' m hm W' => ?_)
    · exact wpAny_bind (wpAny_rule (wpAny_pure (.inl ⟨rfl, e⟩)))
    · refine wpAny_bind (wpAny_holding (wpAny_truthy_bool ?_))
      refine wpAny_bind (wpAny_letGo ?_)
      exact wpAny_bind (wpAny_rule (wpAny_pure (.inr ⟨rfl, e⟩)))
    · refine wpAny_bind (wpAny_holding (wpAny_truthy_bool ?_))
      refine wpAny_bind (wpAny_letGo ?_)
      exact wpAny_pure ⟨plainId_quiet PySem.F.plain_all_loop _, ih m hm s' W'⟩
end
/-! ### all(elt for target in iter) -/
/-- the reading: W by the turn and a measure; P: the def's table, which may grow -/
def tAll (P : Addr) (wi : TI) (g : TG) (te : TE) (vs : List Nat) : TE := fun σ H Q => wi σ H fun J H1 => GxR.TabG H1 P ∧ ∃ W : Nat → Nat → Hp → Prop, (∀ H2, GxR.Tabbed P H1 H2 → ∃ m, W 0 m H2) ∧ ∀ i m H, W i m H →
  (J.stop i H ∧ Q (.bl true) H) ∨ (J.go i H ∧ ∃ Nx : Hp → Prop, (∀ H', Nx H' → ∃ m', m' < m ∧ W (i + 1) m' H') ∧ ∀ x H', J.yld i H x H' → g x (wipe σ vs) H' fun σ2 H2 => wipe σ2 vs = wipe σ vs ∧
    te σ2 H2 fun y H3 => ∃ b, y = .bl b ∧ if b = true then Nx H3 else Q (.bl false) H3)
section
variable {X : Cx}
theorem pe_all {k : Nat} {c P : Addr} {elt tg iter : Expr} {scope : Scope} {own : List (Str × Nat)} {p pos gpos : Pos} {wi : TI} {g : TG} {te : TE}
    (hr : Room (k + 1) X.A) (TB : GxR.TabB X.base X.mg c P) (hcode : X.env.code = .ref c) (hc : X.calm = true) (hN : X.N.Nodup) (hG : Gl X "all") (hM : X.mg "all" = none) (hi : PI X tg iter wi) (ok : BlkOk X.N X.env.scope scope own) (gk : GnOk scope) (hdN : (".0" : Str) ∉ X.N)
    (hg : ∀ (s : Shared) (H : Hp) (A' : Around) (C : Addr) (cl : List (Str × Addr)) (code : Value) (fp : List Addr), PG (gX X s H A' (genEnv scope cl C code builtinsNs X.env) fp) tg g)
    (he : ∀ (s : Shared) (H : Hp) (A' : Around) (C : Addr) (cl : List (Str × Addr)) (code : Value) (fp : List Addr), Room k A' → PE (gX X s H A' (genEnv scope cl C code builtinsNs X.env) fp) elt te)
    (hs : ∀ v, genFold iter X.env v = pure v := by intro _; rfl)
    (hst : starEach [.GeneratorExp elt [⟨tg, iter, [], 0⟩] scope gpos] X.env = (false, eval (.GeneratorExp elt [⟨tg, iter, [], 0⟩] scope gpos) X.env) :: starEach [] X.env := by rfl) :
    PE X (.Call (.Name "all" p) [.GeneratorExp elt [⟨tg, iter, [], 0⟩] scope gpos] [] pos) (tAll P wi g te (own.map (·.2))) := by
  refine ⟨fun pins s σ H Q I h => ?_⟩
  have hh : X.A.handled = none := hr.hd
  refine wpAny_Call_Name_kw (ld_blt I hG hM PyProof.Rows.boot_all ?_)
  refine PyProof.Rows.callWith_builtin1 ?_ hst (by rfl)
  rw [hst]
  show wpAny _ _ (spliced ((false, eval (.GeneratorExp elt [⟨tg, iter, [], 0⟩] scope gpos) X.env) :: backTo pos (starEach [] X.env))) _ _ s
  have hfree : ∀ y ∈ scope.names, y.2 = .free → ∃ c, X.env.cells.lookup y.1 = some c := fun y hy e =>
    (ok.free y hy e).elim (fun k => I.ok.has _ (.inl k)) fun k => I.ok.has _ (.inr k)
  refine Calls.spliced_cons (wpAny_GeneratorExp_make gk.co (closure_ok hfree) gk.nocell gk.dot ok.kind (by have := hr.dp; omega) (thn (hi.run pins s σ H _ I h) fun xv s1 hx => thn hx fun itv s2 h2 => ?_) hs)
  obtain ⟨it, fp, tn, J, H2, e, I2, T, st2, f2, ⟨ps, hP, ht⟩, W, w0, turn⟩ := h2
  subst e
  refine ⟨I2.nolimit, ?_⟩
  have hPs : s2.heap.get? P = some { cls := .none, data := .fields ps } := I2.hok P _ hP
  have cd : PySem.W.CodeHd s2.heap c P := TB.code.keeps fun b u e => I2.bk b u e
  have sz2 : ∀ b ∈ fp, b < s2.heap.objs.size := fun b hb => by
    obtain ⟨o, e, _⟩ := T.obj _ _ st2 b hb
    exact Heap.lt_size e
  have nfP : ∀ b ∈ fp, b ≠ P := fun b hb z => by
    have q := (f2 b hb).1
    rw [z, hP] at q
    cases q
  -- behind the table
  have cont : ∀ (code : Value) (h3 : Heap) (tk : Nat) (more : Array Value), s2.heap.objs.size ≤ h3.objs.size → (∀ b o, b ≠ P → s2.heap.get? b = some o → h3.get? b = some o) → h3.get? P = some { cls := .none, data := .fields (ps ++ more) } → TriplesOk (ps ++ more).toList →
      wpAny (model X.prog X.w) X.A (builtinsFor X.env.globals X.env.builtins) (fun bi s4 => ∀ h', h'.Ns s4.heap.objs.size (fun y => if y = ".0" then some (.ref it) else none) → Heap.SameBut s4.heap.objs.size (s4.heap.push { cls := .type "frame", data := .dict #[] }) h' →
        wpAny (model X.prog X.w) X.A (spliced (backTo pos (starEach [] X.env))) (fun vs s5 => wpAny (model X.prog X.w) X.A (call (.builtin "all") (.ref h'.objs.size :: vs)) (EP X pins σ Q) X.xe s5) X.xe { s4 with
            gens := s4.gens.push (.fresh (.compStart (.GeneratorExp elt [⟨tg, iter, [], 0⟩] scope gpos) 0 (.ref it) .none (genEnv scope (cloFrom X.env.cells scope.names []) s4.heap.objs.size code bi X.env))), toks := s4.toks + 1 + 1 + 1,
            heap := h'.push { cls := .type "generator", data := .fields #[.int s4.gens.size 0, .str "<genexpr>" (s4.toks + 1), .str (X.env.qual ++ "<genexpr>") (s4.toks + 1 + 1)] } }) X.xe { s2 with heap := h3, toks := tk } := by
    intro code h3 tk more hle3 hk3 hP3 ht3
    have I3 : Inv X pins σ (upd H2 P (.tbl (ps ++ more))) { s2 with heap := h3, gens := s2.gens, drawn := s2.drawn, toks := tk } := GxR.inv_tab I2 hP hk3 hP3 I2.bare
    have tab3 : GxR.Tabbed P H2 (upd H2 P (.tbl (ps ++ more))) := ⟨⟨_, upd_same, ht3⟩, fun b hb => upd_ne hb⟩
    have st3 : tn 0 h3 := T.keep _ _ _ st2 fun b hb o e => hk3 b o (nfP b hb) e
    have f3 : ∀ b ∈ fp, FpOk X pins (upd H2 P (.tbl (ps ++ more))) b := fun b hb => ⟨by rw [upd_ne (nfP b hb)]; exact (f2 b hb).1, (f2 b hb).2⟩
    generalize upd H2 P (.tbl (ps ++ more)) = H3 at I3 tab3 f3
    obtain ⟨m0, hw0⟩ := w0 H3 tab3
    have sz3 : ∀ b ∈ fp, b < h3.objs.size := fun b hb => Nat.lt_of_lt_of_le (sz2 b hb) hle3
    have hs3 : ({ s2 with heap := h3, gens := s2.gens, drawn := s2.drawn, toks := tk } : Shared) = { s2 with heap := h3, toks := tk } := rfl
    rw [hs3] at I3
    generalize hsh : ({ s2 with heap := h3, toks := tk } : Shared) = s3 at I3 ⊢
    have eh : h3 = s3.heap := by rw [← hsh]
    rw [eh] at st3 sz3
    clear hsh hs3 eh hP3 hk3 hle3
    obtain ⟨bm, ob, e1, e2, e3, e4, e5, e6, e7, e8⟩ := TB.bm
    refine wpAny_builtinsFor (m := X.mg) (by rw [I3.ok.glob]; exact I3.mod.glob.keeps I3.bk) e1 e2 (I3.bk _ _ e5) e6 e7 e8 ?_
    intro h' hn' hs'
    refine Calls.spliced_nil ?_
    have hsz : h'.objs.size = s3.heap.objs.size + 1 := by rw [hs'.1, Heap.size_push]
    generalize hgo : ({ cls := .type "generator", data := .fields #[.int s3.gens.size 0, .str "<genexpr>" (s3.toks + 1), .str (X.env.qual ++ "<genexpr>") (s3.toks + 1 + 1)] } : Obj) = go
    have kp5 : ∀ b o, s3.heap.get? b = some o → (h'.push go).get? b = some o := fun b o e => Heap.get?_push_of_some _ (hs'.extBut b o (Nat.ne_of_lt (Heap.lt_size e)) (Heap.get?_push_of_some _ e))
    generalize hce : genEnv scope (cloFrom X.env.cells scope.names []) s3.heap.objs.size code builtinsNs X.env = ce
    have hhA : (X.A.in1.in1.over (.compLoop (.GeneratorExp elt [⟨tg, iter, [], 0⟩] scope gpos) 0 (.ref it) .none ce) []).handled = none := hh
    have hFr : (X.A.in1.in1.over (.compLoop (.GeneratorExp elt [⟨tg, iter, [], 0⟩] scope gpos) 0 (.ref it) .none ce) []).frames = some (ce :: X.stack) := by
      show pushEnvs [ce] (pushEnvs [] X.A.frames) = _
      rw [I3.ok.frames]
      rfl
    have hRm : Room k (X.A.in1.in1.over (.compLoop (.GeneratorExp elt [⟨tg, iter, [], 0⟩] scope gpos) 0 (.ref it) .none ce) []) := by
      have z1 := hr.dp
      have z2 := hr.un
      refine ⟨hhA, ?_, ?_⟩
      · show X.A.depth + 0 + 1 + 3 * k + 5 < recursionLimit
        omega
      · show X.A.units + 1 + 1 + 0 + 3 + 16 * k + 200 < cLine
        omega
    generalize hAg : X.A.in1.in1.over (.compLoop (.GeneratorExp elt [⟨tg, iter, [], 0⟩] scope gpos) 0 (.ref it) .none ce) [] = Ag at hhA hFr hRm
    have I5 : Inv (gX X s3 H3 Ag ce fp) [(h'.objs.size, go)] (wipe σ (own.map (·.2))) H3 { s3 with heap := h'.push go, gens := s3.gens.push (.fresh (.compStart (.GeneratorExp elt [⟨tg, iter, [], 0⟩] scope gpos) 0 (.ref it) .none ce)), toks := s3.toks + 1 + 1 + 1 } := by
      have q := gen_start (code := code) (A' := Ag) (h5 := h'.push go) (g5 := s3.gens.push (.fresh (.compStart (.GeneratorExp elt [⟨tg, iter, [], 0⟩] scope gpos) 0 (.ref it) .none ce))) (t5 := s3.toks + 1 + 1 + 1) (go := go) I3 ok gk hN (fun b hb => ⟨f3 b hb, sz3 b hb⟩) hhA (by rw [hce]; exact hFr) kp5 (hn'.push _)
        (fun x hx => if_neg hx) hdN (I3.bare.push rfl) (a := h'.objs.size) (by omega) (Heap.get?_push_size _ (by rw [← hgo]; rfl)) (by rw [← hgo]; intro v z; cases z)
      rw [hce] at q
      exact q
    have st5 : tn 0 (h'.push go) := T.keep _ _ _ st3 fun b _ o e => kp5 b o e
    have nfp : ∀ b ∈ fp, H3 b = none := fun b hb => (f3 b hb).1
    have pg := hg s3 H3 Ag s3.heap.objs.size (cloFrom X.env.cells scope.names []) code fp
    have pe := he s3 H3 Ag s3.heap.objs.size (cloFrom X.env.cells scope.names []) code fp hRm
    rw [hce] at pg pe
    have cCo : ce.scope.isCoroutine = false := by rw [← hce]; exact gk.co
    clear hn' hs' kp5 w0 hce
    -- back in the def's context
    have back : ∀ {σ' : L2.St} {H' : Hp} {s' : Shared} {pl : List (Addr × Obj)}, Inv (gX X s3 H3 Ag ce fp) pl σ' H' s' → Inv X pins σ H' s' := fun {σ' H' s' pl} J => I3.call' (ch := fp) J.os J.base J.hok J.bare fun b hb =>
      ⟨(f3 b hb).2.2.2.1, (f3 b hb).2.1, (f3 b hb).2.2.2.2.1, (f3 b hb).2.2.2.2.2⟩
    have stat : ∀ {σ' : L2.St} {H' : Hp} {s' : Shared}, Inv (gX X s3 H3 Ag ce fp) [(h'.objs.size, go)] σ' H' s' → (∀ b ∈ fp, H' b = none) → ∀ b ∈ fp, FpOk (gX X s3 H3 Ag ce fp) [(h'.objs.size, go)] H' b := fun {σ' H' s'} J hn b hb =>
      ⟨hn b hb, (J.ok.exf b hb).1, J.ok.exfs b hb, .inl hb, fun x c e => (J.ok.exf b hb).2 x c e, fun p hp => by
        have hp : p = (h'.objs.size, go) := by simpa using hp
        rw [hp]
        exact Nat.ne_of_gt (Nat.lt_trans (sz3 b hb) (by rw [hsz]; exact Nat.lt_succ_self _))⟩
    have gen : ∀ {σ' : L2.St} {H' : Hp} {s' : Shared} {pl : List (Addr × Obj)}, Inv (gX X s3 H3 Ag ce fp) ([(h'.objs.size, go)] ++ pl) σ' H' s' → s'.heap.IsGen h'.objs.size s3.gens.size := fun {σ' H' s' pl} J => by
      have q := (J.pin (h'.objs.size, go) (by simp)).1
      exact ⟨go, _, _, q, by rw [← hgo], by rw [← hgo], by rw [← hgo]⟩
    -- the turns
    have loop : ∀ (m n i : Nat) (s₀ s : Shared) (H : Hp), m < n → W i m H → Inv (gX X s3 H3 Ag ce fp) [(h'.objs.size, go)] (wipe σ (own.map (·.2))) H s → tn i s.heap → (∀ b ∈ fp, H b = none) → s3.gens.size + 1 ≤ s.gens.size →
        Seg (model X.prog X.w) X.A.in1.in1 (fun n s₀ r s₁ => r = .ok .next ∧ gR (fun s => ∃ H', Inv X pins σ H' s ∧ Q (.bl true) H') n s₀ s₁) (gY s3.gens.size h'.objs.size false fun s => ∃ H', Inv X pins σ H' s ∧ Q (.bl false) H') n s₀
          (.compLoop (.GeneratorExp elt [⟨tg, iter, [], 0⟩] scope gpos) 0 (.ref it) .none ce) ((model X.prog X.w).den (.compLoop (.GeneratorExp elt [⟨tg, iter, [], 0⟩] scope gpos) 0 (.ref it) .none ce)) [] s := by
      intro m
      induction m using Nat.strongRecOn with
      | ind m ih =>
        intro n i s₀ s H hmn w J st nf hz
        show Seg (model X.prog X.w) _ _ _ n s₀ _ ((compTurn (.GeneratorExp elt [⟨tg, iter, [], 0⟩] scope gpos) 0 (.ref it) .none ce).onRaise (leaving ce)) [] s
        rw [compTurn_gen]
        rw [Sem.onRaise_eq_wrap]
        refine seg_bind_wrap (wpAny_standAt (seg_bind_wrap ?_))
        rw [hAg]
        rcases turn i m H w with ⟨stp, qq⟩ | ⟨go', Nx, hNx, step⟩
        · refine thnF (T.done (gX X s3 H3 Ag ce fp) rfl rfl rfl hc i _ s _ H (fun _ _ => False) J (stat J nf) st stp) fun r s6 ⟨hr6, J6⟩ => ?_
          subst hr6
          exact seg_end (.ok .next) ⟨rfl, J6.bare, H, back J6, qq⟩
        · refine GenW.wpAny_gsz hz (thnF (T.item (gX X s3 H3 Ag ce fp) rfl rfl rfl hc i _ s _ H (fun _ _ => False) J (stat J nf) st go') fun r s6 ⟨u, hr6, h6⟩ hz6 => ?_)
          subst hr6
          refine seg_bind_wrap ?_
          rw [hAg]
          refine GenW.wpAny_gsz hz6 (thnF h6 fun _ s7 ⟨x, H7, J7, r7, y7, st7, n7⟩ hz7 => ?_)
          have J7' := J7.pinned (stat J7 n7) (T.obj _ _ st7)
          refine seg_bind_wrap ?_
          rw [hAg]
          refine GenW.wpAny_gsz hz7 (thnF (pg.run _ s7 _ H7 x u _ J7' r7 (step x H7 y7)) fun _ s8 ⟨σ8, H8, J8, hw8, q8⟩ hz8 => ?_)
          simp only [List.forIn_nil]
          refine seg_bind_wrap (wpAny_pure ?_)
          simp only [if_true]
          have hy : ∀ v, yieldOut ce v = yieldValue v := fun v => by simp only [yieldOut, cCo, Bool.false_eq_true, if_false]
          simp only [hy]
          rw [Sem.bind_eq_wrap', Sem.bind_eq_wrap']
          rw [Sem.wrap_wrap, Sem.wrap_wrap]
          refine seg_wrap ?_
          rw [hAg]
          refine GenW.wpAny_gsz hz8 (thnF (pe.run _ s8 σ8 H8 _ J8 q8) fun z s9 ⟨yv, H9, J9, r9, b, eb, qb⟩ hz9 => ?_)
          subst eb
          obtain rfl : z = Value.bool b := r9
          obtain ⟨n', rfl⟩ : ∃ n', n = n' + 1 := ⟨n - 1, by omega⟩
          refine seg_at (seg_yield rfl rfl rfl ⟨b, rfl, gen J9, J9.nolimit, J9.bare, hz9, fun e => ?_, fun e s' r => ?_⟩)
          · subst e
            exact ⟨H9, back J9, qb⟩
          · have e : b = true := by
              cases b with
              | true => rfl
              | false => exact absurd rfl e
            subst e
            rw [if_pos rfl] at qb
            obtain ⟨m', hm', w'⟩ := hNx H9 qb
            have pin' : ∀ b ∈ fp, ∀ o, s7.heap.get? b = some o → s9.heap.get? b = some o ∧ H9 b = none := fun b hb o e =>
              let z := J9.pin (b, o) (List.mem_append_right _ (List.mem_append_right _ (mem_pinsAt hb e)))
              ⟨z.1, z.2.1⟩
            have hl : (wipe σ (own.map (·.2))).length = σ8.length := by rw [← hw8, wipe_length]
            have K9 : Inv (gX X s3 H3 Ag ce fp) [(h'.objs.size, go)] (wipe σ (own.map (·.2))) H9 s9 := J9.unpinned.weak hl fun j v e => by
              rw [← hw8] at e
              exact (wipe_some e).1
            refine seg_again rfl (ih m' hm' n' (i + 1) s' s' H9 (by omega) w' (r.inv K9) ?_ (fun b hb => ?_) (Nat.le_trans hz9 r.size))
            · rw [r.heap]
              exact T.keep _ _ _ st7 fun b hb o e => (pin' b hb o e).1
            · obtain ⟨o, e, _⟩ := T.obj _ _ st7 b hb
              exact (pin' b hb o e).2
    have mono : ∀ (b : Bool) (s s' : Shared), (∃ H', Inv X pins σ H' s ∧ Q (.bl b) H') → s'.os = s.os → AllBare s'.gens → (∀ b o, s.heap.get? b = some o → s'.heap.get? b = some o) → ∃ H', Inv X pins σ H' s' ∧ Q (.bl b) H' := fun b s s' ⟨H', J, q⟩ h1 h2 h3 =>
      ⟨H', inv_gens (J.kept (t' := s'.toks) h3) rfl h1 h2, q⟩
    generalize hs5 : ({ s3 with heap := h'.push go, gens := s3.gens.push (.fresh (.compStart (.GeneratorExp elt [⟨tg, iter, [], 0⟩] scope gpos) 0 (.ref it) .none ce)), toks := s3.toks + 1 + 1 + 1 } : Shared) = s5 at I5
    have hg5 : s5.gens[s3.gens.size]? = some (.fresh (.compStart (.GeneratorExp elt [⟨tg, iter, [], 0⟩] scope gpos) 0 (.ref it) .none ce)) := by
      rw [← hs5]
      exact Array.getElem?_push_size ..
    have hz5 : s3.gens.size + 1 ≤ s5.gens.size := by
      rw [← hs5]
      exact Nat.le_of_eq (Array.size_push ..).symm
    have ht5 : tn 0 s5.heap := by rw [← hs5]; exact st5
    have wt : Waits X.prog X.w X.A.in1 s3.gens.size h'.objs.size false (fun s => ∃ H', Inv X pins σ H' s ∧ Q (.bl true) H') (fun s => ∃ H', Inv X pins σ H' s ∧ Q (.bl false) H') (m0 + 1) s5 := by
      refine ⟨gen (pl := []) I5, I5.nolimit, I5.bare, _, hg5, fun s' r => ⟨rfl, ?_⟩⟩
      have lp := loop m0 (m0 + 1) 0 s' s' H3 (Nat.lt_succ_self _) hw0 (r.inv I5) (by rw [r.heap]; exact ht5) nfp (Nat.le_trans hz5 r.size)
      show Seg (model X.prog X.w) _ _ _ _ s' _ ((compStart (.GeneratorExp elt [⟨tg, iter, [], 0⟩] scope gpos) 0 (.ref it) .none ce).onRaise (leaving ce)) [] s'
      unfold compStart
      rw [Sem.onRaise_eq_wrap]
      show Seg (model X.prog X.w) _ _ _ _ s' _ ((ask >>= _).wrap _ _ _ _) [] s'
      refine seg_bind_wrap (wpAny_askSetting ?_)
      have ts : tn 0 s'.heap := by rw [r.heap]; exact ht5
      split
      · exact seg_again rfl lp
      · first
          | exact seg_bind_wrap (wpAny_rule (seg_bind_wrap (wpAny_standAt (seg_bind_wrap (T.self _ 0 s' _ _ ts (seg_again rfl lp))))))
          | (refine seg_bind_wrap (wpAny_rule ?_); show Seg (model X.prog X.w) _ _ _ _ s' _ ((standAt iter.pos >>= _).wrap _ _ _ _) [] s'; exact seg_bind_wrap (wpAny_standAt (seg_bind_wrap (T.self _ 0 s' _ _ ts (seg_again rfl lp)))))
    refine call_function_tree PySem.F.kind_all PySem.F.plain_all PySem.F.entry_all (PySem.F.args_all1 _) ?_
    unfold Builtin.«all»
    refine wpAny_bind (m := oneArg "all" _) (wpAny_pure ?_)
    refine wpAny_bind (wpAny_pyIter_gen (gen (pl := []) I5) ?_)
    refine wpAny_pure ⟨plainId_quiet PySem.F.plain_all_loop _, codeAny_mono (all_loop hh hr.depth (mono true) (mono false) (m0 + 1) s5 wt) fun r s' hq => ?_⟩
    rcases hq with ⟨rfl, H', J, q⟩ | ⟨rfl, H', J, q⟩
    · exact ⟨.bl true, H', J, rfl, q⟩
    · exact ⟨.bl false, H', J, rfl, q⟩
  cases hf : codeAmong gpos ps.toList with
  | none =>
    refine wpAny_genexprCodeX hcode (cd.code hPs ht) (cd.tab hPs) hf fun c' h' tk hx hge hlt hco' _ htab' _ => ?_
    obtain ⟨o1, vs, f1, tf, fl, tg1, inF, tx, tt, op, _, _, _, _, _, _, _, _, _, htr, _⟩ := hco'
    exact cont _ h' tk _ (Nat.le_trans hge (Nat.le_of_lt hlt)) (fun b o hb e => hx b o hb e) htab'.2 htr
  | some cv =>
    refine wpAny_genexprCode_hit hcode (cd.code hPs ht) hf ?_
    have := cont cv s2.heap s2.toks #[] (Nat.le_refl _) (fun _ _ _ e => e) (by rw [hPs]; simp) (by simpa using ht)
    exact this
end
def topS (i : Nat) : Stmt := PySem.Challenge.pw_friendfoe_k06_refusals_made.main.body.getD i (.Pass ⟨0, 0, 0, 0⟩)
abbrev s_is_whole : Stmt := topS 9
abbrev N_is_whole : List Str := ["thing"]
theorem sc_is_whole : FnScope N_is_whole ["thing"] (defScope s_is_whole) := ⟨rfl, rfl, rfl, by decide +kernel, rfl, by decide +kernel, by decide +kernel⟩
abbrev s_is_whole_from : Stmt := topS 10
abbrev N_is_whole_from : List Str := ["low", "thing"]
theorem sc_is_whole_from : FnScope N_is_whole_from ["low", "thing"] (defScope s_is_whole_from) := ⟨rfl, rfl, rfl, by decide +kernel, rfl, by decide +kernel, by decide +kernel⟩
abbrev s_is_whole_below : Stmt := topS 11
abbrev N_is_whole_below : List Str := ["limit", "thing"]
theorem sc_is_whole_below : FnScope N_is_whole_below ["limit", "thing"] (defScope s_is_whole_below) := ⟨rfl, rfl, rfl, by decide +kernel, rfl, by decide +kernel, by decide +kernel⟩
abbrev s_are_unlike_places : Stmt := topS 12
abbrev N_are_unlike_places : List Str := ["many", "one", "other"]
theorem sc_are_unlike_places : FnScope N_are_unlike_places ["many", "one", "other"] (defScope s_are_unlike_places) := ⟨rfl, rfl, rfl, by decide +kernel, rfl, by decide +kernel, by decide +kernel⟩
abbrev s_is_tuple_of : Stmt := topS 13
abbrev N_is_tuple_of : List Str := ["length", "thing"]
theorem sc_is_tuple_of : FnScope N_is_tuple_of ["length", "thing"] (defScope s_is_tuple_of) := ⟨rfl, rfl, rfl, by decide +kernel, rfl, by decide +kernel, by decide +kernel⟩
abbrev s_is_tie : Stmt := topS 16
abbrev N_is_tie : List Str := ["many", "thing", "one", "other", "kind"]
theorem sc_is_tie : FnScope N_is_tie ["many", "thing"] (defScope s_is_tie) := ⟨rfl, rfl, rfl, by decide +kernel, rfl, by decide +kernel, by decide +kernel⟩
abbrev s_is_web : Stmt := topS 17
abbrev N_is_web : List Str := ["thing", "many", "ties", "tie"]
theorem sc_is_web : FnScope N_is_web ["thing"] (defScope s_is_web) := ⟨rfl, rfl, rfl, by decide +kernel, rfl, by decide +kernel, by decide +kernel⟩
abbrev s_is_weights : Stmt := topS 18
abbrev N_is_weights : List Str := ["web", "thing", "weight"]
theorem sc_is_weights : FnScope N_is_weights ["web", "thing"] (defScope s_is_weights) := ⟨rfl, rfl, rfl, by decide +kernel, rfl, by decide +kernel, by decide +kernel⟩
abbrev s_writes_number : Stmt := topS 22
abbrev N_writes_number : List Str := ["word", "sign"]
theorem sc_writes_number : FnScope N_writes_number ["word"] (defScope s_writes_number) := ⟨rfl, rfl, rfl, by decide +kernel, rfl, by decide +kernel, by decide +kernel⟩
abbrev s_read_number : Stmt := topS 23
abbrev N_read_number : List Str := ["word"]
theorem sc_read_number : FnScope N_read_number ["word"] (defScope s_read_number) := ⟨rfl, rfl, rfl, by decide +kernel, rfl, by decide +kernel, by decide +kernel⟩
abbrev s_read_many : Stmt := topS 24
abbrev N_read_many : List Str := ["line", "words"]
theorem sc_read_many : FnScope N_read_many ["line"] (defScope s_read_many) := ⟨rfl, rfl, rfl, by decide +kernel, rfl, by decide +kernel, by decide +kernel⟩
abbrev s_read_weights : Stmt := topS 25
abbrev N_read_weights : List Str := ["rows", "words"]
theorem sc_read_weights : FnScope N_read_weights ["rows"] (defScope s_read_weights) := ⟨rfl, rfl, rfl, by decide +kernel, rfl, by decide +kernel, by decide +kernel⟩
abbrev s_read_web : Stmt := topS 26
abbrev N_read_web : List Str := ["text", "first", "lines", "many", "rows", "line", "weights", "web", "words"]
theorem sc_read_web : FnScope N_read_web ["text"] (defScope s_read_web) := ⟨rfl, rfl, rfl, by decide +kernel, rfl, by decide +kernel, by decide +kernel⟩
abbrev s_l_deck : Stmt := topS 28
abbrev N_l_deck : List Str := ["_law_script"]
theorem sc_l_deck : FnScope N_l_deck ["_law_script"] (defScope s_l_deck) := ⟨rfl, rfl, rfl, by decide +kernel, rfl, by decide +kernel, by decide +kernel⟩
abbrev s_l_draw : Stmt := topS 29
abbrev N_l_draw : List Str := ["_law_deck_here", "_law_many", "_law_cell", "_law_number"]
theorem sc_l_draw : FnScope N_l_draw ["_law_deck_here", "_law_many"] (defScope s_l_draw) := ⟨rfl, rfl, rfl, by decide +kernel, rfl, by decide +kernel, by decide +kernel⟩
abbrev s_l_kinds : Stmt := topS 30
abbrev N_l_kinds : List Str := ["_law_e", "_law_some"]
theorem sc_l_kinds : FnScope N_l_kinds ["_law_e"] (defScope s_l_kinds) := ⟨rfl, rfl, rfl, by decide +kernel, rfl, by decide +kernel, by decide +kernel⟩
abbrev s_l_word : Stmt := topS 31
abbrev N_l_word : List Str := ["_law_deck_here", "_law_letters", "_law_k"]
theorem sc_l_word : FnScope N_l_word ["_law_deck_here"] (defScope s_l_word) := ⟨rfl, rfl, rfl, by decide +kernel, rfl, by decide +kernel, by decide +kernel⟩
abbrev s_l_raised : Stmt := topS 32
abbrev N_l_raised : List Str := ["_law_which", "_law_text", "_law_kinds_here", "_law_e"]
theorem sc_l_raised : FnScope N_l_raised ["_law_which", "_law_text"] (defScope s_l_raised) := ⟨rfl, rfl, rfl, by decide +kernel, rfl, by decide +kernel, by decide +kernel⟩
abbrev s_l_of_text : Stmt := topS 33
abbrev N_l_of_text : List Str := ["_law_text", "_law_kinds_here", "_law_e"]
theorem sc_l_of_text : FnScope N_l_of_text ["_law_text"] (defScope s_l_of_text) := ⟨rfl, rfl, rfl, by decide +kernel, rfl, by decide +kernel, by decide +kernel⟩
abbrev s_law : Stmt := topS 34
abbrev N_law : List Str := ["_law_script", "_law_deck_here", "_law_turn", "_law_which", "_law_due", "_law_k"]
theorem sc_law : FnScope N_law ["_law_script"] (defScope s_law) := ⟨rfl, rfl, rfl, by decide +kernel, rfl, by decide +kernel, by decide +kernel⟩
/-! ### own rules: a list against [] -/
section
variable {X : Cx}
def rEqE (K : PySem.W.Frag) : R2 := fun x y H Q => ∃ (a b : Addr) (xs : List V), x = .ref a ∧ y = .ref b ∧ SqL K H a xs ∧ SqL K H b [] ∧ Q (.bl xs.isEmpty) H
def rNeE (K : PySem.W.Frag) : R2 := fun x y H Q => ∃ (a b : Addr) (xs : List V), x = .ref a ∧ y = .ref b ∧ SqL K H a xs ∧ SqL K H b [] ∧ Q (.bl (!xs.isEmpty)) H
theorem op_eqE (hu : X.A.units < cLine) : OpR X (compareOp .Eq) (rEqE X.K) := by
  intro pins s σ H x y v u Q I rx ry h
  obtain ⟨a, b, xs, rfl, rfl, ha, hb, q⟩ := h
  obtain rfl : v = Value.ref a := rx
  obtain rfl : u = Value.ref b := ry
  obtain ⟨its, r1, p1, _⟩ := I.list ha
  obtain ⟨its2, r2, p2, _⟩ := I.list hb
  cases r2
  cases xs with
  | nil =>
    cases r1
    exact SeqAt.eq_listAt (e := fun _ => true) p1.isList p2.isList rfl hu (fun j h1 _ => absurd h1 (by simp)) ⟨.bl true, H, I, rfl, q⟩
  | cons z zs =>
    cases r1 with
    | cons r t => exact SeqAt.eq_list_lengthsAt p1.isList p2.isList (by simp) hu ⟨.bl false, H, I, rfl, q⟩
theorem op_neE (hu : X.A.units < cLine) : OpR X (compareOp .NotEq) (rNeE X.K) := by
  intro pins s σ H x y v u Q I rx ry h
  obtain ⟨a, b, xs, rfl, rfl, ha, hb, q⟩ := h
  obtain rfl : v = Value.ref a := rx
  obtain rfl : u = Value.ref b := ry
  obtain ⟨its, r1, p1, _⟩ := I.list ha
  obtain ⟨its2, r2, p2, _⟩ := I.list hb
  cases r2
  cases xs with
  | nil =>
    cases r1
    exact SeqAt.RcNeAt.lists (e := fun _ => true) p1.isList p2.isList rfl hu (fun j h1 _ => absurd h1 (by simp)) _ _ _ _ ⟨.bl false, H, I, rfl, q⟩
  | cons z zs =>
    cases r1 with
    | cons r t => exact SeqAt.RcNeAt.lists_lengths p1.isList p2.isList (by simp) hu _ _ _ _ ⟨.bl true, H, I, rfl, q⟩
end
section
variable {P : Program} {w : World} {K : PySem.W.Frag} {mg : Str → Option Value} {base : Heap}
/-! ### a draw -/
theorem ok_l_draw {f : Addr} {fd : FuncData} (F : Fun K "_law_draw" "_law_draw" s_l_draw f fd) : FnOk P w K mg base CX0 1 f fd ["_law_deck_here", "_law_many"] spDraw := by
  refine F.ok sc_l_draw (fun vs H Q E h => ?_) (fun cdv A outer s H vs Q E hr h => ?_)
  · obtain ⟨d, c, m, rfl, _⟩ := h
    rfl
  · obtain ⟨d, c, m, rfl, hD, hm, hb, q⟩ := h
    have ndc := hD.ne
    obtain ⟨cells, st, n, hd, hc, hl⟩ := hD
    refine ⟨_, (pss_cons (ps_asg (pe_op op_add (pe_ix ix_list (pv 0) pe_int (fun _ _ => rfl)) pe_int) (pg_sub (pv 0) pe_int set_list))
      (pss_cons (ps_set (i := 2) sc_l_draw.nd rfl (.inl rfl) (pe_ix ix_list (pv 0) pe_int (fun _ _ => rfl)))
      (Evl.pss_cut (ps_if (pt_cmpR (op_neE hr.units0) (pe_ix ix_list (pv 0) pe_int (fun _ _ => rfl)) (pe_lst pa_nil) (nomark _))
        (pss_cons (ps_set (i := 2) sc_l_draw.nd rfl (.inl rfl) (pe_bm0 PySem.F.plainAttrs_list PySem.F.slot_list_pop PySem.F.type_list_pop mt_pop (pe_ix ix_list (pv 0) pe_int (fun _ _ => rfl))))
        (pss_one (ps_if (pt_cmpR op_ge (pv 2) (pe_op op_pow pe_int pe_int) (nomark _))
          (pss_cons (ps_expr (pe_bm PySem.F.plainAttrs_list PySem.F.slot_list_append PySem.F.type_list_append mt_append (pe_ix ix_list (pv 0) pe_int (fun _ _ => rfl)) (pa_cons (pe_op op_fdivW (pv 2) (pv 1)) pa_nil)))
          (pss_one (ps_ret (pe_op op_mod (pv 2) (pv 1)))))
          pss_nil)))
        pss_nil)
      (Evl.pss_cut (ps_set (i := 3) sc_l_draw.nd rfl (.inl rfl) (pe_op op_mod (pe_op op_mul (pe_op op_add (pe_op op_add (pe_op op_mod (pv 2) pe_int) (pe_op op_mul pe_int (pe_ix ix_list (pv 0) pe_int (fun _ _ => rfl)))) pe_int) pe_int) pe_int))
      (Evl.pss_cut (ps_set (i := 3) sc_l_draw.nd rfl (.inl rfl) (pe_op op_mod (pe_op op_add (pe_op op_add (pe_op op_mul (pv 3) (pv 3)) (pe_op op_mul pe_int (pv 3))) (pe_ix ix_list (pv 0) pe_int (fun _ _ => rfl))) pe_int))
      (pss_one (ps_ret (pe_op op_mod (pe_op op_fdiv (pe_op op_mod (pe_op op_mul (pv 3) (pv 3)) pe_int) pe_int) (pv 1))))))))), ?_⟩
    -- deck[2] = deck[2] + 1
    refine ⟨.ref d, rfl, d, _, 2, .int n, rfl, rfl, SqL.of hd, rfl, n, 1, rfl, rfl, .ref d, rfl, d, _, 2, 2, rfl, rfl, hd, rfl, ?_⟩
    generalize hH1 : upd H d (.lst ([V.ref c, .int st, .int n].set 2 (.int (n + 1)))) = H1
    have hd1 : H1 d = some (.lst [.ref c, .int st, .int (n + 1)]) := by rw [← hH1]; exact upd_same
    have hc1 : H1 c = some (.lst (cells.map V.int)) := by rw [← hH1, upd_ne (Ne.symm ndc)]; exact hc
    have k1 : Kp d c H H1 := by rw [← hH1]; exact Kp.at_d
    clear hH1
    -- cell = deck[1]
    refine ⟨.ref d, rfl, d, _, 1, .int st, rfl, rfl, SqL.of hd1, rfl, ?_⟩
    -- if deck[0] != []
    refine ⟨fun σ' H3 => ∃ x : Int, σ' = [some (.ref d), some (.int m), some (.int x), none] ∧ H3 d = some (.lst [.ref c, .int st, .int (n + 1)]) ∧ (∃ cs : List Int, H3 c = some (.lst (cs.map V.int)) ∧ cs.length ≤ 63) ∧ Kp d c H H3, ?_, ?_⟩
    · refine ⟨.ref d, rfl, d, _, 0, .ref c, rfl, rfl, SqL.of hd1, rfl, Nat.zero_le _, fun p np => ?_⟩
      have hd2 : (upd H1 p (.lst [])) d = some (.lst [.ref c, .int st, .int (n + 1)]) := by rw [upd_ne (ne_of_none hd1 np)]; exact hd1
      have hc2 : (upd H1 p (.lst [])) c = some (.lst (cells.map V.int)) := by rw [upd_ne (ne_of_none hc1 np)]; exact hc1
      have k2 : Kp d c H (upd H1 p (.lst [])) := k1.trans (Kp.new np)
      refine ⟨c, p, cells.map V.int, rfl, rfl, SqL.of hc2, SqL.of upd_same, _, rfl, ?_⟩
      generalize upd H1 p (.lst []) = H2 at hd2 hc2 k2
      cases hcs : cells with
      | nil =>
        subst hcs
        exact ⟨st, rfl, hd2, ⟨[], hc2, by simp⟩, k2⟩
      | cons z zs =>
        rw [hcs] at hc2 hl
        obtain ⟨ys, y, e⟩ : ∃ (ys : List Int) (y : Int), z :: zs = ys ++ [y] := ⟨(z :: zs).dropLast, (z :: zs).getLast (by simp), (List.dropLast_concat_getLast (by simp)).symm⟩
        rw [e] at hc2 hl
        have hl2 : ys.length ≤ 62 := by rw [List.length_append] at hl; simp at hl; omega
        -- cell = deck[0].pop()
        refine ⟨.ref d, rfl, d, _, 0, .ref c, rfl, rfl, SqL.of hd2, rfl, .inl ⟨rfl, _, SqL.of hc2⟩, c, _, .int y, rfl, rfl, hc2, by simp, ?_⟩
        have e3 : ((ys ++ [y]).map V.int).dropLast = ys.map V.int := by simp
        rw [e3]
        have hd3 : (upd H2 c (.lst (ys.map V.int))) d = some (.lst [.ref c, .int st, .int (n + 1)]) := by rw [upd_ne ndc]; exact hd2
        have hc3 : (upd H2 c (.lst (ys.map V.int))) c = some (.lst (ys.map V.int)) := upd_same
        have k3 : Kp d c H (upd H2 c (.lst (ys.map V.int))) := k2.trans Kp.at_c
        generalize upd H2 c (.lst (ys.map V.int)) = H3 at hd3 hc3 k3
        -- if cell >= 10 ** 18
        refine ⟨.int y, rfl, 10, 18, rfl, rfl, ⟨by decide, by decide, by decide⟩, y, _, rfl, rfl, _, rfl, ?_⟩
        refine ite2 (fun _ => ?_) (fun _ => ?_)
        · refine ⟨.ref d, rfl, d, _, 0, .ref c, rfl, rfl, SqL.of hd3, rfl, .inl ⟨rfl, _, SqL.of hc3⟩, .int y, rfl, .int m, rfl, y, m, rfl, rfl, wide_div hm hb (by decide) (by decide), c, _, _, rfl, rfl, hc3, ?_, ?_⟩
          · rw [List.length_map]
            exact small1000 (by omega)
          · refine ⟨.int y, rfl, .int m, rfl, y, m, rfl, rfl, hm, ?_⟩
            refine q _ _ (mod_rng hm).1 (mod_rng hm).2 ⟨ys ++ [y / m], st, n + 1, ?_, ?_, ?_⟩ (k3.trans Kp.at_c)
            · rw [upd_ne ndc]
              exact hd3
            · rw [upd_same, List.map_append]
              rfl
            · rw [List.length_append]
              show ys.length + 1 ≤ 63
              omega
        · exact ⟨y, rfl, hd3, ⟨ys, hc3, by omega⟩, k3⟩
    · rintro σ' H3 ⟨x, rfl, hd3, ⟨cs, hc3, hl3⟩, k3⟩
      refine ⟨fun σ' H4 => ∃ N : Int, σ' = [some (.ref d), some (.int m), some (.int x), some (.int N)] ∧ 0 ≤ N ∧ N < 2147483647 ∧ H4 = H3, ?_, ?_⟩
      · exact ⟨.int x, rfl, x, 2147483629, rfl, rfl, show (0 : Int) < 2147483629 by decide, .ref d, rfl, d, _, 2, .int (n + 1), rfl, rfl, SqL.of hd3, rfl, 7919, n + 1, rfl, rfl, .inl ⟨by decide, by decide⟩, _, _, rfl, rfl, _, 11, rfl, rfl, _, 48271, rfl, rfl, .inr ⟨by decide, by decide⟩, _, 2147483647, rfl, rfl, show (0 : Int) < 2147483647 by decide, _, rfl, (mod_rng (by decide)).1, (mod_rng (by decide)).2, rfl⟩
      rintro σ' H4 ⟨N, rfl, hN0, hN1, rfl⟩
      refine ⟨fun σ' H5 => ∃ M : Int, σ' = [some (.ref d), some (.int m), some (.int x), some (.int M)] ∧ 0 ≤ M ∧ M < 2147483587 ∧ H5 = H4, ?_, ?_⟩
      · exact ⟨.int N, rfl, .int N, rfl, N, N, rfl, rfl, .inl ⟨by omega, by omega⟩, .int N, rfl, 69621, N, rfl, rfl, .inl ⟨by decide, by decide⟩, _, _, rfl, rfl, .ref d, rfl, d, _, 2, .int (n + 1), rfl, rfl, SqL.of hd3, rfl, _, _, rfl, rfl, _, 2147483587, rfl, rfl, show (0 : Int) < 2147483587 by decide, _, rfl, (mod_rng (by decide)).1, (mod_rng (by decide)).2, rfl⟩
      rintro σ' H5 ⟨M, rfl, hM0, hM1, rfl⟩
      refine ⟨.int M, rfl, .int M, rfl, M, M, rfl, rfl, .inl ⟨by omega, by omega⟩, _, 2147483563, rfl, rfl, show (0 : Int) < 2147483563 by decide, _, 32, rfl, rfl, ⟨by decide, by decide⟩, .int m, rfl, _, m, rfl, rfl, hm, ?_⟩
      exact q _ _ (mod_rng hm).1 (mod_rng hm).2 ⟨cs, st, n + 1, hd3, hc3, hl3⟩ k3
/-! ### the deck is laid -/
theorem cutV_ints (ns : List Int) (lo hi : Option Int) : ∃ ms : List Int, cutV (ns.map V.int) lo hi = ms.map V.int ∧ ms.length ≤ ns.length := by
  refine ⟨(ns.drop (HT.sIx ns.length 0 lo)).take (HT.sIx ns.length ns.length hi - HT.sIx ns.length 0 lo), ?_, ?_⟩
  · unfold cutV
    rw [List.length_map, List.map_take, List.map_drop]
  · rw [List.length_take, List.length_drop]
    omega
def spDeck (K : PySem.W.Frag) : Sp := fun vs H Q _ => ∃ (a : Addr) (ns : List Int), vs = [.ref a] ∧ SqL K H a (ns.map V.int) ∧ ns.length ≤ 63 ∧
  ∀ d c H', Same H H' → H d = none → H c = none → Deck H' d c → Q (.ref d) H'
theorem ok_l_deck {f : Addr} {fd : FuncData} (F : Fun K "_law_deck" "_law_deck" s_l_deck f fd) (M : Free mg) : FnOk P w K mg base CX0 1 f fd ["_law_script"] (spDeck K) := by
  refine F.ok sc_l_deck (fun vs H Q E h => ?_) (fun cdv A outer s H vs Q E hr h => ?_)
  · obtain ⟨a, ns, rfl, _⟩ := h
    rfl
  · obtain ⟨a, ns, rfl, hS, hl, q⟩ := h
    refine ⟨_, (pss_one (ps_ret (pe_lst (pa_cons (pe_revL (pe_callTy call_list_of (by rfl) M.list (by decide +kernel) (pa_cons (pe_slice sl_list (pv 0) po_none (po_some pe_int)) pa_nil))) (pa_cons (pe_op op_add (pe_callB (cr_sum rfl) (by rfl) M.sum (by decide +kernel) (pa_cons (pe_slice sl_list (pv 0) po_none (po_some pe_int)) pa_nil)) (pe_op op_mul pe_int (pe_callB call_len_seq (by rfl) M.len PySem.boot_len (pa_cons (pe_slice sl_list (pv 0) po_none (po_some pe_int)) pa_nil)))) (pa_cons pe_int pa_nil)))))), ?_⟩
    obtain ⟨ms, em, lm⟩ := cutV_ints ns none (some 63)
    refine ⟨.ref a, rfl, 63, rfl, a, _, rfl, hS, fun p1 n1 => ⟨p1, _, rfl, .inl (SqL.of upd_same), fun p2 n2 => ⟨p2, _, rfl, SqL.of upd_same, fun p3 n3 => ?_⟩⟩⟩
    rw [em] at n2 n3 ⊢
    have s1 : Same H (upd H p1 (.lst (ms.map V.int))) := same_new n1
    have s2 := s1.trans (same_new (o := .lst (ms.map V.int)) n2)
    have s3 := s2.trans (same_new (o := .lst (ms.map V.int).reverse) n3)
    have h3 : (upd (upd (upd H p1 (.lst (ms.map V.int))) p2 (.lst (ms.map V.int))) p3 (.lst (ms.map V.int).reverse)) p3 = some (.lst (ms.reverse.map V.int)) := by
      rw [upd_same, List.map_reverse]
    have f3 : H p3 = none := s2.free n3
    generalize upd (upd (upd H p1 (.lst (ms.map V.int))) p2 (.lst (ms.map V.int))) p3 (.lst (ms.map V.int).reverse) = H3 at s3 h3
    refine ⟨.ref a, rfl, 63, rfl, a, _, rfl, s3.seq hS, fun p4 n4 => ⟨p4, ms, rfl, SqL.of (by rw [upd_same, em]), .ref a, rfl, 63, rfl, a, _, rfl, (s3.trans (same_new n4)).seq hS, fun p5 n5 => ?_⟩⟩
    have s5 := (s3.trans (same_new (o := .lst (cutV (ns.map V.int) none (some 63))) n4)).trans (same_new (o := .lst (cutV (ns.map V.int) none (some 63))) n5)
    have h5 := same_new (o := .lst (cutV (ns.map V.int) none (some 63))) n5 _ _ (same_new (o := .lst (cutV (ns.map V.int) none (some 63))) n4 _ _ h3)
    refine ⟨p5, _, rfl, .inl (SqL.of upd_same), 31, _, rfl, rfl, .inl ⟨by decide, by decide⟩, _, _, rfl, rfl, (by show 3 ≤ sizeLine; decide), fun d nd => ?_⟩
    refine q d p3 _ (s5.trans (same_new nd)) (s5.free nd) f3 ⟨ms.reverse, _, 0, upd_same, ?_, ?_⟩
    · rw [upd_ne (ne_of_none h5 nd)]
      exact h5
    · rw [List.length_reverse]
      omega
/-! ### webs -/
structure Tie where
  one : Int
  other : Int
  foe : Bool
def kindS : Bool → Str
  | true => "foe"
  | false => "friend"
def TieV (H : Hp) (v : V) (t : Tie) : Prop := ∃ a, v = .ref a ∧ H a = some (.tup [.int t.one, .int t.other, .str (kindS t.foe)])
def TieOk (n : Int) (t : Tie) : Prop := 0 ≤ t.one ∧ t.one < n ∧ 0 ≤ t.other ∧ t.other < n ∧ t.one ≠ t.other
def WebAt (H : Hp) (v : V) (n : Int) (ts : List Tie) : Prop := ∃ a b vs, v = .ref a ∧ H a = some (.tup [.int n, .ref b]) ∧ H b = some (.tup vs) ∧ Paired (TieV H) vs ts
structure WebOk (n : Int) (ts : List Tie) : Prop where
  lo : 1 ≤ n
  hi : n ≤ 40
  few : ts.length ≤ 120
  ok : ∀ t ∈ ts, TieOk n t
/-- tuples stay -/
def Tk (H H' : Hp) : Prop := ∀ b xs, H b = some (.tup xs) → H' b = some (.tup xs)
theorem Tk.trans {H H1 H2 : Hp} (a : Tk H H1) (b : Tk H1 H2) : Tk H H2 := fun x xs h => b x xs (a x xs h)
theorem Same.tk {H H' : Hp} (s : Same H H') : Tk H H' := fun b xs h => s b _ h
theorem tk_lst {H : Hp} {l : Addr} {xs ys : List V} (h : H l = some (.lst xs)) : Tk H (upd H l (.lst ys)) := fun b zs e => by
  rw [upd_ne (ne_of e h (by intro z; cases z))]
  exact e
theorem TieV.tk {H H' : Hp} (k : Tk H H') {v : V} {t : Tie} (h : TieV H v t) : TieV H' v t := by
  obtain ⟨a, rfl, e⟩ := h
  exact ⟨a, rfl, k _ _ e⟩
theorem ties_tk {H H' : Hp} (k : Tk H H') {vs : List V} {ts : List Tie} (h : Paired (TieV H) vs ts) : Paired (TieV H') vs ts := Paired.mono (fun _ _ x => x.tk k) h
theorem WebAt.tk {H H' : Hp} (k : Tk H H') {v : V} {n : Int} {ts : List Tie} (h : WebAt H v n ts) : WebAt H' v n ts := by
  obtain ⟨a, b, vs, rfl, h1, h2, h3⟩ := h
  exact ⟨a, b, vs, rfl, k _ _ h1, k _ _ h2, ties_tk k h3⟩
theorem Kp.tk {d c : Addr} {H H' : Hp} (k : Kp d c H H') (D : Deck H d c) : Tk H H' := fun b xs e => by
  obtain ⟨cells, st, n, h1, h2, _⟩ := D
  exact k b _ (ne_of e h1 (by intro z; cases z)) (ne_of e h2 (by intro z; cases z)) e
theorem Kp.mut {d c l : Addr} {H H' : Hp} {o : HO} (k : Kp d c H H') (h : H l = none) : Kp d c H (upd H' l o) := fun b u h1 h2 e => by
  rw [upd_ne (ne_of_none e h)]
  exact k b u h1 h2 e
theorem Deck.mut {H : Hp} {d c l : Addr} {o : HO} (D : Deck H d c) (h1 : l ≠ d) (h2 : l ≠ c) : Deck (upd H l o) d c := by
  obtain ⟨cells, st, n, e1, e2, e3⟩ := D
  exact ⟨cells, st, n, by rw [upd_ne (Ne.symm h1)]; exact e1, by rw [upd_ne (Ne.symm h2)]; exact e2, e3⟩
theorem Deck.new {H : Hp} {d c l : Addr} {o : HO} (D : Deck H d c) (h : H l = none) : Deck (upd H l o) d c := D.same (same_new h)
theorem Deck.ned {H : Hp} {d c l : Addr} (D : Deck H d c) (h : H l = none) : l ≠ d ∧ l ≠ c := by
  obtain ⟨cells, st, n, e1, e2, e3⟩ := D
  exact ⟨(ne_of_none e1 h).symm, (ne_of_none e2 h).symm⟩
theorem Paired.at {α β : Type} {F : α → β → Prop} : ∀ {l : List α} {m : List β} {i : Nat} {a : α}, Paired F l m → l[i]? = some a → ∃ b, m[i]? = some b ∧ F a b
  | _, _, _, _, .nil, e => by simp at e
  | _, _, 0, _, .cons r _, e => by simp at e; subst e; exact ⟨_, rfl, r⟩
  | _, _, i + 1, a, .cons _ t, e => by
    obtain ⟨u, h1, h2⟩ := Paired.at (i := i) (a := a) t (by simpa using e)
    exact ⟨u, by simpa using h1, h2⟩
theorem Paired.at' {α β : Type} {F : α → β → Prop} : ∀ {l : List α} {m : List β} {i : Nat} {b : β}, Paired F l m → m[i]? = some b → ∃ a, l[i]? = some a ∧ F a b
  | _, _, _, _, .nil, e => by simp at e
  | _, _, 0, _, .cons r _, e => by simp at e; subst e; exact ⟨_, rfl, r⟩
  | _, _, i + 1, b, .cons _ t, e => by
    obtain ⟨u, h1, h2⟩ := Paired.at' (i := i) (b := b) t (by simpa using e)
    exact ⟨u, by simpa using h1, h2⟩
theorem getI {α : Type} {xs : List α} {i : Int} (h0 : 0 ≤ i) (h1 : i < (xs.length : Int)) : ∃ v, atI xs i = some v ∧ xs[i.toNat]? = some v := by
  obtain ⟨j, rfl⟩ : ∃ j : Nat, i = (j : Int) := ⟨i.toNat, by omega⟩
  have h2 : j < xs.length := by omega
  exact ⟨xs[j], atI_nat (List.getElem?_eq_getElem h2), by rw [Int.toNat_natCast]; exact List.getElem?_eq_getElem h2⟩
theorem other_ne {n a b : Int} (h0 : 0 ≤ a) (h1 : a < n) (g0 : 0 ≤ b) (g1 : b < n - 1) : a ≠ (a + 1 + b) % n := by
  by_cases h : a + 1 + b < n
  · rw [Int.emod_eq_of_lt (by omega) h]
    omega
  · have e : a + 1 + b = (a + 1 + b - n) + 1 * n := by omega
    rw [e, Int.add_mul_emod_self_right, Int.emod_eq_of_lt (by omega) (by omega)]
    omega
theorem pick2 {α : Type} (a b : α) (k : Bool) : atI [a, b] (if k then 1 else 0) = some (if k then b else a) := by
  cases k <;> rfl
def spWeb : Sp := fun vs H Q _ => ∃ (d c : Addr), vs = [.ref d] ∧ Deck H d c ∧
  ∀ v n ts H', WebAt H' v n ts → WebOk n ts → Deck H' d c → Kp d c H H' → Q v H'
end
/-! ### tuples cut and put together -/
section
variable {X : Cx}
theorem cutV_whole {xs : List V} {lo hi : Option Int} (h : HT.sIx xs.length 0 lo = 0 ∧ HT.sIx xs.length xs.length hi = xs.length) : cutV xs lo hi = xs := by
  unfold cutV
  rw [h.1, h.2]
  simp
def rSlU : V → Option Int → Option Int → Hp → VK → Prop := fun x lo hi H Q => ∃ a xs, x = .ref a ∧ H a = some (.tup xs) ∧ ∀ r H', Same H H' → H' r = some (.tup (cutV xs lo hi)) → Q (.ref r) H'
theorem sl_tupU : SlR X rSlU := by
  intro pins s σ H x v vl vu lo hi sl Q I rx hs pl pu h
  obtain ⟨a, xs, rfl, hx, q⟩ := h
  refine sl_tupA pins s σ H _ v vl vu lo hi sl Q I rx hs pl pu ⟨a, xs, rfl, SqT.of hx, fun hw => ?_, fun _ p np => ?_⟩
  · exact q a H (Same.refl H) (by rw [cutV_whole hw]; exact hx)
  · exact q p _ (same_new np) upd_same
def rCatU : R2 := fun x y H Q => ∃ a b xs ys, x = .ref a ∧ y = .ref b ∧ H a = some (.tup xs) ∧ H b = some (.tup ys) ∧ xs.length + ys.length ≤ 100000 ∧ ∀ r H', Same H H' → H' r = some (.tup (xs ++ ys)) → Q (.ref r) H'
theorem op_catU : OpR X (binaryOp .Add) rCatU := by
  intro pins s σ H x y v u Q I rx ry h
  obtain ⟨a, b, xs, ys, rfl, rfl, ha, hb, hz, q⟩ := h
  refine op_catA pins s σ H _ _ v u Q I rx ry ⟨a, b, xs, ys, rfl, rfl, SqT.of ha, SqT.of hb, Evl.sz_of hz, fun e => ?_, fun _ e => ?_, fun _ _ p np => ?_⟩
  · subst e
    exact q b H (Same.refl H) hb
  · subst e
    exact q a H (Same.refl H) (by rw [List.append_nil]; exact ha)
  · exact q p _ (same_new np) upd_same
end
/-! ### things of any kind -/
/-- its kind is known -/
def Kn (H : Hp) : V → Prop
  | .non => True
  | .bl _ => True
  | .int _ => True
  | .str _ => True
  | .ref a => (∃ xs, H a = some (.lst xs)) ∨ (∃ xs, H a = some (.tup xs)) ∨ ∃ kvs, H a = some (.dK kvs)
  | _ => False
def isI : V → Bool
  | .int _ => true
  | .bl _ => true
  | _ => false
def isB : V → Bool
  | .bl _ => true
  | _ => false
def isW : V → Bool
  | .int _ => true
  | _ => false
def isT (H : Hp) : V → Bool
  | .ref a => match H a with
    | some (.tup _) => true
    | _ => false
  | _ => false
section
variable {K : PySem.W.Frag} {H : Hp}
theorem kn_int {v : V} (h : Kn H v) : ∃ t, TyX K H v t ∧ PySem.W.kitOne K t (.type "int") = some (isI v) := by
  cases v with
  | non => exact ⟨_, .base .non, kit_ty (r := false) (by decide +kernel)⟩
  | bl b => exact ⟨_, .base (.bl b), kit_ty (r := true) (by decide +kernel)⟩
  | int i => exact ⟨_, .base (.int i), kit_ty (r := true) (by decide +kernel)⟩
  | str x => exact ⟨_, .base (.str x), kit_ty (r := false) (by decide +kernel)⟩
  | ref a =>
    rcases h with ⟨xs, h⟩ | ⟨xs, h⟩ | ⟨xs, h⟩
    · exact ⟨_, .base (.lst h), kit_ty (r := false) (by decide +kernel)⟩
    · exact ⟨_, .base (.tup h), kit_ty (r := false) (by decide +kernel)⟩
    · exact ⟨_, .base (.dK h), kit_ty (r := false) (by decide +kernel)⟩
  | byt b => exact h.elim
  | flt b => exact h.elim
  | ty n => exact h.elim
theorem kn_bool {v : V} (h : Kn H v) : ∃ t, TyX K H v t ∧ PySem.W.kitOne K t (.type "bool") = some (isB v) := by
  cases v with
  | non => exact ⟨_, .base .non, kit_ty (r := false) (by decide +kernel)⟩
  | bl b => exact ⟨_, .base (.bl b), kit_ty (r := true) (by decide +kernel)⟩
  | int i => exact ⟨_, .base (.int i), kit_ty (r := false) (by decide +kernel)⟩
  | str x => exact ⟨_, .base (.str x), kit_ty (r := false) (by decide +kernel)⟩
  | ref a =>
    rcases h with ⟨xs, h⟩ | ⟨xs, h⟩ | ⟨xs, h⟩
    · exact ⟨_, .base (.lst h), kit_ty (r := false) (by decide +kernel)⟩
    · exact ⟨_, .base (.tup h), kit_ty (r := false) (by decide +kernel)⟩
    · exact ⟨_, .base (.dK h), kit_ty (r := false) (by decide +kernel)⟩
  | byt b => exact h.elim
  | flt b => exact h.elim
  | ty n => exact h.elim
theorem kn_tup {v : V} (h : Kn H v) : ∃ t, TyX K H v t ∧ PySem.W.kitOne K t (.type "tuple") = some (isT H v) := by
  cases v with
  | non => exact ⟨_, .base .non, kit_ty (r := false) (by decide +kernel)⟩
  | bl b => exact ⟨_, .base (.bl b), kit_ty (r := false) (by decide +kernel)⟩
  | int i => exact ⟨_, .base (.int i), kit_ty (r := false) (by decide +kernel)⟩
  | str x => exact ⟨_, .base (.str x), kit_ty (r := false) (by decide +kernel)⟩
  | ref a =>
    unfold isT
    rcases h with ⟨xs, h⟩ | ⟨xs, h⟩ | ⟨xs, h⟩
    · exact ⟨_, .base (.lst h), by simp only [h]; exact kit_ty (r := false) (by decide +kernel)⟩
    · exact ⟨_, .base (.tup h), by simp only [h]; exact kit_ty (r := true) (by decide +kernel)⟩
    · exact ⟨_, .base (.dK h), by simp only [h]; exact kit_ty (r := false) (by decide +kernel)⟩
  | byt b => exact h.elim
  | flt b => exact h.elim
  | ty n => exact h.elim
theorem isT_at {v : V} (h : isT H v = true) : ∃ a xs, v = .ref a ∧ H a = some (.tup xs) := by
  cases v with
  | ref a =>
    unfold isT at h
    cases e : H a with
    | none => simp only [e] at h; cases h
    | some o =>
      cases o with
      | tup xs => exact ⟨a, xs, rfl, e⟩
      | _ => simp only [e] at h; cases h
  | _ => cases h
theorem isT_of {a : Addr} {xs : List V} (h : H a = some (.tup xs)) : isT H (.ref a) = true := by
  unfold isT
  simp only [h]
end
section
variable {P : Program} {w : World} {K : PySem.W.Frag} {mg : Str → Option Value} {base : Heap}
def spWhole : Sp := fun vs H Q _ => ∃ v, vs = [v] ∧ Kn H v ∧ Q (.bl (isW v)) H
theorem and_whole {v : V} : (isI v && !isB v) = isW v := by cases v <;> rfl
theorem ok_is_whole {f : Addr} {fd : FuncData} (F : Fun K "is_whole" "is_whole" s_is_whole f fd) (M : Free mg) : FnOk P w K mg base CX0 1 f fd ["thing"] spWhole := by
  refine F.ok sc_is_whole (fun vs H Q E h => ?_) (fun cdv A outer s H vs Q E hr h => ?_)
  · obtain ⟨v, rfl, _⟩ := h
    rfl
  · obtain ⟨v, rfl, hk, q⟩ := h
    refine ⟨_, (pss_one (ps_ret (pe_and (pe_callB call_isi (by rfl) M.isinstance (by decide +kernel) (pa_cons (pv 0) (pa_cons (pe_bltn (v := .ty "int") (by rfl) M.int (by decide +kernel) rfl) pa_nil))) (pe_one (pe_not (pe_callB call_isi (by rfl) M.isinstance (by decide +kernel) (pa_cons (pv 0) (pa_cons (pe_bltn (v := .ty "bool") (by rfl) M.bool (by decide +kernel) rfl) pa_nil)))))))), ?_⟩
    obtain ⟨t1, h1, e1⟩ := kn_int (K := K) hk
    obtain ⟨t2, h2, e2⟩ := kn_bool (K := K) hk
    refine ⟨v, rfl, v, _, t1, _, _, rfl, .ty "int", h1, e1, _, rfl, ?_⟩
    rw [← and_whole] at q
    cases hi : isI v with
    | false =>
      rw [hi] at q
      exact q
    | true =>
      rw [hi] at q
      exact ⟨v, rfl, v, _, t2, _, _, rfl, .ty "bool", h2, e2, _, rfl, q⟩
def wfrom (lo : Int) : V → Bool
  | .int i => decide (lo ≤ i)
  | _ => false
def spFrom : Sp := fun vs H Q _ => ∃ lo v, vs = [.int lo, v] ∧ Kn H v ∧ Q (.bl (wfrom lo v)) H
theorem ok_is_whole_from {f : Addr} {fd : FuncData} (F : Fun K "is_whole_from" "is_whole_from" s_is_whole_from f fd) (Dw : Df P w K mg base 1 "is_whole" ["thing"] spWhole) : FnOk P w K mg base CX0 2 f fd ["low", "thing"] spFrom := by
  obtain ⟨fW, fdW, GW, gW, kW, bW⟩ := Dw
  refine F.ok sc_is_whole_from (fun vs H Q E h => ?_) (fun cdv A outer s H vs Q E hr h => ?_)
  · obtain ⟨lo, v, rfl, _⟩ := h
    rfl
  · obtain ⟨lo, v, rfl, hk, q⟩ := h
    refine ⟨_, (pss_one (ps_ret (pe_and (pe_call GW hr (by rfl) gW kW bW .nil pass0 (pa_cons (pv 1) pa_nil)) (pe_one (pe_cmpR op_ge (pv 1) (pv 0) (nomark _)))))), ?_⟩
    refine ⟨v, rfl, v, rfl, hk, _, rfl, ?_⟩
    cases v with
    | int i => exact ⟨.int i, rfl, .int lo, rfl, i, lo, rfl, rfl, q⟩
    | _ => exact q
/-- the parts of a tuple -/
def parts (H : Hp) : V → Option (List V)
  | .ref a => match H a with
    | some (.tup xs) => some xs
    | _ => none
  | _ => none
theorem parts_of' {H : Hp} {a : Addr} {xs : List V} (h : H a = some (.tup xs)) : parts H (.ref a) = some xs := by
  unfold parts
  simp only [h]
theorem parts_none {H : Hp} {v : V} (h : isT H v = false) : parts H v = none := by
  cases v with
  | ref a =>
    unfold isT at h
    unfold parts
    cases e : H a with
    | none => simp only [e]
    | some o =>
      cases o with
      | tup xs => simp only [e] at h; cases h
      | _ => simp only [e]
  | _ => rfl
def lenIs (H : Hp) (v : V) (n : Int) : Bool := match parts H v with
  | some xs => decide ((xs.length : Int) = n)
  | none => false
def spTupleOf : Sp := fun vs H Q _ => ∃ n v, vs = [.int n, v] ∧ Kn H v ∧ Q (.bl (lenIs H v n)) H
theorem dec_int (a b : Int) : decide (V.int a = V.int b) = decide (a = b) := by
  by_cases h : a = b
  · rw [decide_eq_true h, h, decide_eq_true rfl]
  · rw [decide_eq_false h, decide_eq_false (fun z => h (V.int.inj z))]
theorem ok_is_tuple_of {f : Addr} {fd : FuncData} (F : Fun K "is_tuple_of" "is_tuple_of" s_is_tuple_of f fd) (M : Free mg) : FnOk P w K mg base CX0 1 f fd ["length", "thing"] spTupleOf := by
  refine F.ok sc_is_tuple_of (fun vs H Q E h => ?_) (fun cdv A outer s H vs Q E hr h => ?_)
  · obtain ⟨n, v, rfl, _⟩ := h
    rfl
  · obtain ⟨n, v, rfl, hk, q⟩ := h
    refine ⟨_, (pss_one (ps_ret (pe_and (pe_callB call_isi (by rfl) M.isinstance (by decide +kernel) (pa_cons (pv 1) (pa_cons (pe_bltn (v := .ty "tuple") (by rfl) M.tuple (by decide +kernel) rfl) pa_nil))) (pe_one (pe_cmpR op_eq (pe_callB call_len_seq (by rfl) M.len PySem.boot_len (pa_cons (pv 1) pa_nil)) (pv 0) (nomark _)))))), ?_⟩
    obtain ⟨t1, h1, e1⟩ := kn_tup (K := K) hk
    refine ⟨v, rfl, v, _, t1, _, _, rfl, .ty "tuple", h1, e1, _, rfl, ?_⟩
    unfold lenIs at q
    cases hi : isT H v with
    | false =>
      rw [parts_none hi] at q
      exact q
    | true =>
      obtain ⟨a, xs, rfl, e⟩ := isT_at hi
      rw [parts_of' e] at q
      refine ⟨.ref a, rfl, a, xs, rfl, .inr (SqT.of e), .int n, rfl, rfl, ?_⟩
      rw [dec_int]
      exact q
/-! ### a def whose code object stands at c: its own table is at Pt -/
structure FunC (K : PySem.W.Frag) (x qual : Str) (st : Stmt) (f : Addr) (fd : FuncData) (c : Addr) : Prop where
  ex : ∃ (oc : Value) (od : Option Addr) (kV doc pm : Value) (an : Option Addr) (ct : Value) (osl : Array (Option Value)),
    fd = PySem.W.fnOf x qual (defArgs st) (defBody st) (defScope st) .none kV doc pm an (.ref c) ct ∧ K.lookup f = some ⟨oc, od, .func fd, osl⟩ ∧ PySem.W.codeIn K (.ref c) qual = true
  kp : PySem.W.keepIn K (.ref f) = true
theorem FunC.ok {x qual : Str} {st : Stmt} {f c : Addr} {fd : FuncData} {N ps : List Str} {k : Nat} {sp : Sp} (F : FunC K x qual st f fd c) (S : FnScope N ps (defScope st)) (len : ∀ vs H Q E, sp vs H Q E → vs.length = ps.length)
    (hbody : ∀ (A : Around) (outer : List Env) (s : Shared) (H : Hp) (vs : List V) (Q : VK) (E : XK), Room k (A.deeper (envOfC qual (defScope st) s.heap.objs.size f (.ref c))) → sp vs H Q E →
      ∃ t, PSs (cxOf CX0 P w K mg base N qual (defScope st) f (.ref c) A outer s H E).nox (defBody st) t ∧ t { nx := fun _ H' => Q .non H', rt := Q } (start N vs) H) : FnOk P w K mg base CX0 (k + 1) f fd ps sp := by
  obtain ⟨oc, od, kV, doc, pm, an, ct, osl, rfl, lk, hcd⟩ := F.ex
  refine fn_of lk hcd S len fun A outer s H vs Q E hr hsp => ?_
  obtain ⟨t, h, q⟩ := hbody A outer s H vs Q E hr hsp
  exact ⟨t, h.nox, q⟩
theorem FunC.fn {x qual : Str} {st : Stmt} {f c : Addr} {fd : FuncData} (F : FunC K x qual st f fd c) : Fun K x qual st f fd := by
  obtain ⟨oc, od, kV, doc, pm, an, ct, osl, rfl, lk, hcd⟩ := F.ex
  exact ⟨⟨oc, od, kV, doc, pm, an, _, ct, osl, rfl, lk, hcd⟩, F.kp⟩
theorem parts_at {H : Hp} {v : V} {xs : List V} (h : parts H v = some xs) : ∃ a, v = .ref a ∧ H a = some (.tup xs) := by
  cases v with
  | ref a =>
    unfold parts at h
    cases e : H a with
    | none => simp only [e] at h; cases h
    | some o =>
      cases o with
      | tup ys => simp only [e] at h; cases h; exact ⟨a, rfl, e⟩
      | _ => simp only [e] at h; cases h
  | _ => cases h
end
/-! ### all but the tables is kept -/
structure Kt (Ps : List Addr) (H H' : Hp) : Prop where
  tab : ∀ P ∈ Ps, GxR.TabG H' P
  keep : ∀ b o, b ∉ Ps → H b = some o → H' b = some o
def Tabs (Ps : List Addr) (H : Hp) : Prop := ∀ P ∈ Ps, GxR.TabG H P
theorem Kt.refl {Ps : List Addr} {H : Hp} (h : Tabs Ps H) : Kt Ps H H := ⟨h, fun _ _ _ e => e⟩
theorem Kt.trans {Ps : List Addr} {H H1 H2 : Hp} (a : Kt Ps H H1) (b : Kt Ps H1 H2) : Kt Ps H H2 := ⟨b.tab, fun x o h e => b.keep x o h (a.keep x o h e)⟩
theorem Kt.same {Ps : List Addr} {H H' : Hp} (h : Tabs Ps H) (s : Same H H') : Kt Ps H H' := ⟨fun P hP => by obtain ⟨ps, e, t⟩ := h P hP; exact ⟨ps, s _ _ e, t⟩, fun b o _ e => s b o e⟩
theorem Kt.tabbed {Ps : List Addr} {P : Addr} {H H' : Hp} (h : Tabs Ps H) (hP : P ∈ Ps) (t : GxR.Tabbed P H H') : Kt Ps H H' := by
  refine ⟨fun Q hQ => ?_, fun b o hb e => ?_⟩
  · by_cases e : Q = P
    · rw [e]
      exact t.1
    · obtain ⟨ps, e1, t1⟩ := h Q hQ
      exact ⟨ps, by rw [t.2 Q e]; exact e1, t1⟩
  · rw [t.2 b (fun z => hb (by rw [z]; exact hP))]
    exact e
theorem Tabs.out {Ps : List Addr} {H : Hp} {a : Addr} {o : HO} (t : Tabs Ps H) (h : H a = some o) (no : ∀ ps, o ≠ .tbl ps) : a ∉ Ps := fun z => by
  obtain ⟨ps, e, _⟩ := t a z
  rw [e] at h
  cases h
  exact no _ rfl
theorem Kt.tup {Ps : List Addr} {a : Addr} {H H' : Hp} {xs : List V} (k : Kt Ps H H') (t : Tabs Ps H) (h : H a = some (.tup xs)) : H' a = some (.tup xs) := k.keep a _ (t.out h fun _ z => by cases z) h
theorem Kt.lst {Ps : List Addr} {a : Addr} {H H' : Hp} {xs : List V} (k : Kt Ps H H') (t : Tabs Ps H) (h : H a = some (.lst xs)) : H' a = some (.lst xs) := k.keep a _ (t.out h fun _ z => by cases z) h
theorem Kt.dct {Ps : List Addr} {a : Addr} {H H' : Hp} {xs : List (Key × V)} (k : Kt Ps H H') (t : Tabs Ps H) (h : H a = some (.dK xs)) : H' a = some (.dK xs) := k.keep a _ (t.out h fun _ z => by cases z) h
theorem Kt.tk {Ps : List Addr} {H H' : Hp} (k : Kt Ps H H') (t : Tabs Ps H) : Tk H H' := fun _ _ e => k.tup t e
theorem Kt.kn {Ps : List Addr} {H H' : Hp} (k : Kt Ps H H') (t : Tabs Ps H) {v : V} (h : Kn H v) : Kn H' v := by
  cases v with
  | ref a =>
    rcases h with ⟨xs, h⟩ | ⟨xs, h⟩ | ⟨xs, h⟩
    · exact .inl ⟨xs, k.lst t h⟩
    · exact .inr (.inl ⟨xs, k.tup t h⟩)
    · exact .inr (.inr ⟨xs, k.dct t h⟩)
  | _ => exact h
theorem Kt.deck {Ps : List Addr} {d c : Addr} {H H' : Hp} (k : Kt Ps H H') (t : Tabs Ps H) (D : Deck H d c) : Deck H' d c := by
  obtain ⟨cells, st, n, e1, e2, e3⟩ := D
  exact ⟨cells, st, n, k.lst t e1, k.lst t e2, e3⟩
/-! ### x in t of data of any depth -/
def rInT (K : PySem.W.Frag) : R2 := fun x y H Q => ∃ d ds, Dp K H x d ∧ Dp K H y (.tuple ds) ∧ SeqAt.shaped d = true ∧ SeqAt.shaped (.tuple ds) = true ∧ Q (.bl (ds.any fun z => PyData.eqv z d)) H
theorem op_inTup {X : Cx} (hu : X.A.units + 65 < cLine) : OpR X (compareOp .In) (rInT X.K) := by
  intro pins s σ H x y v u Q I rx ry want
  obtain ⟨d, ds, hd, he, sd, se, q⟩ := want
  obtain ⟨as, r1⟩ := Dp.reads I d x v hd rx
  obtain ⟨bs, r2⟩ := Dp.reads I (.tuple ds) y u he ry
  have lay : PyData.canLayAll0 ds = true := by
    have z := SeqAt.canLay_of_shaped se
    rw [PyData.canLay0] at z
    exact z
  have deep := SeqAt.depth_of_shaped sd
  exact SeqAt.in_tuple_reads r2 r1 lay (SeqAt.canLay_of_shaped sd) (by omega) ⟨.bl _, H, I, rfl, q⟩
/-! ### whole numbers below a limit -/
def wbelow (lim : Int) : V → Bool
  | .int i => decide (0 ≤ i) && decide (i < lim)
  | _ => false
def spBelow : Sp := fun vs H Q _ => ∃ lim v, vs = [.int lim, v] ∧ Kn H v ∧ Q (.bl (wbelow lim v)) H
section
variable {P : Program} {w : World} {K : PySem.W.Frag} {mg : Str → Option Value} {base : Heap}
theorem ok_is_whole_below {f : Addr} {fd : FuncData} (F : Fun K "is_whole_below" "is_whole_below" s_is_whole_below f fd) (D1 : Df P w K mg base 1 "is_whole" ["thing"] spWhole) : FnOk P w K mg base CX0 2 f fd ["limit", "thing"] spBelow := by
  obtain ⟨f1, fd1, G1, g1, k1, b1⟩ := D1
  refine F.ok sc_is_whole_below (fun vs H Q E h => ?_) (fun cdv A outer s H vs Q E hr h => ?_)
  · obtain ⟨lim, v, rfl, _⟩ := h
    rfl
  · obtain ⟨lim, v, rfl, hk, q⟩ := h
    refine ⟨_, (pss_one (ps_ret (pe_and (pe_call G1 hr (by rfl) g1 k1 b1 .nil pass0 (pa_cons (pv 1) pa_nil)) (pe_one (pe_chain op_le op_lt pe_int (pv 1) (pv 0)))))), ?_⟩
    refine ⟨v, rfl, v, rfl, hk, _, rfl, ?_⟩
    cases v with
    | int i =>
      refine ⟨.int i, rfl, 0, i, rfl, rfl, _, rfl, ?_⟩
      have e : wbelow lim (.int i) = (decide (0 ≤ i) && decide (i < lim)) := rfl
      rw [e] at q
      by_cases h0 : (0 : Int) ≤ i
      · rw [decide_eq_true h0] at q ⊢
        rw [Bool.true_and] at q
        exact ⟨.int lim, rfl, i, lim, rfl, rfl, q⟩
      · rw [decide_eq_false h0] at q ⊢
        exact q
    | _ => exact q
end
/-! ### a text against a dict -/
section
open PySem.SeqAt PySem.MeetsSeq
open PySem.AutoSeq1 (wpAny_loadPart')
variable {A : Around} {s : Shared}
theorem str_eq_declines_dict (b : Str) (u : Tok) (l : Addr) (o : Obj) : Meets (Builtin.«str.__eq__» ⟨[.str b u, .ref l], []⟩) (fun _ R s => s.heap.get? l = some o ∧ o.cls = .type "dict" ∧ (∃ es ep, o.data = .dict es ep) ∧ R (.ok (.ret .notImplemented)) s) :=
  .of_wp fun prog w A R s h => by
    obtain ⟨hp, g, d, tk, os⟩ := s
    obtain ⟨hl, hc, ⟨es, ep, hd⟩, h⟩ := h
    obtain ⟨cls, dd, data, sl⟩ := o
    simp only at hc hd
    subst hc hd
    wp_walk using wpAny_loadPart' hl, wpAny_load hl
    exact ⟨_, rfl, h⟩
theorem dict_eq_declines_str (l : Addr) (o : Obj) (b : Str) (u : Tok) : Meets (Builtin.«dict.__eq__» ⟨[.ref l, .str b u], []⟩) (fun _ R s => s.heap.get? l = some o ∧ o.cls = .type "dict" ∧ (∃ es ep, o.data = .dict es ep) ∧ R (.ok (.ret .notImplemented)) s) :=
  .of_wp fun prog w A R s h => by
    obtain ⟨hp, g, d, tk, os⟩ := s
    obtain ⟨hl, hc, ⟨es, ep, hd⟩, h⟩ := h
    obtain ⟨cls, dd, data, sl⟩ := o
    simp only at hc hd
    subst hc hd
    have f1 := F.sub_str_dict
    wp_walk using wpAny_loadPart' hl
    exact ⟨_, rfl, h⟩
theorem rc_str_dict {l : Addr} {o : Obj} {es : Array DictEntry} {ep : Nat} (b : Str) (u : Tok) (ho : s.heap.get? l = some o) (hc : o.cls = .type "dict") (hd : o.data = .dict es ep) (hu : A.units < cLine) : RcAt A s (.str b u) (.ref l) false := fun prog w E Q h => by
  exact rc_eq_decline_or (k := false) (typeIs_str s b u) ⟨_, ho, hc⟩ (by decide) F.sub_dict_str F.slot_str_eq F.slot_dict_eq_refl
    (fun _ hq => call_meets F.slot_str_eq (typeIs_str s b u) F.entry_str_eq (F.args_str_eq_2 _ _) (str_eq_declines_dict b u l o) ⟨ho, hc, ⟨_, _, hd⟩, hq⟩)
    (fun _ hq => call_meets F.slot_dict_eq_refl ⟨_, ho, hc⟩ F.entry_dict_eq (F.args_dict_eq_2 _ _) (dict_eq_declines_str l o b u) ⟨ho, hc, ⟨_, _, hd⟩, hq⟩)
    (fun _ hq => wpAny_of_eq (rfl : isSame (.str b u) (.ref l) = pure false) hq) (.inr hu) h
theorem eq_str_dict {l : Addr} {o : Obj} {es : Array DictEntry} {ep : Nat} (b : Str) (u : Tok) (ho : s.heap.get? l = some o) (hc : o.cls = .type "dict") (hd : o.data = .dict es ep) (hu : A.units < cLine) : EqAt A s (.str b u) (.ref l) false := fun prog w E Q h => by
  unfold eqBool
  refine wpAny_holding ?_
  refine wpAny_ite_split (fun hab => absurd (eq_of_beq hab) nofun) (fun _ => ?_)
  exact wpAny_bind (rc_str_dict b u ho hc hd hu prog w E _ (wpAny_truthy_bool h))
end
/-! ### kind in KINDS -/
def KD (K : PySem.W.Frag) (H : Hp) (x : V) : Prop := (∃ d, Dp K H x d ∧ SeqAt.shaped d = true) ∨ ∃ a kvs, x = .ref a ∧ H a = some (.dK kvs)
def inK (ss : List Str) : V → Bool
  | .str t => ss.any fun y => y == t
  | _ => false
def rInK (K : PySem.W.Frag) : R2 := fun x y H Q => ∃ b ss, y = .ref b ∧ SqT K H b (ss.map V.str) ∧ PyData.canLayAll0 (ss.map PyData.str) = true ∧ KD K H x ∧ Q (.bl (inK ss x)) H
theorem dp_strs {K : PySem.W.Frag} {H : Hp} : ∀ (ss : List Str), DpAll K H (ss.map V.str) (ss.map PyData.str)
  | [] => .nil
  | s :: ss => .cons (.str s) (dp_strs ss)
theorem depth_strs : ∀ (ss : List Str), PyData.depthAll (ss.map PyData.str) = 0
  | [] => rfl
  | s :: ss => by rw [List.map_cons, PyData.depthAll, depth_strs ss]; rfl
theorem inK_eqv {K : PySem.W.Frag} {H : Hp} {x : V} {d : PyData} (h : Dp K H x d) (ss : List Str) : ((ss.map PyData.str).any fun y => PyData.eqv y d) = inK ss x := by
  have no : (∀ y : Str, PyData.eqv (.str y) d = false) → ((ss.map PyData.str).any fun y => PyData.eqv y d) = false := fun h => by
    rw [List.any_map, List.any_eq_false]
    intro y _
    simp only [Function.comp]
    rw [h y]
    exact Bool.false_ne_true
  cases h with
  | str t =>
    rw [List.any_map]
    rfl
  | _ => exact no fun y => rfl
theorem op_inK {X : Cx} (hu : X.A.units + 65 < cLine) : OpR X (compareOp .In) (rInK X.K) := by
  intro pins s σ H x y v u Q I rx ry want
  obtain ⟨b, ss, rfl, hb, lay, hk, q⟩ := want
  obtain rfl : u = Value.ref b := ry
  rcases hk with ⟨d, hd, sd⟩ | ⟨a, kvs, rfl, ha⟩
  · obtain ⟨as, r1⟩ := Dp.reads I d x v hd rx
    obtain ⟨bs, r2⟩ := Dp.reads I (.tuple (ss.map .str)) (.ref b) (.ref b) (.tup hb (dp_strs ss)) rfl
    refine SeqAt.in_tuple_reads r2 r1 lay (SeqAt.canLay_of_shaped sd) (by rw [depth_strs]; omega) ⟨.bl _, H, I, rfl, ?_⟩
    rw [inK_eqv hd ss]
    exact q
  · obtain rfl : v = Value.ref a := rx
    obtain ⟨its, rv, ⟨o, ho, hc, n, hd⟩, hlen⟩ := I.tuple hb
    obtain ⟨hz, hne, vs, kv, o2, es, ep, ho2, ed, hd2, ko, pr, nd⟩ := I.hok a _ ha
    have ev : ∀ y ∈ its, ∃ (t : Str) (k : Tok), y = .str t k := fun y hy => by
      obtain ⟨i, hi, rfl⟩ := List.getElem_of_mem hy
      have hl : i < ss.length := by
        have := rv.length
        rw [List.length_map] at this
        omega
      obtain ⟨u, eu, ru⟩ := Vals.get (i := i) (x := .str ss[i]) rv (by rw [List.getElem?_map, List.getElem?_eq_getElem hl]; rfl)
      rw [List.getElem?_eq_getElem hi] at eu
      obtain ⟨t, et⟩ := ru
      exact ⟨_, t, (Option.some.inj eu).trans et⟩
    refine SeqAt.in_tupleAt (fun _ => false) ⟨o, ho, hc, n, hd⟩ (fun y hy => ?_) ?_
    · obtain ⟨t, k, rfl⟩ := ev y (by simpa using hy)
      exact eq_str_dict t k ho2 ed.1 hd2 (by show X.A.units + 1 < cLine; omega)
    · refine ⟨.bl false, H, I, ?_, q⟩
      show Value.bool _ = Value.bool false
      rw [Array.any_eq_false.mpr (fun _ _ => Bool.false_ne_true)]
theorem lay_kinds : PyData.canLayAll0 ([("friend" : Str), "foe"].map PyData.str) = true := by decide +kernel
/-! ### k01: what is a web -/
theorem room65 {k : Nat} {A : PySem.Around} (r : Room k A) : A.units + 65 < cLine := by have := r.un; omega
def kindsL : List Str := ["friend", "foe"]
def unlB (many : Int) (a b : V) : Bool := wbelow many a && (wbelow many b && !decide (a = b))
def tieB (H : Hp) (many : Int) (v : V) : Bool := match parts H v with
  | some [a, b, c] => unlB many a b && inK kindsL c
  | _ => false
def TieK (K : PySem.W.Frag) (H : Hp) (v : V) : Prop := Kn H v ∧ ∀ xs, parts H v = some xs → (∀ x ∈ xs, Kn H x) ∧ ∀ a b c, xs = [a, b, c] → KD K H c
def spUnlPl : Sp := fun vs H Q _ => ∃ (many : Int) (a b : V), vs = [.int many, a, b] ∧ Kn H a ∧ Kn H b ∧ Q (.bl (unlB many a b)) H
def spTie (K : PySem.W.Frag) : Sp := fun vs H Q _ => ∃ (many : Int) (v : V), vs = [.int many, v] ∧ TieK K H v ∧ Q (.bl (tieB H many v)) H
section
variable {P : Program} {w : World} {K : PySem.W.Frag} {mg : Str → Option Value} {base : Heap}
theorem wbelow_int {many : Int} {v : V} (h : wbelow many v = true) : ∃ i, v = .int i := by
  cases v with
  | int i => exact ⟨i, rfl⟩
  | _ => cases h
theorem ok_unlike_places {f : Addr} {fd : FuncData} (F : Fun K "are_unlike_places" "are_unlike_places" s_are_unlike_places f fd) (D1 : Df P w K mg base 2 "is_whole_below" ["limit", "thing"] spBelow) : FnOk P w K mg base CX0 3 f fd ["many", "one", "other"] spUnlPl := by
  obtain ⟨f1, fd1, G1, g1, k1, b1⟩ := D1
  refine F.ok sc_are_unlike_places (fun vs H Q E h => ?_) (fun cdv A outer s H vs Q E hr h => ?_)
  · obtain ⟨many, a, b, rfl, _⟩ := h
    rfl
  · obtain ⟨many, a, b, rfl, ka, kb, q⟩ := h
    refine ⟨_, (pss_one (ps_ret (pe_and (pe_call G1 hr (by rfl) g1 k1 b1 .nil pass0 (pa_cons (pv 0) (pa_cons (pv 1) pa_nil))) (pe_and (pe_call G1 hr (by rfl) g1 k1 b1 .nil pass0 (pa_cons (pv 0) (pa_cons (pv 2) pa_nil))) (pe_one (pe_cmpR op_ne (pv 1) (pv 2) (nomark _))))))), ?_⟩
    refine ⟨.int many, rfl, a, rfl, many, a, rfl, ka, _, rfl, ?_⟩
    unfold unlB at q
    cases h1 : wbelow many a with
    | false =>
      rw [h1] at q
      exact q
    | true =>
      rw [h1] at q
      refine ⟨.int many, rfl, b, rfl, many, b, rfl, kb, _, rfl, ?_⟩
      cases h2 : wbelow many b with
      | false =>
        rw [h2] at q
        exact q
      | true =>
        rw [h2] at q
        obtain ⟨i, rfl⟩ := wbelow_int h1
        obtain ⟨j, rfl⟩ := wbelow_int h2
        exact ⟨.int i, rfl, .int j, rfl, rfl, q⟩
theorem ok_is_tie {f ka : Addr} {fd : FuncData} (F : Fun K "is_tie" "is_tie" s_is_tie f fd) (mk : mg "KINDS" = some (.ref ka)) (hk : ∀ H, SqT K H ka (kindsL.map V.str)) (D1 : Df P w K mg base 1 "is_tuple_of" ["length", "thing"] spTupleOf) (D2 : Df P w K mg base 3 "are_unlike_places" ["many", "one", "other"] spUnlPl) : FnOk P w K mg base CX0 4 f fd ["many", "thing"] (spTie K) := by
  obtain ⟨f1, fd1, G1, g1, k1, b1⟩ := D1
  obtain ⟨f2, fd2, G2, g2, k2, b2⟩ := D2
  refine F.ok sc_is_tie (fun vs H Q E h => ?_) (fun cdv A outer s H vs Q E hr h => ?_)
  · obtain ⟨many, v, rfl, _⟩ := h
    rfl
  · obtain ⟨many, v, rfl, ⟨kv, kp⟩, q⟩ := h
    refine ⟨_, (pss_cons (ps_if (pt_not (pt_val (pe_call G1 (hr.mono (by decide)) (by rfl) g1 k1 b1 .nil pass0 (pa_cons pe_int (pa_cons (pv 1) pa_nil)))))
        (pss_one (ps_ret pe_bl))
        pss_nil)
      (pss_cons (ps_asg (pv 1) (pg_tup rfl (pgs_cons (pg_name (i := 2) sc_is_tie.nd rfl (.inl rfl)) (pgs_cons (pg_name (i := 3) sc_is_tie.nd rfl (.inl rfl)) (pgs_cons (pg_name (i := 4) sc_is_tie.nd rfl (.inl rfl)) pgs_nil)))))
      (pss_one (ps_ret (pe_and (pe_call G2 hr (by rfl) g2 k2 b2 .nil pass0 (pa_cons (pv 0) (pa_cons (pv 2) (pa_cons (pv 3) pa_nil)))) (pe_one (pe_cmpR (op_inK (room65 hr)) (pv 4) (pe_glob (v := .ref ka) rfl mk rfl) rfl))))))), ?_⟩
    refine ⟨v, rfl, 3, v, rfl, kv, _, rfl, ?_⟩
    unfold tieB at q
    cases hpt : parts H v with
    | none =>
      have e0 : lenIs H v 3 = false := by
        unfold lenIs
        rw [hpt]
      rw [e0]
      rw [hpt] at q
      exact q
    | some xs =>
      have e0 : lenIs H v 3 = decide ((xs.length : Int) = 3) := by
        unfold lenIs
        rw [hpt]
      rw [e0]
      rw [hpt] at q
      obtain ⟨kx, k3⟩ := kp xs hpt
      by_cases hl : (xs.length : Int) = 3
      · rw [decide_eq_true hl]
        match xs, hl, hpt, kx, k3, q with
        | [a, b, c], _, hpt, kx, k3, q =>
          obtain ⟨va, rfl, ha⟩ : ∃ va, v = .ref va ∧ H va = some (.tup [a, b, c]) := by
            cases v with
            | ref va =>
              rcases kv with ⟨ys, h⟩ | ⟨ys, h⟩ | ⟨ys, h⟩
              · rw [parts_none (by unfold isT; simp only [h])] at hpt; cases hpt
              · rw [parts_of' h] at hpt; cases hpt; exact ⟨va, rfl, h⟩
              · rw [parts_none (by unfold isT; simp only [h])] at hpt; cases hpt
            | _ => rw [parts_none rfl] at hpt; cases hpt
          refine ⟨.ref va, rfl, va, _, rfl, SqT.of ha, rfl, _, _, rfl, _, _, rfl, _, _, rfl, rfl, ?_⟩
          refine ⟨.int many, rfl, a, rfl, b, rfl, many, a, b, rfl, kx a (by simp), kx b (by simp), _, rfl, ?_⟩
          have q : Q (.bl (unlB many a b && inK kindsL c)) H := q
          cases h1 : unlB many a b with
          | false =>
            rw [h1] at q
            exact q
          | true =>
            rw [h1] at q
            exact ⟨c, rfl, ka, kindsL, rfl, hk H, lay_kinds, k3 a b c rfl, q⟩
      · rw [decide_eq_false hl]
        have e1 : (match some xs with
            | some [a, b, c] => unlB many a b && inK kindsL c
            | _ => false) = false := by
          match xs, hl with
          | [], _ => rfl
          | [_], _ => rfl
          | [_, _], _ => rfl
          | [_, _, _], hl => exact absurd rfl hl
          | _ :: _ :: _ :: _ :: _, _ => rfl
        rw [e1] at q
        exact q
end
def webB (H : Hp) (v : V) : Bool := match parts H v with
  | some [.int i, t] => decide (1 ≤ i) && (match parts H t with
    | some ts => ts.all (tieB H i)
    | none => false)
  | _ => false
def WebK (K : PySem.W.Frag) (H : Hp) (v : V) : Prop := Kn H v ∧ ∀ xs, parts H v = some xs → (∀ x ∈ xs, Kn H x) ∧ ∀ m t, xs = [m, t] → ∀ ts, parts H t = some ts → ∀ x ∈ ts, TieK K H x
def spIsWeb (K : PySem.W.Frag) (Ps : List Addr) : Sp := fun vs H Q _ => ∃ v, vs = [v] ∧ WebK K H v ∧ Tabs Ps H ∧ ∀ H', Kt Ps H H' → Q (.bl (webB H v)) H'
theorem kt_parts {Ps : List Addr} {H H' : Hp} (k : Kt Ps H H') (t : Tabs Ps H) {v : V} (h : Kn H v) : parts H' v = parts H v := by
  cases v with
  | ref a =>
    unfold parts
    rcases h with ⟨xs, h⟩ | ⟨xs, h⟩ | ⟨xs, h⟩
    · simp only [h, k.lst t h]
    · simp only [h, k.tup t h]
    · simp only [h, k.dct t h]
  | _ => rfl
theorem tup_of_parts {H : Hp} {v : V} {xs : List V} (kv : Kn H v) (hpt : parts H v = some xs) : ∃ a, v = .ref a ∧ H a = some (.tup xs) := by
  cases v with
  | ref va =>
    rcases kv with ⟨ys, h⟩ | ⟨ys, h⟩ | ⟨ys, h⟩
    · rw [parts_none (by unfold isT; simp only [h])] at hpt; cases hpt
    · rw [parts_of' h] at hpt; cases hpt; exact ⟨va, rfl, h⟩
    · rw [parts_none (by unfold isT; simp only [h])] at hpt; cases hpt
  | _ => rw [parts_none rfl] at hpt; cases hpt
mutual
theorem Dp.kt {K : PySem.W.Frag} {Ps : List Addr} {H H' : Hp} (k : Kt Ps H H') (t : Tabs Ps H) : ∀ {v : V} {d : PyData}, Dp K H v d → Dp K H' v d
  | _, _, .non => .non
  | _, _, .bl b => .bl b
  | _, _, .int i => .int i
  | _, _, .str x => .str x
  | _, _, .lst hs ha => .lst (by
      rcases hs with (h | ⟨o, h⟩) | h
      · exact .inl (.inl (k.lst t h))
      · exact .inl (.inr ⟨o, k.keep _ _ (t.out h fun _ z => by cases z) h⟩)
      · exact .inr h) (DpAll.kt k t ha)
  | _, _, .tup hs ha => .tup (by
      rcases hs with (h | ⟨o, h⟩) | h
      · exact .inl (.inl (k.tup t h))
      · exact .inl (.inr ⟨o, k.keep _ _ (t.out h fun _ z => by cases z) h⟩)
      · exact .inr h) (DpAll.kt k t ha)
theorem DpAll.kt {K : PySem.W.Frag} {Ps : List Addr} {H H' : Hp} (k : Kt Ps H H') (t : Tabs Ps H) : ∀ {vs : List V} {ds : List PyData}, DpAll K H vs ds → DpAll K H' vs ds
  | _, _, .nil => .nil
  | _, _, .cons h r => .cons (Dp.kt k t h) (DpAll.kt k t r)
end
theorem KD.kt {K : PySem.W.Frag} {Ps : List Addr} {H H' : Hp} (k : Kt Ps H H') (t : Tabs Ps H) {v : V} (h : KD K H v) : KD K H' v := by
  rcases h with ⟨d, h1, h2⟩ | ⟨a, kvs, e, h⟩
  · exact .inl ⟨d, Dp.kt k t h1, h2⟩
  · exact .inr ⟨a, kvs, e, k.dct t h⟩
theorem TieK.kt {K : PySem.W.Frag} {Ps : List Addr} {H H' : Hp} (k : Kt Ps H H') (t : Tabs Ps H) {v : V} (h : TieK K H v) : TieK K H' v := ⟨k.kn t h.1, fun xs e => by
  rw [kt_parts k t h.1] at e
  exact ⟨fun x hx => k.kn t ((h.2 xs e).1 x hx), fun a b c z => ((h.2 xs e).2 a b c z).kt k t⟩⟩
theorem tie_kt {K : PySem.W.Frag} {Ps : List Addr} {H H' : Hp} (k : Kt Ps H H') (t : Tabs Ps H) {v : V} (h : TieK K H v) (many : Int) : tieB H' many v = tieB H many v := by
  unfold tieB
  rw [kt_parts k t h.1]
section
variable {P : Program} {w : World} {K : PySem.W.Frag} {mg : Str → Option Value} {base : Heap}
theorem ok_is_web {f c Pt : Addr} {fd : FuncData} {Ps : List Addr} (F : FunC K "is_web" "is_web" s_is_web f fd c) (TB : GxR.TabB base mg c Pt) (hPt : Pt ∈ Ps) (M : Free mg) (hall : mg "all" = none) (D1 : Df P w K mg base 1 "is_tuple_of" ["length", "thing"] spTupleOf) (D2 : Df P w K mg base 2 "is_whole_from" ["low", "thing"] spFrom) (D3 : Df P w K mg base 4 "is_tie" ["many", "thing"] (spTie K)) : FnOk P w K mg base CX0 6 f fd ["thing"] (spIsWeb K Ps) := by
  obtain ⟨f1, fd1, G1, g1, k1, b1⟩ := D1
  obtain ⟨f2, fd2, G2, g2, k2, b2⟩ := D2
  obtain ⟨f3, fd3, G3, g3, k3, b3⟩ := D3
  refine F.ok sc_is_web (fun vs H Q E h => ?_) (fun A outer s H vs Q E hr h => ?_)
  · obtain ⟨v, rfl, _⟩ := h
    rfl
  · obtain ⟨v, rfl, ⟨kv, kp⟩, hT, q⟩ := h
    refine ⟨_, (pss_cons (ps_if (pt_not (pt_val (pe_call G1 (hr.mono (by decide)) (by rfl) g1 k1 b1 .nil pass0 (pa_cons pe_int (pa_cons (pv 0) pa_nil)))))
        (pss_one (ps_ret pe_bl))
        pss_nil)
      (pss_cons (ps_asg (pv 0) (pg_tup rfl (pgs_cons (pg_name (i := 1) sc_is_web.nd rfl (.inr rfl)) (pgs_cons (pg_name (i := 2) sc_is_web.nd rfl (.inl rfl)) pgs_nil))))
      (pss_cons (ps_if (PW.pt (pw_or (pt_not (pt_val (pe_call G2 (hr.mono (by decide)) (by rfl) g2 k2 b2 .nil pass0 (pa_cons pe_int (pa_cons (pv 1) pa_nil))))) (pw_or1 (pt_not (pt_val (pe_callB call_isi (by rfl) M.isinstance (by decide +kernel) (pa_cons (pv 2) (pa_cons (pe_bltn (v := .ty "tuple") (by rfl) M.tuple (by decide +kernel) rfl) pa_nil))))))))
        (pss_one (ps_ret pe_bl))
        pss_nil)
      (pss_one (ps_ret (pe_all (k := 4) (own := [("tie", 3)]) (g := gName 3) hr TB rfl rfl sc_is_web.nd (by rfl) hall (pi_tup (pv 2)) (blkOk_by (N := N_is_web) (sc := defScope s_is_web) (own := [("tie", 3)]) (by decide +kernel)) ⟨rfl, by decide +kernel, by decide +kernel⟩ (show (".0" : Str) ∉ N_is_web by decide +kernel)
        (fun _ _ _ _ _ _ _ => pg_name (i := 3) sc_is_web.nd rfl (.inl rfl)) (fun _ _ _ _ _ _ _ hr' => pe_call G3 hr' (by rfl) g3 k3 b3 .nil pass0 (pa_cons (pv 1) (pa_cons (pv 3) pa_nil))))))))), ?_⟩
    refine ⟨v, rfl, 2, v, rfl, kv, _, rfl, ?_⟩
    unfold webB at q
    cases hpt : parts H v with
    | none =>
      have e0 : lenIs H v 2 = false := by
        unfold lenIs
        rw [hpt]
      rw [e0]
      rw [hpt] at q
      exact q _ (Kt.refl hT)
    | some xs =>
      have e0 : lenIs H v 2 = decide ((xs.length : Int) = 2) := by
        unfold lenIs
        rw [hpt]
      rw [e0]
      rw [hpt] at q
      obtain ⟨kx, k3⟩ := kp xs hpt
      obtain ⟨va, rfl, ha⟩ := tup_of_parts kv hpt
      by_cases hl : (xs.length : Int) = 2
      · rw [decide_eq_true hl]
        match xs, hl, hpt, kx, k3, q, ha with
        | [m, t], _, hpt, kx, k3, q, ha =>
          have km := kx m (by simp)
          have kt' := kx t (by simp)
          refine ⟨.ref va, rfl, va, _, rfl, SqT.of ha, rfl, _, _, rfl, _, _, rfl, rfl, ?_⟩
          refine ⟨m, rfl, 1, m, rfl, km, _, rfl, ?_⟩
          cases m with
          | int i =>
            have q : ∀ H', Kt Ps H H' → Q (.bl (decide (1 ≤ i) && (match parts H t with
              | some ts => ts.all (tieB H i)
              | none => false))) H' := q
            have ew : wfrom 1 (.int i) = decide (1 ≤ i) := rfl
            rw [ew]
            by_cases h1 : (1 : Int) ≤ i
            · rw [decide_eq_true h1] at q ⊢
              rw [Bool.true_and] at q
              obtain ⟨t1, y1, e1⟩ := kn_tup (K := K) kt'
              refine ⟨t, rfl, t, _, t1, _, _, rfl, .ty "tuple", y1, e1, _, rfl, ?_⟩
              cases hi : isT H t with
              | false =>
                rw [parts_none hi] at q
                exact q _ (Kt.refl hT)
              | true =>
                obtain ⟨ta, ts, rfl, hta⟩ := isT_at hi
                have hp2 := parts_of' hta
                rw [hp2] at q
                have tk := k3 _ _ rfl ts hp2
                have q : ∀ H', Kt Ps H H' → Q (.bl (ts.all (tieB H i))) H' := q
                refine ⟨.ref ta, rfl, ta, rfl, ⟨_, SqT.of hta⟩, hT Pt hPt, fun j m H' => j + m = ts.length ∧ Kt Ps H H' ∧ (ts.take j).all (tieB H i) = true, fun H2 hH2 => ⟨ts.length, by omega, Kt.tabbed hT hPt hH2, rfl⟩, fun j m H' hw => ?_⟩
                obtain ⟨em, kt, hal⟩ := hw
                have hta' := kt.tup hT hta
                by_cases hj : j < ts.length
                · refine .inr ⟨⟨_, _, SqT.of hta', List.getElem?_eq_getElem hj⟩, fun H3 => Kt Ps H H3 ∧ (ts.take (j + 1)).all (tieB H i) = true, fun H3 n3 => ⟨m - 1, by omega, by omega, n3.1, n3.2⟩, fun x H3 hy => ?_⟩
                  obtain ⟨rfl, fy⟩ := hy
                  have ex : ts[j]? = some x := fy _ (SqT.of hta')
                  have tx := tk x (List.mem_of_getElem? ex)
                  refine ⟨rfl, .int i, rfl, x, rfl, i, x, rfl, tx.kt kt hT, _, rfl, ?_⟩
                  rw [tie_kt kt hT tx]
                  have step : (ts.take (j + 1)).all (tieB H i) = tieB H i x := by
                    rw [List.take_add_one, ex, List.all_append, hal]
                    simp
                  cases hb : tieB H i x with
                  | true => exact ⟨kt, step.trans hb⟩
                  | false =>
                    have no : ts.all (tieB H i) = false := by
                      rw [Bool.eq_false_iff]
                      intro z
                      rw [List.all_eq_true] at z
                      rw [z x (List.mem_of_getElem? ex)] at hb
                      cases hb
                    rw [no] at q
                    exact q _ kt
                · refine .inl ⟨⟨_, SqT.of hta', by omega⟩, ?_⟩
                  rw [List.take_of_length_le (by omega)] at hal
                  rw [hal] at q
                  exact q _ kt
            · rw [decide_eq_false h1] at q ⊢
              exact q _ (Kt.refl hT)
          | bl _ => exact q _ (Kt.refl hT)
          | non => exact q _ (Kt.refl hT)
          | str _ => exact q _ (Kt.refl hT)
          | ref _ => exact q _ (Kt.refl hT)
          | byt x => exact km.elim
          | flt x => exact km.elim
          | ty x => exact km.elim
      · rw [decide_eq_false hl]
        refine (?_ : Q (.bl false) H)
        match xs, hl, q with
        | [], _, q => exact q _ (Kt.refl hT)
        | [x], _, q => cases x <;> exact q _ (Kt.refl hT)
        | [_, _], hl, _ => exact absurd rfl hl
        | x :: _ :: _ :: _, _, q => cases x <;> exact q _ (Kt.refl hT)
end
/-! ### first, *rest = a list -/
section
variable {X : Cx} {pos : Pos}
def gStarL (K : PySem.W.Frag) (t : TGs) : TG := fun v σ H Q => ∃ a x xs, v = .ref a ∧ SqL K H a (x :: xs) ∧ xs.length ≤ 16000 ∧ ∀ D, H D = none → t [x, .ref D] σ (upd H D (.lst xs)) Q
theorem pgs_star {e : Expr} {p : Pos} {es : List Expr} {t : TG} {u : TGs} (h1 : PG X e t) (h2 : PGs X es u)
    (hs : (assignEach (.Starred e p :: es) X.env).map (·.2) = assign e X.env :: (assignEach es X.env).map (·.2) := by rfl) : PGs X (.Starred e p :: es) (gCons t u) := by
  refine ⟨fun pins s σ H vs us Q I r h => ?_⟩
  obtain ⟨v, vr, e1, h⟩ := h
  subst e1
  cases r with
  | cons r rr =>
    rw [hs]
    refine assignInOrder_cons (thn (h1.run pins s σ H _ _ _ I r h) fun _ s1 ⟨σ1, H1, I1, q1⟩ => ?_)
    exact h2.run pins s1 σ1 H1 _ _ Q I1 rr q1
theorem pg_starL {es : List Expr} {k : Nat} {t : TGs} (hc : X.calm = true) (h : PGs X es t)
    (hn : (assignEach es X.env).length = 2 := by rfl) (hst : (assignEach es X.env).findIdx? (·.1) = some 1 := by rfl) : PG X (.Tuple es k pos) (gStarL X.K t) := by
  refine ⟨fun pins s σ H v u Q I r hw => ?_⟩
  obtain ⟨a, x, xs, e1, hq, hlen, hw⟩ := hw
  subst e1
  cases r
  obtain ⟨its, rv, pl, hz⟩ := I.list hq
  have hl' : s.heap.IsList a its.toArray := by
    obtain ⟨o, m, e, c, d, q⟩ := pl
    exact ⟨o, e, c, m, q⟩
  cases rv with
  | @cons _ y _ ys r1 rr =>
    have hh := I.ok.hd hc
    rw [PyProof.Rows.assign_Tuple]
    refine wpAny_bind (wpAny_standAt ?_)
    unfold unpack
    rw [hn, hst]
    refine wpAny_bind (wpAny_holding ?_)
    have hlt : a ≠ s.heap.objs.size := by obtain ⟨o, ho, _⟩ := hl'; exact Nat.ne_of_lt (Heap.lt_size ho)
    unfold unpackItems
    refine wpAny_bind ?_
    unfold notIterableAtAll
    refine wpAny_bind (wpAny_specialOf hl'.typeIs slot_list_iter.lookup ?_)
    refine wpAny_pure ?_
    simp only [Bool.false_eq_true, if_false]
    refine wpAny_bind (wpAny_holding (wpAny_pyIter_list hl' ?_))
    refine wpAny_bind (wpAny_holding (PySem.W.kun_draw hlt 1 0 _ _ ⟨_, Heap.get?_push_size _ rfl, rfl, rfl⟩ (hl'.push _) (by show 0 + 1 ≤ _; simp) fun h₁ hit₁ hs₁ => ?_))
    have hl₁ : h₁.IsList a (y :: ys).toArray := (hl'.push _).extBut hs₁.extBut hlt
    have hit₁' := hit₁
    obtain ⟨oi, hoi, _⟩ := hit₁'
    have hl₁' := hl₁
    obtain ⟨ol, hol, _⟩ := hl₁'
    have hys : ys.length ≤ 16000 := by
      have := rr.length
      omega
    have e0 : (((y :: ys).toArray.toList.drop 0).take 1) = [y] := rfl
    rw [e0]
    rw [if_neg (show ¬ ([y].length < 1) by simp)]
    refine wpAny_bind (wpAny_holding (PySem.W.kun_collect (s := { s with heap := h₁ }) (T := "list_iterator") (.inr (.inr (.inl rfl))) (PySem.Walks.list (A := X.A.in1) hh s.heap.objs.size a hlt (y :: ys).toArray) (fun j u st => st.1.typeIs) (k := 1) (by simp) ⟨hit₁, hl₁⟩ (Heap.lt_size hoi) (Heap.lt_size hol) (fun h₂ tk hk => ?_) (by rw [sizeLine_eq]; simp; omega)))
    have er : ((y :: ys).toArray.toList.drop 1) = ys := rfl
    rw [er]
    show wpAny _ _ (if ys.length < 2 - 1 - 1 then _ else _) _ _ _
    rw [if_neg (by omega)]
    have hm : ys.take (ys.length - (2 - 1 - 1)) = ys := List.take_of_length_le (by omega)
    show wpAny _ _ (newList (ys.take (ys.length - (2 - 1 - 1))) >>= fun d => pure ([y] ++ [d] ++ ys.drop (ys.length - (2 - 1 - 1)))) _ _ _
    rw [hm]
    have hkept : ∀ b o, s.heap.get? b = some o → h₂.get? b = some o := fun b o e => hk b o (Nat.ne_of_lt (Heap.lt_size e)) (hs₁.extBut b o (Nat.ne_of_lt (Heap.lt_size e)) (Heap.get?_push_of_some _ e))
    have I2 : Inv X pins σ H { s with heap := h₂, toks := tk } := I.kept hkept
    have hp := I2.hok.fresh (Nat.le_refl _)
    refine wpAny_bind (wpAny_newList ?_ (by rw [sizeLine_eq]; omega))
    refine wpAny_pure ?_
    have hd : ys.drop (ys.length - (2 - 1 - 1)) = [] := List.drop_of_length_le (by omega)
    rw [hd]
    have I3 : Inv X pins σ (upd H h₂.objs.size (.lst xs)) { s with heap := h₂.push { cls := .type "list", data := .seq ys.toArray }, toks := tk } :=
      I2.laid (fun b u q => Heap.get?_push_of_some _ q) (Nat.le_refl _) ⟨by rw [sizeLine_eq]; omega, ys, _, rr, Heap.get?_push_size _ rfl⟩
    exact h.run pins _ σ _ [x, .ref h₂.objs.size] _ Q I3 (.cons r1 (.cons rfl .nil)) (hw _ hp)
end
/-! ### webs written: the texts -/
open TL
def numS (x : Int) : Str := toString x
def sSp : Str := " "
def sNl : Str := "\n"
def sWeb : Str := "web"
structure GoodN (x : Int) : Prop where
  lo : 0 ≤ x
  hi : x < 10 ^ 31
def wsL (W : Option (List Int)) (i : Nat) : List Str := match W with
  | none => []
  | some ws => [numS (ws.getD i 0)]
def wordsL (W : Option (List Int)) (i : Nat) (t : Tie) : List Str := [numS t.one, numS t.other, kindS t.foe] ++ wsL W i
def rowsL (W : Option (List Int)) (ts : List Tie) : List (List Str) := ts.mapIdx (wordsL W)
def headS (n : Int) : Str := Txt.join sSp [sWeb, numS n]
def lineS (ws : List Str) : Str := Txt.join sSp ws
def linesL (n : Int) (ts : List Tie) (W : Option (List Int)) : List Str := headS n :: (rowsL W ts).map lineS
def textS (n : Int) (ts : List Tie) (W : Option (List Int)) : Str := Txt.join sNl (linesL n ts W)
/-- the weights are those of the ties -/
def WtsG (ts : List Tie) (W : Option (List Int)) : Prop := ∀ ws, W = some ws → ws.length = ts.length ∧ ∀ x ∈ ws, 1 ≤ x ∧ x ≤ 10 ^ 30
theorem tl_numS {x : Int} (h : 0 ≤ x) : tl (numS x) = numL x.toNat := by
  obtain ⟨k, rfl⟩ := Int.eq_ofNat_of_zero_le h
  exact tl_num k
theorem numS_free {x : Int} (h : 0 ≤ x) {s : Nat} (hs : s < 48 ∨ 57 < s) : s ∉ tl (numS x) := by
  rw [tl_numS h]
  exact numL_free hs
theorem numS_len {x : Int} (h : GoodN x) : (tl (numS x)).length ≤ 31 := by
  rw [tl_numS h.lo]
  refine numL_len (by decide) ?_
  have := h.hi
  have e : ((10 : Int) ^ 31) = ((10 ^ 31 : Nat) : Int) := by decide
  rw [e] at this
  have l := h.lo
  omega
theorem numS_ne {x : Int} (h : GoodN x) : tl (numS x) ≠ [] := by
  rw [tl_numS h.lo]
  exact numL_ne _
theorem int_numS {x : Int} (h : GoodN x) : PySem.intText? (numS x) = some x := by
  obtain ⟨k, rfl⟩ := Int.eq_ofNat_of_zero_le h.lo
  have l := numS_len h
  rw [tl_numS h.lo] at l
  exact int_num (n := k) (by have e : ((k : Int)).toNat = k := rfl; rw [e] at l; omega)
theorem tl_sSp : tl sSp = 32 :: [] := by decide
theorem tl_sNl : tl sNl = 10 :: [] := by decide
theorem kindS_free : ∀ b : Bool, 32 ∉ tl (kindS b) ∧ 10 ∉ tl (kindS b) ∧ (tl (kindS b)).length ≤ 31 := by decide
theorem web_free : 32 ∉ tl sWeb ∧ 10 ∉ tl sWeb ∧ (tl sWeb).length ≤ 31 := by decide
/-- a word: no blank, no end of line, thirty-one signs at most -/
def Word (w : Str) : Prop := 32 ∉ tl w ∧ 10 ∉ tl w ∧ (tl w).length ≤ 31
theorem word_num {x : Int} (h : GoodN x) : Word (numS x) := ⟨numS_free h.lo (.inl (by decide)), numS_free h.lo (.inl (by decide)), numS_len h⟩
theorem joinL_free {S : List Nat} {s : Nat} (hS : s ∉ S) : ∀ {l : List (List Nat)}, (∀ p ∈ l, s ∉ p) → s ∉ joinL S l
  | [], _ => by simp [joinL]
  | [p], h => h p (by simp)
  | p :: q :: r, h => by
    show s ∉ p ++ (S ++ joinL S (q :: r))
    intro z
    rcases List.mem_append.mp z with z | z
    · exact h p (by simp) z
    rcases List.mem_append.mp z with z | z
    · exact hS z
    · exact joinL_free hS (fun y hy => h y (List.mem_cons_of_mem _ hy)) z
theorem joinL_len {S : List Nat} {m : Nat} : ∀ {l : List (List Nat)}, (∀ p ∈ l, p.length ≤ m) → (joinL S l).length ≤ l.length * (m + S.length)
  | [], _ => by simp [joinL]
  | [p], h => by
    have := h p (by simp)
    show p.length ≤ 1 * _
    omega
  | p :: q :: r, h => by
    have h1 := h p (by simp)
    have h2 := joinL_len (S := S) (l := q :: r) (fun y hy => h y (List.mem_cons_of_mem _ hy))
    show (p ++ (S ++ joinL S (q :: r))).length ≤ ((q :: r).length + 1) * _
    rw [List.length_append, List.length_append, Nat.add_mul]
    omega
theorem words_line {l : List Str} (h : ∀ x ∈ l, Word x) (h4 : l.length ≤ 4) : 10 ∉ tl (lineS l) ∧ (tl (lineS l)).length ≤ 128 := by
  unfold lineS
  rw [join_eq, tl_join, tl_sSp]
  refine ⟨joinL_free (by decide) fun p hp => ?_, Nat.le_trans (joinL_len (m := 31) fun p hp => ?_) ?_⟩
  · obtain ⟨z, hz, rfl⟩ := List.mem_map.mp hp
    exact (h z hz).2.1
  · obtain ⟨z, hz, rfl⟩ := List.mem_map.mp hp
    exact (h z hz).2.2
  · rw [List.length_map]
    show l.length * (31 + 1) ≤ 128
    omega
theorem split_words {l : List Str} (h : ∀ x ∈ l, Word x) (h0 : l ≠ []) : Txt.split (lineS l) sSp = l := split_join tl_sSp (by decide +kernel) h0 fun p hp => (h p hp).1
theorem good_small {n : Int} (h0 : 0 ≤ n) (h : n ≤ 1000) : GoodN n := ⟨h0, Int.lt_of_le_of_lt h (by decide)⟩
theorem good_wt {x : Int} (h : 1 ≤ x ∧ x ≤ 10 ^ 30) : GoodN x := ⟨by omega, Int.lt_of_le_of_lt h.2 (by decide)⟩
theorem words_ok {n : Int} {ts : List Tie} {W : Option (List Int)} (ok : WebOk n ts) (hw : WtsG ts W) {i : Nat} {t : Tie} (ht : ts[i]? = some t) : ∀ x ∈ wordsL W i t, Word x := by
  obtain ⟨a0, a1, b0, b1, _⟩ := ok.ok t (List.mem_of_getElem? ht)
  have n40 := ok.hi
  intro x hx
  rcases List.mem_append.mp hx with h | h
  · simp only [List.mem_cons, List.not_mem_nil, or_false] at h
    rcases h with rfl | rfl | rfl
    · exact word_num (good_small a0 (by omega))
    · exact word_num (good_small b0 (by omega))
    · exact kindS_free _
  · cases W with
    | none => cases h
    | some ws =>
      rw [List.mem_singleton.mp h]
      obtain ⟨l, hh⟩ := hw ws rfl
      have li : i < ws.length := by rw [l]; exact (List.getElem?_eq_some_iff.mp ht).1
      rw [List.getD_eq_getElem?_getD, List.getElem?_eq_getElem li]
      exact word_num (good_wt (hh _ (List.getElem_mem li)))
theorem words_len {W : Option (List Int)} {i : Nat} {t : Tie} : (wordsL W i t).length ≤ 4 := by
  cases W <;> simp [wordsL, wsL]
theorem words_ne {W : Option (List Int)} {i : Nat} {t : Tie} : wordsL W i t ≠ [] := by simp [wordsL]
theorem rows_at {W : Option (List Int)} {ts : List Tie} {r : List Str} (h : r ∈ rowsL W ts) : ∃ i t, ts[i]? = some t ∧ r = wordsL W i t := by
  obtain ⟨i, hi⟩ := List.getElem?_of_mem h
  unfold rowsL at hi
  rw [List.getElem?_mapIdx] at hi
  obtain ⟨t, h1, h2⟩ := Option.map_eq_some_iff.mp hi
  exact ⟨i, t, h1, h2.symm⟩
theorem rows_take {W : Option (List Int)} {ts : List Tie} {i : Nat} {t : Tie} (h : ts[i]? = some t) : rowsL W (ts.take (i + 1)) = rowsL W (ts.take i) ++ [wordsL W i t] := by
  have li := (List.getElem?_eq_some_iff.mp h).1
  unfold rowsL
  rw [List.take_add_one, h]
  show (ts.take i ++ [t]).mapIdx _ = _
  rw [List.mapIdx_concat, List.length_take, Nat.min_eq_left (by omega)]
theorem rows_len {W : Option (List Int)} {ts : List Tie} : (rowsL W ts).length = ts.length := by simp [rowsL]
theorem head_ok {n : Int} {ts : List Tie} (ok : WebOk n ts) : ∀ x ∈ [sWeb, numS n], Word x := by
  have := ok.lo
  have := ok.hi
  intro x hx
  simp only [List.mem_cons, List.not_mem_nil, or_false] at hx
  rcases hx with rfl | rfl
  · exact web_free
  · exact word_num (good_small (by omega) (by omega))
theorem lines_ok {n : Int} {ts : List Tie} {W : Option (List Int)} (ok : WebOk n ts) (hw : WtsG ts W) : ∀ x ∈ linesL n ts W, 10 ∉ tl x ∧ (tl x).length ≤ 128 := by
  intro x hx
  rcases List.mem_cons.mp hx with rfl | hx
  · exact words_line (head_ok ok) (by show 2 ≤ 4; omega)
  · obtain ⟨r, hr, rfl⟩ := List.mem_map.mp hx
    obtain ⟨i, t, h1, rfl⟩ := rows_at hr
    exact words_line (words_ok ok hw h1) words_len
theorem lines_len {n : Int} {ts : List Tie} {W : Option (List Int)} : (linesL n ts W).length = ts.length + 1 := by
  show ((rowsL W ts).map lineS).length + 1 = _
  rw [List.length_map, rows_len]
theorem split_text {n : Int} {ts : List Tie} {W : Option (List Int)} (ok : WebOk n ts) (hw : WtsG ts W) : Txt.split (textS n ts W) sNl = linesL n ts W :=
  split_join tl_sNl (by decide +kernel) (by simp [linesL]) fun p hp => (lines_ok ok hw p hp).1
theorem text_len {n : Int} {ts : List Tie} {W : Option (List Int)} (ok : WebOk n ts) (hw : WtsG ts W) : (textS n ts W).length ≤ 20000 := by
  rw [len_tl]
  unfold textS
  rw [join_eq, tl_join, tl_sNl]
  refine Nat.le_trans (joinL_len (m := 128) fun p hp => ?_) ?_
  · obtain ⟨z, hz, rfl⟩ := List.mem_map.mp hp
    exact (lines_ok ok hw z hz).2
  · rw [List.length_map, lines_len]
    have := ok.few
    show (ts.length + 1) * (128 + 1) ≤ 20000
    omega
/-! ### of texts -/
open TL
theorem log_good {x : Int} (h : GoodN x) : x.natAbs.log2 < 1920 := by
  by_cases hx : x.natAbs = 0
  · rw [hx]
    decide
  · have h0 := h.lo
    have h1 := h.hi
    have e : (10 : Int) ^ 31 < ((2 ^ 110 : Nat) : Int) := by decide
    refine (Nat.log2_lt hx).mpr (Nat.lt_of_lt_of_le (show x.natAbs < 2 ^ 110 from ?_) (Nat.pow_le_pow_right (by decide) (by decide)))
    generalize (2 : Nat) ^ 110 = m at e ⊢
    generalize (10 : Int) ^ 31 = k at e h1
    omega
/-- the weights beside the web -/
def WtAt (H : Hp) (v : V) (W : Option (List Int)) : Prop := match W with
  | none => v = .non
  | some ws => ∃ a, v = .ref a ∧ H a = some (.tup (ws.map V.int))
theorem WtAt.tk {H H' : Hp} (k : Tk H H') {v : V} {W : Option (List Int)} (h : WtAt H v W) : WtAt H' v W := by
  cases W with
  | none => exact h
  | some ws =>
    obtain ⟨a, e, h⟩ := h
    exact ⟨a, e, k _ _ h⟩
def spShow : Sp := fun vs H Q _ => ∃ (wv gv : V) (n : Int) (ts : List Tie) (W : Option (List Int)), vs = [wv, gv] ∧ WebAt H wv n ts ∧ WebOk n ts ∧ WtAt H gv W ∧ WtsG ts W ∧ ∀ H', Same H H' → Q (.str (textS n ts W)) H'
theorem one_word {a b : Str} (ha : (tl a).length ≤ 200) (hb : (tl b).length ≤ 200) : (a ++ b).length ≤ sizeLine := by
  rw [sizeLine_eq, len_tl, tl_append, List.length_append]
  omega
theorem head_eq (n : Int) : (Str.empty ++ ("web " : Str)) ++ (toString n : Str) = headS n := by
  refine ext_tl ?_
  rw [tl_append, tl_append]
  unfold headS
  rw [join_eq, tl_join]
  rfl
theorem line_eq (a b k : Str) : Str.empty ++ a ++ (" " : Str) ++ b ++ (" " : Str) ++ k = lineS [a, b, k] := by
  refine ext_tl ?_
  unfold lineS
  rw [join_eq, tl_join]
  simp only [tl_append]
  show ([] ++ tl a ++ tl sSp ++ tl b ++ tl sSp ++ tl k) = tl a ++ (tl sSp ++ (tl b ++ (tl sSp ++ tl k)))
  simp only [List.nil_append, List.append_assoc]
theorem line_eq4 (a b k w : Str) : Str.empty ++ lineS [a, b, k] ++ (" " : Str) ++ w = lineS [a, b, k, w] := by
  refine ext_tl ?_
  unfold lineS
  simp only [join_eq, tl_append, tl_join]
  show ([] ++ (tl a ++ (tl sSp ++ (tl b ++ (tl sSp ++ tl k)))) ++ tl sSp ++ tl w) = tl a ++ (tl sSp ++ (tl b ++ (tl sSp ++ (tl k ++ (tl sSp ++ tl w)))))
  simp only [List.nil_append, List.append_assoc]
theorem app_len (a b : Str) : (a ++ b).length = a.length + b.length := by
  rw [len_tl, tl_append, List.length_append, ← len_tl, ← len_tl]
theorem lens5 {a b k : Str} (ha : a.length ≤ 31) (hb : b.length ≤ 31) (hk : k.length ≤ 31) : (Str.empty ++ a).length ≤ sizeLine ∧ (Str.empty ++ a ++ (" " : Str)).length ≤ sizeLine ∧ (Str.empty ++ a ++ (" " : Str) ++ b).length ≤ sizeLine ∧ (Str.empty ++ a ++ (" " : Str) ++ b ++ (" " : Str)).length ≤ sizeLine ∧ (Str.empty ++ a ++ (" " : Str) ++ b ++ (" " : Str) ++ k).length ≤ sizeLine := by
  have e0 : Str.empty.length = 0 := by decide
  have e1 : (" " : Str).length = 1 := by decide
  rw [sizeLine_eq]
  simp only [app_len, e0, e1]
  omega
theorem lens3 {a b : Str} (ha : a.length ≤ 128) (hb : b.length ≤ 31) : (Str.empty ++ a).length ≤ sizeLine ∧ (Str.empty ++ a ++ (" " : Str)).length ≤ sizeLine ∧ (Str.empty ++ a ++ (" " : Str) ++ b).length ≤ sizeLine := by
  have e0 : Str.empty.length = 0 := by decide
  have e1 : (" " : Str).length = 1 := by decide
  rw [sizeLine_eq]
  simp only [app_len, e0, e1]
  omega
theorem sum_le_mul {m : Nat} : ∀ {l : List Nat}, (∀ x ∈ l, x ≤ m) → l.sum ≤ l.length * m
  | [], _ => by simp
  | x :: r, h => by
    have h1 := h x (by simp)
    have h2 := sum_le_mul (l := r) fun y hy => h y (List.mem_cons_of_mem _ hy)
    rw [List.sum_cons, List.length_cons, Nat.add_mul]
    omega
theorem Word.le {x : Str} (h : Word x) : x.length ≤ 31 := by
  rw [len_tl]
  exact h.2.2
theorem Same.mut {H H' : Hp} {l : Addr} {o : HO} (s : Same H H') (h : H l = none) : Same H (upd H' l o) := fun b u e => by
  rw [upd_ne (ne_of_none e h)]
  exact s b u e
/-! ### own refusals -/
/-- a class of refusals, at D, named x, under WebError, at W -/
structure RefT (K : PySem.W.Frag) (mg : Str → Option Value) (x : Str) (D W : Addr) : Prop where
  gD : mg x = some (.ref D)
  gW : mg "WebError" = some (.ref W)
  exc : PySem.W.excIn K D [.type "ValueError", .type "Exception", .type "BaseException", .type "object"] "ValueError.__new__" = true
  kD : PySem.W.keepIn K (.ref D) = true
  tD : PySem.W.typeIn K (.ref D) = some (.type "type")
  ec : ExcC K D
  web : PySem.W.exmOne K (.ref D) (.ref W) = some true
/-- what isinstance tells of its refusals: of the class named x, at C, b -/
structure KitT (K : PySem.W.Frag) (mg : Str → Option Value) (D : Addr) (x : Str) (C : Addr) (b : Bool) : Prop where
  g : mg x = some (.ref C)
  k : PySem.W.kitOne K (.ref D) (.ref C) = some b
section
variable {X : Cx}
def rIsX (K : PySem.W.Frag) (a : Addr) (cls : Value) (d : Option Addr) : List V → Hp → VK → Prop := fun xs H Q => ∃ D, ExcC K D ∧ cls = .ref D ∧ d = none ∧ rIsE K D a xs H Q
theorem call_isX {a : Addr} {cls : Value} {d : Option Addr} {oe : Obj} {pn : List (Addr × Obj)} (hz : Zc cls d oe) (hf : ∃ vs, oe.data = .fields vs) : CallR (X.suite a ((a, oe) :: pn)) (.builtin "isinstance") (rIsX X.K a cls d) := by
  intro pins s σ H xs us Q I r h
  obtain ⟨D, C, rfl, rfl, h⟩ := h
  exact call_isE C hz hf pins s σ H xs us Q I r h
end
def DfX (P : Program) (w : World) (K : PySem.W.Frag) (mg : Str → Option Value) (base : Heap) (k : Nat) (x : Str) (ps : List Str) (sp : Sp) : Prop :=
  ∃ (f : Addr) (fd : FuncData), FnOk P w K mg base (L2.CX P w) k f fd ps sp ∧ mg x = some (.ref f) ∧ PySem.W.keepIn K (.ref f) = true ∧ Binds K fd ps []
theorem DfX.of {P : Program} {w : World} {K : PySem.W.Frag} {mg : Str → Option Value} {base : Heap} {x : Str} {st : Stmt} {f : Addr} {fd : FuncData} {k : Nat} {ps : List Str} {sp : Sp} (g : mg x = some (.ref f)) (F : Fun K x x st f fd) (G : FnOk P w K mg base (L2.CX P w) k f fd ps sp)
    (h : ∀ (kV doc pm : Value) (an : Option Addr) (cdv ct : Value) (us : List Value), us.length = ps.length → bindArgs (PySem.W.fnOf x x (defArgs st) (defBody st) (defScope st) .none kV doc pm an cdv ct) ⟨us, []⟩ = pure (ps.zip us)) : DfX P w K mg base k x ps sp :=
  ⟨f, fd, G, g, F.kp, F.binds h⟩
/-- where a class of refusals stands -/
structure ErrK (K : PySem.W.Frag) (x : Str) (D W : Addr) : Prop where
  ns : PySem.W.nsIn K mainGlobals x = some (some (.ref D))
  nw : PySem.W.nsIn K mainGlobals "WebError" = some (some (.ref W))
  exc : PySem.W.excIn K D [.type "ValueError", .type "Exception", .type "BaseException", .type "object"] "ValueError.__new__" = true
  kD : PySem.W.keepIn K (.ref D) = true
  tD : PySem.W.typeIn K (.ref D) = some (.type "type")
  ec : ExcC K D
  web : PySem.W.exmOne K (.ref D) (.ref W) = some true
theorem errK_mk {K : PySem.W.Frag} {x : Str} {D W : Addr} (p1 : PySem.W.nsIn K mainGlobals x = some (some (.ref D))) (p2 : PySem.W.nsIn K mainGlobals "WebError" = some (some (.ref W)))
    (p3 : PySem.W.excIn K D [.type "ValueError", .type "Exception", .type "BaseException", .type "object"] "ValueError.__new__" = true) (p4 : PySem.W.keepIn K (.ref D) = true) (p5 : PySem.W.typeIn K (.ref D) = some (.type "type"))
    (p6 : PySem.W.findIn K (.ref D) "__getattribute__" = some (some (.builtin "BaseException.__getattribute__"))) (p7 : PySem.W.findIn K (.ref D) "__getattr__" = some none) (p8 : PySem.W.subIn K (.ref D) (.type "BaseException") = some true) (p9 : PySem.W.hasDictIn K D = true)
    (p10 : PySem.W.findIn K (.ref D) "__class__" = some (some (.builtin "object.__class__"))) (p11 : PySem.W.specialIn K (.builtin "object.__class__") "__get__" = some (some (.builtin "getset_descriptor.__get__"))) (p12 : PySem.W.takesIn K (.builtin "object.__class__") = some true) (p13 : PySem.W.mroIn K D (.type "object") = some true)
    (p14 : PySem.W.subIn K (.ref W) (.type "BaseException") = some true) (p15 : PySem.W.hasDictIn K W = true) (p16 : PySem.W.typeIn K (.ref W) = some (.type "type")) (p17 : PySem.W.subIn K (.ref D) (.ref W) = some true) : ErrK K x D W :=
  ⟨p1, p2, p3, p4, p5, ⟨p6, p7, p8, p9, p10, p11, p12, p13⟩, PySem.W.exm_ref p14 p15 p16 p17⟩
theorem ErrK.ref {K : PySem.W.Frag} {mg : Str → Option Value} {h : Heap} {x : Str} {D W : Addr} (e : ErrK K x D W) (X : K.In h) (G : h.Ns mainGlobals mg) : RefT K mg x D W :=
  ⟨PySem.W.mg_of X G e.ns, PySem.W.mg_of X G e.nw, e.exc, e.kD, e.tD, e.ec, e.web⟩
structure KitK (K : PySem.W.Frag) (D : Addr) (x : Str) (C : Addr) (b : Bool) : Prop where
  ns : PySem.W.nsIn K mainGlobals x = some (some (.ref C))
  k : PySem.W.kitOne K (.ref D) (.ref C) = some b
theorem kitK_mk {K : PySem.W.Frag} {D : Addr} {x : Str} {C : Addr} {b : Bool} (p1 : PySem.W.nsIn K mainGlobals x = some (some (.ref C))) (p2 : PySem.W.kitOne K (.ref D) (.ref C) = some b) : KitK K D x C b := ⟨p1, p2⟩
theorem KitK.kit {K : PySem.W.Frag} {mg : Str → Option Value} {h : Heap} {D : Addr} {x : Str} {C : Addr} {b : Bool} (e : KitK K D x C b) (X : K.In h) (G : h.Ns mainGlobals mg) : KitT K mg D x C b := ⟨PySem.W.mg_of X G e.ns, e.k⟩
/-! ### numbers read -/
open TL
def figS : Str := "0123456789"
def wnumB (x : Str) : Bool := decide (1 ≤ x.length) && (decide (x.length ≤ 31) && (!(decide (x.cps.toList.head? = some 48) && !decide (x = (⟨#[48]⟩ : Str))) && x.cps.toList.all fun c => decide (c ∈ figS.cps.toList)))
def spWrites (Ps : List Addr) : Sp := fun vs H Q _ => ∃ x : Str, vs = [.str x] ∧ x.length ≤ sizeLine ∧ Tabs Ps H ∧ ∀ H', Kt Ps H H' → Q (.bl (wnumB x)) H'
theorem sign_eq {c : Nat} {d : Nat} : (decide (V.str (⟨#[c]⟩ : Str) = V.str (⟨#[d]⟩ : Str))) = decide (c = d) := by
  by_cases h : c = d
  · rw [h, decide_eq_true rfl, decide_eq_true rfl]
  · rw [decide_eq_false h, decide_eq_false]
    intro z
    have z1 := congrArg (fun y : Str => y.cps.toList) (V.str.inj z)
    have z2 : [c] = [d] := z1
    exact h (List.cons.inj z2).1
theorem all_figs {Ps : List Addr} {Pt : Addr} {x : Str} {H : Hp} {Q : VK} (hT : Tabs Ps H) (hPt : Pt ∈ Ps) (q : ∀ H', Kt Ps H H' → Q (.bl (x.cps.toList.all fun c => decide (c ∈ figS.cps.toList))) H') :
    tAll Pt (iStr (tVar 0)) (gName 1) (tOp (fun x y H Q => ∃ (c : Nat) (z : Str), x = V.str ⟨#[c]⟩ ∧ y = V.str z ∧ Q (V.bl (decide (c ∈ z.cps.toList))) H) (tVar 1) (tC (V.str figS))) [1] [some (.str x), none] H Q := by
  refine ⟨.str x, rfl, x, rfl, hT Pt hPt, fun j m H' => j + m = x.cps.size ∧ Kt Ps H H' ∧ ((x.cps.toList.take j).all fun c => decide (c ∈ figS.cps.toList)) = true, fun H2 hH2 => ⟨x.cps.size, by omega, Kt.tabbed hT hPt hH2, rfl⟩, fun j m H' hw => ?_⟩
  obtain ⟨em, kt, hal⟩ := hw
  by_cases hj : j < x.cps.size
  · refine .inr ⟨hj, fun H3 => Kt Ps H H3 ∧ ((x.cps.toList.take (j + 1)).all fun c => decide (c ∈ figS.cps.toList)) = true, fun H3 n3 => ⟨m - 1, by omega, by omega, n3.1, n3.2⟩, fun v H3 hy => ?_⟩
    obtain ⟨rfl, c, hc, rfl⟩ := hy
    have ex : x.cps.toList[j]? = some c := by rw [Array.getElem?_toList]; exact hc
    have step : ((x.cps.toList.take (j + 1)).all fun c => decide (c ∈ figS.cps.toList)) = decide (c ∈ figS.cps.toList) := by
      rw [List.take_add_one, ex, List.all_append, hal]
      simp
    refine ⟨rfl, .str ⟨#[c]⟩, rfl, c, figS, rfl, rfl, _, rfl, ?_⟩
    cases hb : decide (c ∈ figS.cps.toList) with
    | true => exact ⟨kt, step.trans hb⟩
    | false =>
      have no : (x.cps.toList.all fun c => decide (c ∈ figS.cps.toList)) = false := by
        rw [Bool.eq_false_iff]
        intro z
        rw [List.all_eq_true] at z
        rw [z c (List.mem_of_getElem? ex)] at hb
        cases hb
      rw [no] at q
      exact q _ kt
  · refine .inl ⟨by show x.cps.size ≤ j; omega, ?_⟩
    rw [List.take_of_length_le (by rw [Array.length_toList]; omega)] at hal
    rw [hal] at q
    exact q _ kt
section
variable {P : Program} {w : World} {K : PySem.W.Frag} {mg : Str → Option Value} {base : Heap}
set_option maxHeartbeats 4000000 in
theorem ok_writes_number {f c Pt : Addr} {fd : FuncData} {t1 t2 : Tok} {Ps : List Addr} (F : FunC K "writes_number" "writes_number" s_writes_number f fd c) (TB : GxR.TabB base mg c Pt) (hPt : Pt ∈ Ps) (M : Free mg) (m_all : mg "all" = none) (gM : mg "MOST_FIGURES" = some (.int 31 t1)) (gF : mg "FIGURES" = some (.str figS t2)) : FnOk P w K mg base CX0 2 f fd ["word"] (spWrites Ps) := by
  refine F.ok sc_writes_number (fun vs H Q E h => ?_) (fun A outer s H vs Q E hr h => ?_)
  · obtain ⟨x, rfl, _⟩ := h
    rfl
  · obtain ⟨x, rfl, hx, hT, q⟩ := h
    refine ⟨_, (pss_cons (ps_if (pt_not (pt_chain op_le op_le pe_int (pe_callB call_len_str (by rfl) M.len PySem.boot_len (pa_cons (pv 0) pa_nil)) (pe_glob (v := .int 31) rfl gM ⟨_, rfl⟩)))
        (pss_one (ps_ret pe_bl))
        pss_nil)
      (pss_cons (ps_if (PW.pt (pw_and (pt_cmpR op_eq (pe_ix ix_str (pv 0) pe_int (fun _ _ => rfl)) pe_str (nomark _)) (pw_and1 (pt_cmpR op_ne (pv 0) pe_str (nomark _)))))
        (pss_one (ps_ret pe_bl))
        pss_nil)
      (pss_one (ps_ret (pe_all (k := 0) (own := [("sign", 1)]) (g := gName 1) hr TB rfl rfl sc_writes_number.nd (by rfl) m_all (pi_str (pv 0)) (blkOk_by (N := N_writes_number) (sc := defScope s_writes_number) (own := [("sign", 1)]) (by decide +kernel)) ⟨rfl, by decide +kernel, by decide +kernel⟩ (show (".0" : Str) ∉ N_writes_number by decide +kernel)
        (fun _ _ _ _ _ _ _ => pg_name (i := 1) sc_writes_number.nd rfl (.inl rfl)) (fun _ _ _ _ _ _ _ hr' => pe_cmpR op_in_sign (pv 1) (pe_glob (v := .str figS) rfl gF ⟨_, rfl⟩) rfl)))))), ?_⟩
    have h63 := line63
    refine ⟨.str x, rfl, x, rfl, hx, 1, _, rfl, rfl, _, rfl, ?_⟩
    unfold wnumB at q
    by_cases h1 : 1 ≤ x.length
    · rw [decide_eq_true h1, Bool.true_and] at q
      rw [decide_eq_true (show (1 : Int) ≤ (x.length : Int) by omega), if_pos rfl]
      refine ⟨_, 31, rfl, rfl, _, rfl, ?_⟩
      by_cases h2 : x.length ≤ 31
      · rw [decide_eq_true h2, Bool.true_and] at q
        rw [decide_eq_true (show (x.length : Int) ≤ 31 by omega)]
        have hne : 0 < x.cps.toList.length := by
          have e : x.cps.toList.length = x.length := (len_tl x).symm
          omega
        obtain ⟨c0, r0, ec⟩ : ∃ c0 r0, x.cps.toList = c0 :: r0 := by
          cases e : x.cps.toList with
          | nil => rw [e] at hne; cases hne
          | cons c0 r0 => exact ⟨c0, r0, rfl⟩
        refine ⟨.str x, rfl, x, 0, c0, rfl, rfl, hx, by rw [ec]; exact atI_nat (j := 0) rfl, ?_⟩
        have eh : x.cps.toList.head? = some c0 := by rw [ec]; rfl
        rw [eh] at q
        refine ⟨rfl, ?_⟩
        rw [show (V.str ("0" : Str)) = V.str (⟨#[48]⟩ : Str) from by decide +kernel, sign_eq]
        by_cases h3 : c0 = 48
        · rw [decide_eq_true (show some c0 = some 48 by rw [h3]), Bool.true_and, Bool.not_not] at q
          rw [decide_eq_true h3]
          refine ⟨_, rfl, .str x, rfl, rfl, ?_⟩
          by_cases h4 : x = ⟨#[48]⟩
          · rw [decide_eq_true h4, Bool.true_and] at q
            rw [decide_eq_true (show V.str x = V.str ⟨#[48]⟩ by rw [h4])]
            exact ⟨_, rfl, all_figs hT hPt q⟩
          · rw [decide_eq_false h4, Bool.false_and] at q
            rw [decide_eq_false (fun z => h4 (V.str.inj z))]
            exact ⟨_, rfl, q _ (Kt.refl hT)⟩
        · rw [decide_eq_false (show ¬ some c0 = some 48 from fun z => h3 (Option.some.inj z)), Bool.false_and, Bool.not_false, Bool.true_and] at q
          rw [decide_eq_false h3]
          exact ⟨_, rfl, all_figs hT hPt q⟩
      · rw [decide_eq_false h2, Bool.false_and] at q
        rw [decide_eq_false (show ¬ (x.length : Int) ≤ 31 by omega)]
        exact q _ (Kt.refl hT)
    · rw [decide_eq_false h1, Bool.false_and] at q
      rw [decide_eq_false (show ¬ (1 : Int) ≤ (x.length : Int) by omega)]
      exact ⟨_, rfl, q _ (Kt.refl hT)⟩
end
/-! ### numbers read back -/
open TL
theorem numL_head : ∀ n : Nat, 1 ≤ n → (numL n).head? ≠ some 48 := by
  intro n
  induction n using Nat.strongRecOn with
  | _ n ih =>
    intro h1
    by_cases h : n < 10
    · rw [numL_lt h]
      intro z
      have := Option.some.inj z
      omega
    · rw [numL_step (by omega)]
      have i := ih (n / 10) (by omega) (by omega)
      cases e : numL (n / 10) with
      | nil => exact absurd e (numL_ne _)
      | cons x r =>
        rw [e] at i
        exact i
theorem figs_mem : ∀ c : Nat, c < 58 → 48 ≤ c → c ∈ figS.cps.toList := by decide +kernel
theorem wnum_good {x : Int} (h : GoodN x) : wnumB (numS x) = true := by
  have hl := numS_len h
  have hn := numS_ne h
  have e := tl_numS h.lo
  have l1 : 1 ≤ (numS x).length := by
    rw [len_tl]
    exact List.length_pos_iff.mpr hn
  have l2 : (numS x).length ≤ 31 := by
    rw [len_tl]
    exact hl
  unfold wnumB
  rw [decide_eq_true l1, decide_eq_true l2, Bool.true_and, Bool.true_and, show (numS x).cps.toList = numL x.toNat from e]
  have hall : ((numL x.toNat).all fun c => decide (c ∈ figS.cps.toList)) = true := by
    rw [List.all_eq_true]
    intro c hc
    have := numL_digits _ c hc
    exact decide_eq_true (figs_mem c (by omega) (by omega))
  rw [hall, Bool.and_true]
  by_cases h0 : x = 0
  · have : numS x = ⟨#[48]⟩ := by rw [h0]; decide +kernel
    rw [decide_eq_true this]
    cases decide ((numL x.toNat).head? = some 48) <;> rfl
  · have hx := h.lo
    rw [decide_eq_false (numL_head _ (by omega))]
    rfl
def spReadNum (Ps : List Addr) : Sp := fun vs H Q _ => ∃ (x : Str) (k : Int), vs = [.str x] ∧ x = numS k ∧ GoodN k ∧ Tabs Ps H ∧ ∀ H', Kt Ps H H' → Q (.int k) H'
def spReadMany (Ps : List Addr) : Sp := fun vs H Q _ => ∃ (x : Str) (k : Int), vs = [.str x] ∧ x = headS k ∧ GoodN k ∧ Tabs Ps H ∧ ∀ H', Kt Ps H H' → Q (.int k) H'
/-- a list of lists of words -/
def RowW (H : Hp) (v : V) (r : List Str) : Prop := ∃ a, v = .ref a ∧ H a = some (.lst (r.map V.str))
theorem RowW.kt {Ps : List Addr} {H H' : Hp} (k : Kt Ps H H') (t : Tabs Ps H) {v : V} {r : List Str} (h : RowW H v r) : RowW H' v r := by
  obtain ⟨a, e, h⟩ := h
  exact ⟨a, e, k.lst t h⟩
theorem rowsW_kt {Ps : List Addr} {H H' : Hp} (k : Kt Ps H H') (t : Tabs Ps H) {vs : List V} {rs : List (List Str)} (h : Paired (RowW H) vs rs) : Paired (RowW H') vs rs := Paired.mono (fun _ _ x => x.kt k t) h
/-- what is told of weights when there is no tie -/
def dueW (ts : List Tie) (W : Option (List Int)) : Option (List Int) := if ts = [] then none else W
def spReadWeights (Ps : List Addr) : Sp := fun vs H Q _ => ∃ (R : Addr) (us : List V) (n : Int) (ts : List Tie) (W : Option (List Int)), vs = [.ref R] ∧ H R = some (.lst us) ∧ Paired (RowW H) us (rowsL W ts) ∧ WebOk n ts ∧ WtsG ts W ∧ Tabs Ps H ∧
  ∀ v H', WtAt H' v (dueW ts W) → Kt Ps H H' → Q v H'
def spIsWeightsR (Ps : List Addr) : Sp := fun vs H Q _ => ∃ (wa wb : Addr) (x : V) (us : List V) (gv : V) (W : Option (List Int)), vs = [.ref wa, gv] ∧ H wa = some (.tup [x, .ref wb]) ∧ H wb = some (.tup us) ∧ WtAt H gv W ∧ (∀ ws, W = some ws → ws.length = us.length ∧ ∀ x ∈ ws, 1 ≤ x) ∧ us.length ≤ 1000 ∧ Tabs Ps H ∧ ∀ H', Kt Ps H H' → Q (.bl true) H'
section
variable {P : Program} {w : World} {K : PySem.W.Frag} {mg : Str → Option Value} {base : Heap}
theorem ok_read_number {f : Addr} {fd : FuncData} {Ps : List Addr} (F : Fun K "read_number" "read_number" s_read_number f fd) (M : Free mg) (D1 : Df P w K mg base 2 "writes_number" ["word"] (spWrites Ps)) : FnOk P w K mg base CX0 3 f fd ["word"] (spReadNum Ps) := by
  obtain ⟨f1, fd1, G1, g1, k1, b1⟩ := D1
  refine F.ok sc_read_number (fun vs H Q E h => ?_) (fun cdv A outer s H vs Q E hr h => ?_)
  · obtain ⟨x, k, rfl, _⟩ := h
    rfl
  · obtain ⟨x, k, rfl, rfl, hk, hT, q⟩ := h
    refine ⟨_, (pss_cons (ps_if (pt_not (pt_val (pe_call G1 (hr.mono (by decide)) (by rfl) g1 k1 b1 .nil pass0 (pa_cons (pv 0) pa_nil)))) (pss_one ps_never) pss_nil)
      (pss_one (ps_ret (pe_callTy call_int_str (by rfl) M.int (by decide +kernel) (pa_cons (pv 0) pa_nil))))), ?_⟩
    have l2 := (word_num hk).le
    refine ⟨.str (numS k), rfl, _, rfl, Nat.le_trans l2 (by rw [sizeLine_eq]; omega), hT, fun H' kt => ?_⟩
    rw [wnum_good hk]
    refine ⟨_, rfl, ?_⟩
    exact ⟨.str (numS k), rfl, _, k, rfl, int_numS hk, by omega, q _ kt⟩
theorem ok_read_many {f : Addr} {fd : FuncData} {Ps : List Addr} (F : Fun K "read_many" "read_many" s_read_many f fd) (M : Free mg) (D1 : Df P w K mg base 3 "read_number" ["word"] (spReadNum Ps)) : FnOk P w K mg base CX0 4 f fd ["line"] (spReadMany Ps) := by
  obtain ⟨f1, fd1, G1, g1, k1, b1⟩ := D1
  refine F.ok sc_read_many (fun vs H Q E h => ?_) (fun cdv A outer s H vs Q E hr h => ?_)
  · obtain ⟨x, k, rfl, _⟩ := h
    rfl
  · obtain ⟨x, k, rfl, rfl, hk, hT, q⟩ := h
    refine ⟨_, (pss_cons (ps_set (i := 1) sc_read_many.nd rfl (.inl rfl) (pe_split (pv 0) pe_str))
      (pss_cons (ps_if (PW.pt (pw_or (pt_cmpR op_ne (pe_callB call_len_seq (by rfl) M.len PySem.boot_len (pa_cons (pv 1) pa_nil)) pe_int (nomark _)) (pw_or1 (pt_cmpR op_ne (pe_ix ix_list (pv 1) pe_int (fun _ _ => rfl)) pe_str (nomark _))))) (pss_one ps_never) pss_nil)
      (pss_one (ps_ret (pe_call G1 hr (by rfl) g1 k1 b1 .nil pass0 (pa_cons (pe_ix ix_list (pv 1) pe_int (fun _ _ => rfl)) pa_nil)))))), ?_⟩
    have hw : ∀ x ∈ [sWeb, numS k], Word x := by
      intro x hx
      simp only [List.mem_cons, List.not_mem_nil, or_false] at hx
      rcases hx with rfl | rfl
      · exact web_free
      · exact word_num hk
    have hl : (headS k).length ≤ 128 := by
      rw [len_tl]
      exact (words_line hw (by show 2 ≤ 4; omega)).2
    have es : Txt.split (headS k) (" " : Str) = [sWeb, numS k] := split_words hw (by simp)
    refine ⟨.str (headS k), rfl, ⟨_, rfl⟩, headS k, _, rfl, rfl, by decide, by rw [sizeLine_eq]; omega, fun p np => ?_⟩
    rw [es]
    have hp := upd_same (H := H) (a := p) (o := .lst ([sWeb, numS k].map V.str))
    have sp := same_new (o := .lst ([sWeb, numS k].map V.str)) np
    generalize upd H p (.lst ([sWeb, numS k].map V.str)) = H1 at hp sp
    have kp := Kt.same hT sp
    refine ⟨.ref p, rfl, p, _, rfl, .inl (SqL.of hp), rfl, _, rfl, ?_⟩
    refine ite2 (fun e => absurd e (by simp)) (fun _ => ?_)
    refine ⟨.ref p, rfl, p, _, 0, .str sWeb, rfl, rfl, SqL.of hp, rfl, rfl, ?_⟩
    refine ⟨_, rfl, ite2 (fun e => absurd e (by decide +kernel)) (fun _ => ?_)⟩
    exact ⟨.ref p, rfl, p, _, 1, .str (numS k), rfl, rfl, SqL.of hp, rfl, _, k, rfl, rfl, hk, kp.tab, fun H' kt => q _ (kp.trans kt)⟩
end
/-! ### weights read -/
open TL
def rLen04 (K : PySem.W.Frag) : List V → Hp → VK → Prop := fun xs H Q => ∃ p ys, xs = [V.ref p] ∧ (SqL K H p ys ∨ SqT K H p ys) ∧ Q (V.int (ys.length : Nat)) H
theorem Kt.mutN {Ps : List Addr} {H H' : Hp} {a : Addr} {o : HO} (k : Kt Ps H H') (t : Tabs Ps H) (n : H a = none) : Kt Ps H (upd H' a o) := by
  have na : a ∉ Ps := fun z => by
    obtain ⟨ps, e, _⟩ := t a z
    rw [n] at e
    cases e
  refine ⟨fun P hP => ?_, fun b o' hb e => ?_⟩
  · obtain ⟨ps, e, t'⟩ := k.tab P hP
    exact ⟨ps, by rw [upd_ne (show P ≠ a from fun z => na (z ▸ hP))]; exact e, t'⟩
  · rw [upd_ne (fun z => by rw [z, n] at e; cases e)]
    exact k.keep b o' hb e
def optV : Option Int → V
  | none => .non
  | some k => .int k
/-- all rows of a list have the length n -/
theorem all_len {K : PySem.W.Frag} {Ps : List Addr} {Pt R : Addr} {us : List V} {rs : List (List Str)} {n : Int} {H : Hp} {Q : VK} (hT : Tabs Ps H) (hPt : Pt ∈ Ps) (hR : H R = some (.lst us)) (hp : Paired (RowW H) us rs) (q : ∀ H', Kt Ps H H' → Q (.bl (rs.all fun r => decide ((r.length : Int) = n))) H') :
    tAll Pt (iList K (tVar 0)) (gName 1) (tOp rEq (tCB (rLen04 K) (tCons (tVar 1) tNil)) (tC (V.int n))) [1] [some (.ref R), none] H Q := by
  have lu : us.length = rs.length := Paired.length hp
  refine ⟨.ref R, rfl, R, rfl, ⟨_, SqL.of hR⟩, hT Pt hPt, fun j m H' => j + m = us.length ∧ Kt Ps H H' ∧ ((rs.take j).all fun r => decide ((r.length : Int) = n)) = true, fun H2 hH2 => ⟨us.length, by omega, Kt.tabbed hT hPt hH2, rfl⟩, fun j m H' hw => ?_⟩
  obtain ⟨em, kt, hal⟩ := hw
  have hR' := kt.lst hT hR
  by_cases hj : j < us.length
  · refine .inr ⟨⟨_, _, SqL.of hR', List.getElem?_eq_getElem hj⟩, fun H3 => Kt Ps H H3 ∧ ((rs.take (j + 1)).all fun r => decide ((r.length : Int) = n)) = true, fun H3 n3 => ⟨m - 1, by omega, by omega, n3.1, n3.2⟩, fun v H3 hy => ?_⟩
    obtain ⟨rfl, fy⟩ := hy
    have ex : us[j]? = some v := fy _ (SqL.of hR')
    obtain ⟨r, er, a, rfl, ha⟩ := Paired.at (rowsW_kt kt hT hp) ex
    have step : ((rs.take (j + 1)).all fun r => decide ((r.length : Int) = n)) = decide ((r.length : Int) = n) := by
      rw [List.take_add_one, er, List.all_append, hal]
      simp
    refine ⟨rfl, .ref a, rfl, a, _, rfl, .inl (SqL.of ha), rfl, _, rfl, ?_⟩
    rw [dec_int, List.length_map]
    cases hb : decide ((r.length : Int) = n) with
    | true => exact ⟨kt, step.trans hb⟩
    | false =>
      have no : (rs.all fun r => decide ((r.length : Int) = n)) = false := by
        rw [Bool.eq_false_iff]
        intro z
        rw [List.all_eq_true] at z
        rw [z r (List.mem_of_getElem? er)] at hb
        cases hb
      rw [no] at q
      exact q _ kt
  · refine .inl ⟨⟨_, SqL.of hR', by omega⟩, ?_⟩
    rw [List.take_of_length_le (by omega)] at hal
    rw [hal] at q
    exact q _ kt
theorem rows_len3 {W : Option (List Int)} {ts : List Tie} {n : Int} : ((rowsL W ts).all fun r => decide ((r.length : Int) = n)) = (ts.isEmpty || decide (n = if W.isSome then 4 else 3)) := by
  cases ts with
  | nil => rfl
  | cons t r =>
    have e : ∀ x ∈ rowsL W (t :: r), (x.length : Int) = if W.isSome then 4 else 3 := fun x hx => by
      obtain ⟨i, t', _, rfl⟩ := rows_at hx
      cases W <;> rfl
    rw [Bool.eq_iff_iff, List.all_eq_true]
    constructor
    · intro h
      have h0 : wordsL W 0 t ∈ rowsL W (t :: r) := by simp [rowsL]
      have h1 := of_decide_eq_true (h _ h0)
      rw [e _ h0] at h1
      rw [decide_eq_true h1.symm]
      rfl
    · intro h x hx
      have h1 : n = if W.isSome then 4 else 3 := of_decide_eq_true h
      rw [decide_eq_true ((e x hx).trans h1.symm)]
section
variable {P : Program} {w : World} {K : PySem.W.Frag} {mg : Str → Option Value} {base : Heap}
set_option maxHeartbeats 4000000 in
theorem ok_read_weights {f c Pt : Addr} {fd : FuncData} {Ps : List Addr} (F : FunC K "read_weights" "read_weights" s_read_weights f fd c) (TB : GxR.TabB base mg c Pt) (hPt : Pt ∈ Ps) (M : Free mg) (m_all : mg "all" = none) (D1 : Df P w K mg base 3 "read_number" ["word"] (spReadNum Ps)) : FnOk P w K mg base CX0 4 f fd ["rows"] (spReadWeights Ps) := by
  obtain ⟨f1, fd1, G1, g1, k1, b1⟩ := D1
  refine F.ok sc_read_weights (fun vs H Q E h => ?_) (fun A outer s H vs Q E hr h => ?_)
  · obtain ⟨R, us, n, ts, W, rfl, _⟩ := h
    rfl
  · obtain ⟨R, us, n, ts, W, rfl, hR, hp, ok, gW, hT, q⟩ := h
    refine ⟨_, (pss_cons (ps_if (pt_val (pe_all (k := 2) (own := [("words", 1)]) (g := gName 1) hr TB rfl rfl sc_read_weights.nd (by rfl) m_all (pi_list (pv 0)) (blkOk_by (N := N_read_weights) (sc := defScope s_read_weights) (own := [("words", 1)]) (by decide +kernel)) ⟨rfl, by decide +kernel, by decide +kernel⟩ (show (".0" : Str) ∉ N_read_weights by decide +kernel)
          (fun _ _ _ _ _ _ _ => pg_name (i := 1) sc_read_weights.nd rfl (.inl rfl)) (fun _ _ _ _ _ _ _ hr' => pe_cmpR op_eq (pe_callB (r := rLen04 K) call_len_seq (by rfl) M.len PySem.boot_len (pa_cons (pv 1) pa_nil)) pe_int (nomark _))))
        (pss_one (ps_ret pe_non)) pss_nil)
      (pss_cons (ps_if (pt_val (pe_all (k := 2) (own := [("words", 1)]) (g := gName 1) hr TB rfl rfl sc_read_weights.nd (by rfl) m_all (pi_list (pv 0)) (blkOk_by (N := N_read_weights) (sc := defScope s_read_weights) (own := [("words", 1)]) (by decide +kernel)) ⟨rfl, by decide +kernel, by decide +kernel⟩ (show (".0" : Str) ∉ N_read_weights by decide +kernel)
          (fun _ _ _ _ _ _ _ => pg_name (i := 1) sc_read_weights.nd rfl (.inl rfl)) (fun _ _ _ _ _ _ _ hr' => pe_cmpR op_eq (pe_callB (r := rLen04 K) call_len_seq (by rfl) M.len PySem.boot_len (pa_cons (pv 1) pa_nil)) pe_int (nomark _))))
        (pss_one (ps_ret (pe_callTy call_tuple_of (by rfl) M.tuple (by decide +kernel) (pa_cons (pe_lc (own := [("words", 1)]) (g := gName 1) (tt := tYes) rfl sc_read_weights.nd (pi_list (pv 0)) (blkOk_by (N := N_read_weights) (sc := defScope s_read_weights) (own := [("words", 1)]) (by decide +kernel)) (fun _ _ _ _ _ => (pg_name (i := 1) sc_read_weights.nd rfl (.inl rfl))) (fun _ _ _ _ _ => pts_nil)
          (fun _ _ _ _ _ => pe_call G1 hr (by rfl) g1 k1 b1 .nil pass0 (pa_cons (pe_ix (r := rIxL K) ix_list (pv 1) pe_int (fun _ _ => rfl)) pa_nil))) pa_nil)))) pss_nil)
      (pss_one ps_never))), ?_⟩
    unfold tSeq tIfS tB tNext
    refine all_len hT hPt hR hp fun H1 k1' => ?_
    rw [rows_len3]
    refine ⟨_, rfl, ?_⟩
    cases ts with
    | nil => exact q .non H1 rfl k1'
    | cons t0 tr =>
    have k1 := k1'
    cases W with
    | none => exact q .non H1 rfl k1
    | some ws =>
    have hR1 := k1.lst hT hR
    have hp1 := rowsW_kt k1 hT hp
    have T1 := k1.tab
    refine ite2 (fun e => absurd e (by simp)) (fun _ => ?_)
    dsimp only
    refine all_len T1 hPt hR1 hp1 fun H2 k12 => ?_
    rw [rows_len3]
    refine ⟨_, rfl, ite2 (fun _ => ?_) (fun e => absurd (by simp) e)⟩
    have k2 := k1.trans k12
    have hR2 := k12.lst T1 hR1
    have hp2 := rowsW_kt k12 T1 hp1
    have T2 := k12.tab
    obtain ⟨lw, hw1⟩ := gW ws rfl
    have lu : us.length = ws.length := by
      have := Paired.length hp
      rw [rows_len] at this
      omega
    have few := ok.few
    refine ⟨.ref R, rfl, R, rfl, ⟨_, SqL.of hR2⟩, fun L nL => ?_⟩
    refine lc_list (K := K) (a := R) (xs := us) (fun i H' => H' L = some (.lst ((ws.take i).map V.int)) ∧ Kt Ps H2 H') ⟨upd_same, Kt.same T2 (same_new nL)⟩ (fun i H' _ h => SqL.of (h.2.lst T2 hR2)) ?_ ?_
    · rintro i x H3 hx ⟨hL, k23⟩
      have k3 := k2.trans k23
      have T3 := k23.tab
      obtain ⟨r, er, a, rfl, ha⟩ := Paired.at (rowsW_kt k23 T2 hp2) hx
      have er0 := er
      unfold rowsL at er
      rw [List.getElem?_mapIdx] at er
      obtain ⟨t, et, rfl⟩ := Option.map_eq_some_iff.mp er
      have li : i < ws.length := by
        have := (List.getElem?_eq_some_iff.mp hx).1
        omega
      have gx' : GoodN ws[i] := good_wt (hw1 _ (List.getElem_mem li))
      have e3 : ((wordsL (some ws) i t).map V.str)[3]? = some (V.str (numS ws[i])) := by
        show some (V.str (numS (ws.getD i 0))) = _
        rw [List.getD_eq_getElem?_getD, List.getElem?_eq_getElem li]
        rfl
      refine ⟨rfl, .ref a, rfl, a, _, 3, .str (numS ws[i]), rfl, rfl, SqL.of ha, atI_nat (j := 3) e3, _, ws[i], rfl, rfl, gx', T3, fun H4 k34 => ?_⟩
      have hL4 := k34.lst T3 hL
      refine ⟨_, hL4, by rw [List.length_map, List.length_take]; exact Nat.lt_of_le_of_lt (Nat.min_le_right _ _) (by rw [sizeLine_eq]; omega), ?_, (k23.trans k34).mutN T2 nL⟩
      rw [upd_same, List.take_add_one, List.getElem?_eq_getElem li, List.map_append]
      rfl
    · rintro H3 ⟨hL, k23⟩
      rw [List.take_of_length_le (by omega)] at hL
      refine ⟨L, _, rfl, .inl ⟨SqL.of hL, fun A nA => ?_⟩⟩
      exact q (.ref A) _ ⟨A, rfl, upd_same⟩ ((k2.trans k23).trans (Kt.same k23.tab (same_new nA)))
set_option maxHeartbeats 4000000 in
theorem ok_is_weights {f c Pt : Addr} {fd : FuncData} {Ps : List Addr} (F : FunC K "is_weights" "is_weights" s_is_weights f fd c) (TB : GxR.TabB base mg c Pt) (hPt : Pt ∈ Ps) (M : Free mg) (m_all : mg "all" = none) (D1 : Df P w K mg base 2 "is_whole_from" ["low", "thing"] spFrom) (D2 : Df P w K mg base 1 "is_tuple_of" ["length", "thing"] spTupleOf) : FnOk P w K mg base CX0 4 f fd ["web", "thing"] (spIsWeightsR Ps) := by
  obtain ⟨f1, fd1, G1, g1, k1, b1⟩ := D1
  obtain ⟨f2, fd2, G2, g2, k2, b2⟩ := D2
  refine F.ok sc_is_weights (fun vs H Q E h => ?_) (fun A outer s H vs Q E hr h => ?_)
  · obtain ⟨wa, wb, x, us, gv, W, rfl, _⟩ := h
    rfl
  · obtain ⟨wa, wb, x, us, gv, W, rfl, hwa, hwb, hW, gW, few, hT, q⟩ := h
    refine ⟨_, (pss_cons (ps_if (pt_cmpR op_isN (pv 1) pe_non (nomark _))
        (pss_one (ps_ret pe_bl))
        pss_nil)
      (pss_cons (ps_if (pt_not (pt_val (pe_call G2 (hr.mono (by decide)) (by rfl) g2 k2 b2 .nil pass0 (pa_cons (pe_callB call_len_seq (by rfl) M.len PySem.boot_len (pa_cons (pe_ix ix_tup (pv 0) pe_int (fun _ _ => rfl)) pa_nil)) (pa_cons (pv 1) pa_nil)))))
        (pss_one (ps_ret pe_bl))
        pss_nil)
      (pss_one (ps_ret (pe_all (k := 2) (own := [("weight", 2)]) (g := gName 2) hr TB rfl rfl sc_is_weights.nd (by rfl) m_all (pi_tup (pv 1)) (blkOk_by (N := N_is_weights) (sc := defScope s_is_weights) (own := [("weight", 2)]) (by decide +kernel)) ⟨rfl, by decide +kernel, by decide +kernel⟩ (show (".0" : Str) ∉ N_is_weights by decide +kernel)
        (fun _ _ _ _ _ _ _ => pg_name (i := 2) sc_is_weights.nd rfl (.inl rfl)) (fun _ _ _ _ _ _ _ hr' => pe_call G1 hr' (by rfl) g1 k1 b1 .nil pass0 (pa_cons pe_int (pa_cons (pv 2) pa_nil)))))))), ?_⟩
    cases W with
    | none =>
      obtain rfl : gv = .non := hW
      exact ⟨.non, rfl, rfl, _, rfl, ite2 (fun _ => q _ (Kt.refl hT)) (fun e => absurd (by simp) e)⟩
    | some ws =>
      obtain ⟨ga, rfl, hga⟩ := hW
      obtain ⟨lw, hw1⟩ := gW ws rfl
      refine ⟨.ref ga, rfl, rfl, _, rfl, ite2 (fun e => absurd (of_decide_eq_true e) nofun) (fun _ => ?_)⟩
      refine ⟨.ref wa, rfl, wa, _, 1, .ref wb, rfl, rfl, SqT.of hwa, rfl, wb, us, rfl, .inr (SqT.of hwb), .ref ga, rfl, _, .ref ga, rfl, .inr (.inl ⟨_, hga⟩), ?_⟩
      have e0 : lenIs H (.ref ga) (us.length : Nat) = true := by
        unfold lenIs
        rw [parts_of' hga]
        show decide (((ws.map V.int).length : Int) = (us.length : Nat)) = true
        rw [List.length_map, lw]
        exact decide_eq_true rfl
      rw [e0]
      refine ⟨_, rfl, ?_⟩
      refine ⟨.ref ga, rfl, ga, rfl, ⟨_, SqT.of hga⟩, hT Pt hPt, fun j m H' => j + m = ws.length ∧ Kt Ps H H', fun H2 hH2 => ⟨ws.length, by omega, Kt.tabbed hT hPt hH2⟩, fun j m H' hw => ?_⟩
      obtain ⟨em, kt⟩ := hw
      have hga' := kt.tup hT hga
      by_cases hj : j < ws.length
      · refine .inr ⟨⟨_, _, SqT.of hga', List.getElem?_eq_getElem (by rw [List.length_map]; exact hj)⟩, fun H3 => Kt Ps H H3, fun H3 n3 => ⟨m - 1, by omega, by omega, n3⟩, fun v H3 hy => ?_⟩
        obtain ⟨rfl, fy⟩ := hy
        have ex := fy _ (SqT.of hga')
        rw [List.getElem?_map, List.getElem?_eq_getElem hj] at ex
        obtain rfl : V.int ws[j] = v := Option.some.inj ex
        refine ⟨rfl, .int ws[j], rfl, 1, .int ws[j], rfl, trivial, ?_⟩
        rw [show wfrom 1 (.int ws[j]) = true from decide_eq_true (hw1 _ (List.getElem_mem hj))]
        exact ⟨_, rfl, kt⟩
      · exact .inl ⟨⟨_, SqT.of hga', by rw [List.length_map]; omega⟩, q _ kt⟩
end
/-! ### webs are known, and are webs -/
theorem fm_nil {R : V → Prop} : ∀ x ∈ ([] : List V), R x := fun x h => by cases h
theorem fm {R : V → Prop} {a : V} {l : List V} (h : R a) (t : ∀ x ∈ l, R x) : ∀ x ∈ a :: l, R x := fun x hx => by
  rcases List.mem_cons.mp hx with e | e
  · rw [e]; exact h
  · exact t x e
theorem tiek_no {K : PySem.W.Frag} {H : Hp} {v : V} (h : Kn H v) (n : isT H v = false) : TieK K H v := ⟨h, fun xs e => by rw [parts_none n] at e; cases e⟩
theorem tiek_tup {K : PySem.W.Frag} {H : Hp} {p : Addr} {xs : List V} (h : H p = some (.tup xs)) (k : ∀ x ∈ xs, Kn H x) (c3 : ∀ a b c, xs = [a, b, c] → KD K H c) : TieK K H (.ref p) := ⟨.inr (.inl ⟨xs, h⟩), fun ys e => by
  rw [parts_of' h] at e
  cases e
  exact ⟨k, c3⟩⟩
theorem webk_pair {K : PySem.W.Frag} {H : Hp} {p : Addr} {m t : V} (h : H p = some (.tup [m, t])) (km : Kn H m) (kt : Kn H t) (k : ∀ ts, parts H t = some ts → ∀ x ∈ ts, TieK K H x) : WebK K H (.ref p) := ⟨.inr (.inl ⟨_, h⟩), fun ys e => by
  rw [parts_of' h] at e
  cases e
  refine ⟨fun x hx => ?_, fun m' t' z => ?_⟩
  · simp only [List.mem_cons, List.not_mem_nil, or_false] at hx
    rcases hx with rfl | rfl
    · exact km
    · exact kt
  · cases z
    exact k⟩
theorem kd_str {K : PySem.W.Frag} {H : Hp} {x : Str} (h : SeqAt.shaped (.str x) = true) : KD K H (.str x) := .inl ⟨_, .str x, h⟩
theorem shaped_kind (b : Bool) : SeqAt.shaped (.str (kindS b)) = true := by cases b <;> decide +kernel
theorem tie_true {H : Hp} {n : Int} {v : V} {t : Tie} (h : TieV H v t) (o : TieOk n t) : tieB H n v = true := by
  obtain ⟨a, rfl, e⟩ := h
  unfold tieB
  rw [parts_of' e]
  show (unlB n (.int t.one) (.int t.other) && inK kindsL (.str (kindS t.foe))) = true
  have k : inK kindsL (.str (kindS t.foe)) = true := by cases t.foe <;> decide +kernel
  rw [k]
  unfold unlB
  show ((decide (0 ≤ t.one) && decide (t.one < n)) && ((decide (0 ≤ t.other) && decide (t.other < n)) && !decide (V.int t.one = V.int t.other)) && true) = true
  rw [dec_int, decide_eq_true o.1, decide_eq_true o.2.1, decide_eq_true o.2.2.1, decide_eq_true o.2.2.2.1, decide_eq_false o.2.2.2.2]
  rfl
theorem web_true {H : Hp} {n : Int} {v : V} {ts : List Tie} (h : WebAt H v n ts) (n1 : 1 ≤ n) (o : ∀ t ∈ ts, TieOk n t) : webB H v = true := by
  obtain ⟨a, b, vs, rfl, ha, hb, hp⟩ := h
  unfold webB
  rw [parts_of' ha]
  show (decide (1 ≤ n) && (match parts H (.ref b) with
    | some ts => ts.all (tieB H n)
    | none => false)) = true
  rw [parts_of' hb, decide_eq_true n1]
  show vs.all (tieB H n) = true
  rw [List.all_eq_true]
  intro x hx
  obtain ⟨i, hi⟩ := List.getElem?_of_mem hx
  obtain ⟨t, e, tv⟩ := Paired.at hp hi
  exact tie_true tv (o t (List.mem_of_getElem? e))
theorem web_known {K : PySem.W.Frag} {H : Hp} {n : Int} {v : V} {ts : List Tie} (h : WebAt H v n ts) : WebK K H v := by
  obtain ⟨a, b, vs, rfl, ha, hb, hp⟩ := h
  refine webk_pair ha trivial (.inr (.inl ⟨_, hb⟩)) (fun us e x hx => ?_)
  rw [parts_of' hb] at e
  cases e
  obtain ⟨i, hi⟩ := List.getElem?_of_mem hx
  obtain ⟨t, _, p, rfl, e⟩ := Paired.at hp hi
  exact tiek_tup e (fm trivial (fm trivial (fm trivial fm_nil))) (fun a b c z => by cases z; exact kd_str (shaped_kind _))
/-! ### defs that are handed the exception within an except suite -/
open L2H (RoomH Hot1 PinOk cxH inv_startH)
structure FnP (P : Program) (w : World) (K : PySem.W.Frag) (mg : Str → Option Value) (base : Heap) (CX : CXT) (k : Nat) (f : Addr) (fd : FuncData) (ps : List Str) (sp : Addr × Obj → Sp) : Prop where
  len : ∀ p vs H Q E, sp p vs H Q E → vs.length = ps.length
  run : ∀ (A : Around) (outer : List Env) (s : Shared) (H : Hp) (args : Args) (us : List Value) (vs : List V) (Q : VK) (E : XK) (p : Addr × Obj), RoomH k A → Hot1 A p → PinOk outer H s p → Env0 P w K mg base A outer s H → BindsTo s fd args (ps.zip us) → Vals vs us → sp p vs H Q E →
    codeAny (model P w) A (.call (.ref f) args) (CR CX outer P w H s Q E) s
theorem fn_ofP {CX : CXT} {P : Program} {w : World} {K : PySem.W.Frag} {mg : Str → Option Value} {base : Heap} {k : Nat} {f : Addr} {name qual : Str} {params : Arguments} {body : List Stmt} {scope : Scope} {dV kV doc pm cdv ct oc : Value} {an od : Option Addr}
    {osl : Array (Option Value)} {N ps : List Str} {sp : Addr × Obj → Sp} (lk : K.lookup f = some ⟨oc, od, .func (PySem.W.fnOf name qual params body scope dV kV doc pm an cdv ct), osl⟩) (hcd : PySem.W.codeIn K cdv qual = true) (S : FnScope N ps scope)
    (len : ∀ p vs H Q E, sp p vs H Q E → vs.length = ps.length)
    (hbody : ∀ (A : PySem.Around) (outer : List Env) (s : Shared) (H : Hp) (vs : List V) (Q : VK) (E : XK) (p : Addr × Obj), Hot1 A p → RoomH k (A.deeper (envOfC qual scope s.heap.objs.size f cdv)) → sp p vs H Q E →
      ∃ t, PSs (cxH CX P w K mg base N qual scope f cdv A outer s H E p) body t ∧ t { nx := fun _ H' => Q .non H', rt := Q } (L2.start N vs) H) :
    FnP P w K mg base CX (k + 1) f (PySem.W.fnOf name qual params body scope dV kV doc pm an cdv ct) ps sp := by
  refine ⟨len, fun A outer s H args us vs Q E p hr hot hpin e0 hb r hsp => ?_⟩
  have hl := len _ _ _ _ _ hsp
  have KX : K.In s.heap := e0.mod.kin.keeps fun b o e => (e0.bs b o e).1
  have lim : s.heap.NoLimit := e0.mod.nolimit.keeps fun b o e => (e0.bs b o e).1
  have hkind : ∀ y ∈ ps.zip us, scope.names.lookup y.1 = some .local ∨ (scope.names.lookup y.1 = some .cell ∧ ((cellsFrom (s.heap.objs.size + 1) scope.names []).lookup y.1).isSome = true) := fun ⟨n, v⟩ hy => by
    rcases S.par n (List.of_mem_zip hy).1 with q | q
    · exact .inl q
    · exact .inr ⟨q, PySem.W.cellsFrom_some _ _ _ (.inl q)⟩
  refine codeAny_call_function hr.depth (KX _ _ lk) rfl S.co S.gen rfl (PySem.W.codeRec_of KX hcd) (hb _ _ _ _ ?_)
  refine wpAny_newFunctionEnv_cells S.kind hkind fun env he s1 x => ?_
  subst he
  refine ⟨lim.keeps x.toInCall.keep, codeAny_func ?_⟩
  obtain ⟨t, ht, hq⟩ := hbody A outer s H vs Q E p hot (hr.deeper _) hsp
  have I : Inv (cxH CX P w K mg base N qual scope f cdv A outer s H E p) [] (L2.start N vs) H s1 := inv_startH S hpin e0 hl r x
  refine wpAny_mono (ht.run [] s1 (L2.start N vs) H _ I hq) (fun fl s' hs => ?_) fun e s' hs => hs
  have fin : ∀ {σ' : L2.St} {H' : Hp} {v : V} {u : Value}, Inv (cxH CX P w K mg base N qual scope f cdv A outer s H E p) [] σ' H' s' → RelV v u → Q v H' → CE outer P w H s Q u s' :=
    fun {σ' H' v u} J rv q => ⟨v, H', J.os, J.bare, J.base, J.hok, rv, q⟩
  cases fl with
  | ret u =>
    obtain ⟨v, σ', H', J, rv, q⟩ := hs
    exact fin J rv q
  | next =>
    obtain ⟨σ', H', J, q⟩ := hs
    exact fin (v := V.non) (u := Value.none) J rfl q
  | brk =>
    obtain ⟨_, _, _, q⟩ := hs
    exact False.elim q
  | cont =>
    obtain ⟨_, _, _, q⟩ := hs
    exact False.elim q
section
variable {X : Cx} {CX : CXT} {k : Nat} {f C : Addr} {fd : FuncData} {ps : List Str} {sp : Addr × Obj → Sp} {E : L2.St → XK} {x m : Str} {q pos apos : Pos} {e o : Expr} {es : List Expr} {ta : TE} {t : TA} {p : Addr × Obj}
theorem run_fnP {pins : List (Addr × Obj)} {σ : L2.St} {H : Hp} {s : Shared} {Q : VK} {us : List Value} {vs : List V} (F : FnP X.prog X.w X.K X.mg X.base CX k f fd ps sp) (hr : RoomH k X.A) (hot : Hot1 X.A p) (hp : p ∈ X.pn) (hb : L2.Binds X.K fd ps []) (hx : PassesAt CX X σ (E σ))
    (I : Inv X pins σ H s) (r : Vals vs us) (h : sp p vs H Q (E σ)) : wpAny (model X.prog X.w) X.A (call (.ref f) us) (EP X pins σ Q) X.xe s := by
  have hl : us.length = ps.length := by rw [← r.length]; exact F.len _ _ _ _ _ h
  have b := hb s us I.kIn (by rw [List.append_nil]; exact hl)
  rw [List.append_nil] at b
  have P1 := I.pin p (List.mem_append_left _ hp)
  have hpin : PinOk X.stack H s p := ⟨P1.1, P1.2.1, fun hm => (List.mem_cons.mp (I.stkSub p.1 hm)).elim P1.2.2.1 P1.2.2.2.1, P1.2.2.2.2⟩
  refine wpAny_call (codeAny_mono (F.run X.A X.stack s H ⟨us, []⟩ us vs Q (E σ) p hr hot hpin I.env0 b r h) fun r s' hq => ?_)
  cases r with
  | error e => exact hx pins H s e s' I hq
  | ok fl =>
    cases fl with
    | ret u => exact I.after hq
    | next => exact False.elim hq
    | brk => exact False.elim hq
    | cont => exact False.elim hq
theorem pe_callP (F : FnP X.prog X.w X.K X.mg X.base CX k f fd ps sp) (hr : RoomH k X.A) (hot : Hot1 X.A p) (hp : p ∈ X.pn) (hg : Gl X x) (hm : X.mg x = some (.ref f)) (hk : PySem.W.keepIn X.K (.ref f) = true) (hb : L2.Binds X.K fd ps []) (hx : ∀ σ, PassesAt CX X σ (E σ))
    (ha : PA X (e :: es) t) (hdb : (x == ("__debug__" : Str)) = false := by decide) (he : starEach (e :: es) X.env = (false, eval e X.env) :: starEach es X.env := by rfl) (hpl : (backTo pos (starEach es X.env)).any (·.1) = false := by rfl) :
    PE X (.Call (.Name x q) (e :: es) [] pos) (tCallS (sp p) E t) := by
  refine ⟨fun pins s σ H Q I h => ?_⟩
  refine wpAny_Call_Name_kw (ld_glob I hg hm ?_ hdb)
  refine PySem.W.callWith_K (h₀ := X.base) I.ok.mod.kin hk (thn (ha.run pos pins s σ H _ I h) fun us s1 ⟨vs, H1, I1, r, q⟩ => ⟨I1.kIn, ?_⟩) he hpl
  exact run_fnP F hr hot hp hb (hx σ) I1 r q
/-- isinstance(e, c), e the exception that is at hand -/
theorem call_isP {a D : Addr} {oe : Obj} (C : ExcC X.K D) (hz : Zc (.ref D) none oe) (hf : ∃ vs, oe.data = .fields vs) (hp : (a, oe) ∈ X.pn) : CallR X (.builtin "isinstance") (rIsE X.K D a) := by
  intro pins s σ H xs us Q I r h
  obtain ⟨c, cv, b, rfl, hcv, e, q⟩ := h
  cases r with
  | cons rx rr =>
    cases rr with
    | cons rt rr =>
      cases rr
      cases rx
      have ec := hcv _ rt
      subst ec
      obtain ⟨hget, _⟩ := I.pin (a, oe) (List.mem_append.mpr (.inl hp))
      obtain ⟨vs, hv⟩ := hf
      have J : PySem.W.InstAt s.heap a oe D none := by
        obtain ⟨oc, od, oda, osl⟩ := oe
        obtain ⟨h1, h2⟩ := hz
        dsimp only at h1 h2 hv
        subst h1 h2 hv
        exact ⟨hget, rfl, rfl, trivial⟩
      exact PySem.W.kia_one (PySem.W.handS_kitx_exc C.hg C.hk C.hs C.hd C.ha C.hn C.ht C.hm) I.kIn J e (fun z => nomatch z) fun tk => ⟨.bl b, H, I.kept (t' := tk) fun _ _ z => z, rfl, q⟩
end
/-- what isinstance tells of a refusal of the class at D: of each of the six, b; of WebError and of ValueError, yes -/
structure Kits (K : PySem.W.Frag) (mg : Str → Option Value) (D : Addr) (b : Nat → Bool) (C : Nat → Addr) (W : Addr) : Prop where
  ec : ExcC K D
  g0 : mg "NoText" = some (.ref (C 0))
  g1 : mg "NoFrame" = some (.ref (C 1))
  g2 : mg "NoTie" = some (.ref (C 2))
  g3 : mg "NoRow" = some (.ref (C 3))
  g4 : mg "NotFlat" = some (.ref (C 4))
  g5 : mg "TooMany" = some (.ref (C 5))
  gW : mg "WebError" = some (.ref W)
  k : ∀ i, i < 6 → PySem.W.kitOne K (.ref D) (.ref (C i)) = some (b i)
  kW : PySem.W.kitOne K (.ref D) (.ref W) = some true
  kV : PySem.W.kitOne K (.ref D) (.type "ValueError") = some true
def kindL (b : Nat → Bool) : List V := [.bl (b 0), .bl (b 1), .bl (b 2), .bl (b 3), .bl (b 4), .bl (b 5), .bl true, .bl true]
def spKinds (K : PySem.W.Frag) (mg : Str → Option Value) (C : Nat → Addr) (W : Addr) : Addr × Obj → Sp := fun p vs H Q _ => ∃ (D : Addr) (b : Nat → Bool), vs = [.ref p.1] ∧ Zc (.ref D) none p.2 ∧ (∃ us, p.2.data = .fields us) ∧ Kits K mg D b C W ∧
  ∀ r H', H' r = some (.lst (kindL b)) → Same H H' → Q (.ref r) H'
section
variable {P : Program} {w : World} {K : PySem.W.Frag} {mg : Str → Option Value} {base : Heap}
set_option maxHeartbeats 8000000 in
theorem ok_l_kinds {f : Addr} {fd : FuncData} {C : Nat → Addr} {W : Addr} (F : Fun K "_law_kinds" "_law_kinds" s_l_kinds f fd) (M : Free mg) (mve : mg "ValueError" = none) (g0 : mg "NoText" = some (.ref (C 0))) (g1 : mg "NoFrame" = some (.ref (C 1))) (g2 : mg "NoTie" = some (.ref (C 2))) (g3 : mg "NoRow" = some (.ref (C 3))) (g4 : mg "NotFlat" = some (.ref (C 4))) (g5 : mg "TooMany" = some (.ref (C 5))) (gW : mg "WebError" = some (.ref W)) : FnP P w K mg base CX0 1 f fd ["_law_e"] (spKinds K mg C W) := by
  obtain ⟨⟨oc, od, kV, doc, pm, an, cdv, ct, osl, rfl, lk, hcd⟩, kp⟩ := F
  refine fn_ofP lk hcd sc_l_kinds (fun p vs H Q E h => ?_) (fun A outer s H vs Q E p hot hr h => ?_)
  · obtain ⟨D, b, rfl, _⟩ := h
    rfl
  · obtain ⟨D, b, rfl, hz, hf, kt, q⟩ := h
    have hp : (p.1, p.2) ∈ (cxH CX0 P w K mg base N_l_kinds "_law_kinds" (defScope s_l_kinds) f cdv A outer s H E p).pn := List.mem_singleton.mpr rfl
    refine ⟨_, (pss_cons (ps_set (i := 1) sc_l_kinds.nd rfl (.inl rfl) (pe_lst (pa_cons (pe_callB (call_isP kt.ec hz hf hp) (by rfl) M.isinstance (by decide +kernel) (pa_cons (pv 0) (pa_cons (pe_glob (v := .ref (C 0)) rfl g0 rfl) pa_nil))) (pa_cons (pe_callB (call_isP kt.ec hz hf hp) (by rfl) M.isinstance (by decide +kernel) (pa_cons (pv 0) (pa_cons (pe_glob (v := .ref (C 1)) rfl g1 rfl) pa_nil))) (pa_cons (pe_callB (call_isP kt.ec hz hf hp) (by rfl) M.isinstance (by decide +kernel) (pa_cons (pv 0) (pa_cons (pe_glob (v := .ref (C 2)) rfl g2 rfl) pa_nil))) (pa_cons (pe_callB (call_isP kt.ec hz hf hp) (by rfl) M.isinstance (by decide +kernel) (pa_cons (pv 0) (pa_cons (pe_glob (v := .ref (C 3)) rfl g3 rfl) pa_nil))) pa_nil))))))
      (pss_one (ps_ret (pe_op op_cat (pv 1) (pe_lst (pa_cons (pe_callB (call_isP kt.ec hz hf hp) (by rfl) M.isinstance (by decide +kernel) (pa_cons (pv 0) (pa_cons (pe_glob (v := .ref (C 4)) rfl g4 rfl) pa_nil))) (pa_cons (pe_callB (call_isP kt.ec hz hf hp) (by rfl) M.isinstance (by decide +kernel) (pa_cons (pv 0) (pa_cons (pe_glob (v := .ref (C 5)) rfl g5 rfl) pa_nil))) (pa_cons (pe_callB (call_isP kt.ec hz hf hp) (by rfl) M.isinstance (by decide +kernel) (pa_cons (pv 0) (pa_cons (pe_glob (v := .ref W) rfl gW rfl) pa_nil))) (pa_cons (pe_callB (call_isP kt.ec hz hf hp) (by rfl) M.isinstance (by decide +kernel) (pa_cons (pv 0) (pa_cons (pe_bltn (v := .ty "ValueError") (by rfl) mve (by decide +kernel) rfl) pa_nil))) pa_nil))))))))), ?_⟩
    have cv : ∀ D : Addr, ∀ u, RelV (.ref D) u → u = Value.ref D := fun D u h => h
    refine ⟨.ref p.1, rfl, _, _, _, rfl, cv (C 0), kt.k 0 (by decide), .ref p.1, rfl, _, _, _, rfl, cv (C 1), kt.k 1 (by decide), .ref p.1, rfl, _, _, _, rfl, cv (C 2), kt.k 2 (by decide), .ref p.1, rfl, _, _, _, rfl, cv (C 3), kt.k 3 (by decide), by show 4 ≤ sizeLine; decide, fun O nO => ?_⟩
    refine ⟨.ref O, rfl, .ref p.1, rfl, _, _, _, rfl, cv (C 4), kt.k 4 (by decide), .ref p.1, rfl, _, _, _, rfl, cv (C 5), kt.k 5 (by decide), .ref p.1, rfl, _, _, _, rfl, cv W, kt.kW, .ref p.1, rfl, _, _, _, rfl, fun u h => h, kt.kV, by show 4 ≤ sizeLine; decide, fun O2 nO2 => ?_⟩
    refine ⟨O, O2, _, _, rfl, rfl, same_new nO2 _ _ upd_same, upd_same, by show 8 ≤ sizeLine; decide, fun O3 nO3 => ?_⟩
    exact q O3 _ upd_same ((same_new nO).trans ((same_new nO2).trans (same_new nO3)))
end
/-! ### texts that can't be read -/
open TL
theorem split_one {x y : Str} {s : Nat} {S : List Nat} (ey : tl y = s :: S) (hk : y.cps.all (· < 256) = true) (h : s ∉ tl x) : Txt.split x y = [x] := by
  have e : Txt.join y [x] = x := by rw [join_eq]; rfl
  have k := split_join ey hk (parts := [x]) (by simp) (fun p hp => by rw [List.mem_singleton.mp hp]; exact h)
  rw [e] at k
  exact k
theorem pe_never {X : Cx} {e : Expr} : PE X e (fun _ _ _ => False) := ⟨fun _ _ _ _ _ _ h => h.elim⟩
theorem ty_str {K : PySem.W.Frag} {H : Hp} (x : Str) : ∃ t, TyX K H (.str x) t ∧ PySem.W.kitOne K t (.type "str") = some true := ⟨_, .base (.str x), kit_ty (r := true) (by decide +kernel)⟩
def spReadManyX (Ps : List Addr) (D : Addr) : Sp := fun vs H Q E => ∃ (x : Str), vs = [.str x] ∧ Tabs Ps H ∧ ((∃ k, x = headS k ∧ GoodN k ∧ ∀ H', Kt Ps H H' → Q (.int k) H') ∨ (32 ∉ tl x ∧ x.length ≤ 1000 ∧ ∀ H', Kt Ps H H' → E (.ref D) none H'))
def spReadWebX (Ps : List Addr) (D : Addr) : Sp := fun vs H Q E => ∃ (x : Str), vs = [.str x] ∧ Tabs Ps H ∧ ((10 ∉ tl x ∧ 32 ∉ tl x ∧ x.length ≤ 1000) ∨ x = headS 0) ∧ ∀ H', Kt Ps H H' → E (.ref D) none H'
theorem Fun.okN {P : Program} {w : World} {K : PySem.W.Frag} {mg : Str → Option Value} {base : Heap} {x qual : Str} {st : Stmt} {f : Addr} {fd : FuncData} {N ps : List Str} {k : Nat} {sp : Sp} (F : Fun K x qual st f fd) (S : FnScope N ps (defScope st)) (len : ∀ vs H Q E, sp vs H Q E → vs.length = ps.length)
    (hbody : ∀ (cdv : Value) (A : PySem.Around) (outer : List Env) (s : Shared) (H : Hp) (vs : List V) (Q : VK) (E : XK), Room k (A.deeper (envOfC qual (defScope st) s.heap.objs.size f cdv)) → sp vs H Q E →
      ∃ t, PSs (cxOf (L2N.CX P w) P w K mg base N qual (defScope st) f cdv A outer s H E) (defBody st) t ∧ t { nx := fun _ H' => Q .non H', rt := Q } (start N vs) H) : FnOk P w K mg base (L2N.CX P w) (k + 1) f fd ps sp := by
  obtain ⟨⟨oc, od, kV, doc, pm, an, cdv, ct, osl, rfl, lk, hcd⟩, kp⟩ := F
  refine fn_of lk hcd S len fun A outer s H vs Q E hr hsp => ?_
  exact hbody cdv A outer s H vs Q E hr hsp
def DfN (P : Program) (w : World) (K : PySem.W.Frag) (mg : Str → Option Value) (base : Heap) (k : Nat) (x : Str) (ps : List Str) (sp : Sp) : Prop :=
  ∃ (f : Addr) (fd : FuncData), FnOk P w K mg base (L2N.CX P w) k f fd ps sp ∧ mg x = some (.ref f) ∧ PySem.W.keepIn K (.ref f) = true ∧ L2.Binds K fd ps []
section
variable {P : Program} {w : World} {K : PySem.W.Frag} {mg : Str → Option Value} {base : Heap}
set_option maxHeartbeats 4000000 in
theorem okN_read_many {f : Addr} {fd : FuncData} {Ps : List Addr} {D W : Addr} (T : RefT K mg "NoText" D W) (F : Fun K "read_many" "read_many" s_read_many f fd) (M : Free mg) (D1 : Df P w K mg base 3 "read_number" ["word"] (spReadNum Ps)) : FnOk P w K mg base (L2N.CX P w) 4 f fd ["line"] (spReadManyX Ps D) := by
  obtain ⟨f1, fd1, G1, g1, k1, b1⟩ := D1
  refine Fun.okN F sc_read_many (fun vs H Q E h => ?_) (fun cdv A outer s H vs Q E hr h => ?_)
  · obtain ⟨x, rfl, _⟩ := h
    rfl
  · obtain ⟨x, rfl, hT, h⟩ := h
    refine ⟨_, (pss_cons (ps_set (i := 1) sc_read_many.nd rfl (.inl rfl) (pe_split (pv 0) pe_str))
      (pss_cons (ps_if (PW.pt (pw_or (pt_cmpR op_ne (pe_callB call_len_seq (by rfl) M.len PySem.boot_len (pa_cons (pv 1) pa_nil)) pe_int (nomark _)) (pw_or1 (pt_cmpR op_ne (pe_ix ix_list (pv 1) pe_int (fun _ _ => rfl)) pe_str (nomark _)))))
        (pss_one (L2N.ps_raise rfl (L2N.takes_of rfl rfl rfl rfl) (L2N.pmk_own PySem.F.excBase_ValueError T.exc T.gD T.kD (raises_own T.ec.hs T.tD) rfl))) pss_nil)
      (pss_one (ps_ret (pe_call G1 hr (by rfl) g1 k1 b1 .nil pass0 (pa_cons (pe_ix ix_list (pv 1) pe_int (fun _ _ => rfl)) pa_nil)))))), ?_⟩
    rcases h with ⟨k, rfl, hk, q⟩ | ⟨h32, hl, q⟩
    · have hw : ∀ x ∈ [sWeb, numS k], Word x := by
        intro x hx
        simp only [List.mem_cons, List.not_mem_nil, or_false] at hx
        rcases hx with rfl | rfl
        · exact web_free
        · exact word_num hk
      have hl : (headS k).length ≤ 128 := by
        rw [len_tl]
        exact (words_line hw (by show 2 ≤ 4; omega)).2
      have es : Txt.split (headS k) (" " : Str) = [sWeb, numS k] := split_words hw (by simp)
      refine ⟨.str (headS k), rfl, ⟨_, rfl⟩, headS k, _, rfl, rfl, by decide, by rw [sizeLine_eq]; omega, fun p np => ?_⟩
      rw [es]
      have hp := upd_same (H := H) (a := p) (o := .lst ([sWeb, numS k].map V.str))
      have sp := same_new (o := .lst ([sWeb, numS k].map V.str)) np
      generalize upd H p (.lst ([sWeb, numS k].map V.str)) = H1 at hp sp
      have kp := Kt.same hT sp
      refine ⟨.ref p, rfl, p, _, rfl, .inl (SqL.of hp), rfl, _, rfl, ?_⟩
      refine ite2 (fun e => absurd e (by simp)) (fun _ => ?_)
      refine ⟨.ref p, rfl, p, _, 0, .str sWeb, rfl, rfl, SqL.of hp, rfl, rfl, ?_⟩
      refine ⟨_, rfl, ite2 (fun e => absurd e (by decide +kernel)) (fun _ => ?_)⟩
      exact ⟨.ref p, rfl, p, _, 1, .str (numS k), rfl, rfl, SqL.of hp, rfl, _, k, rfl, rfl, hk, kp.tab, fun H' kt => q _ (kp.trans kt)⟩
    · have es : Txt.split x (" " : Str) = [x] := split_one tl_sSp (by decide +kernel) h32
      refine ⟨.str x, rfl, ⟨_, rfl⟩, x, _, rfl, rfl, by decide, by rw [sizeLine_eq]; omega, fun p np => ?_⟩
      rw [es]
      have hp := upd_same (H := H) (a := p) (o := .lst ([x].map V.str))
      have sp := same_new (o := .lst ([x].map V.str)) np
      generalize upd H p (.lst ([x].map V.str)) = H1 at hp sp
      have kp := Kt.same hT sp
      refine ⟨.ref p, rfl, p, _, rfl, .inl (SqL.of hp), rfl, _, rfl, ?_⟩
      exact ite2 (fun _ => q _ kp) (fun e => absurd (by simp) e)
set_option maxHeartbeats 8000000 in
theorem okN_read_web {f : Addr} {fd : FuncData} {Ps : List Addr} {D W : Addr} (T : RefT K mg "NoText" D W) (F : Fun K "read_web" "read_web" s_read_web f fd) (M : Free mg) (D1 : DfN P w K mg base 4 "read_many" ["line"] (spReadManyX Ps D)) (D2 : Df P w K mg base 4 "read_weights" ["rows"] (spReadWeights Ps)) (D4 : Df P w K mg base 6 "is_web" ["thing"] (spIsWeb K Ps)) : FnOk P w K mg base (L2N.CX P w) 7 f fd ["text"] (spReadWebX Ps D) := by
  obtain ⟨f1, fd1, G1, g1, k1, b1⟩ := D1
  obtain ⟨f2, fd2, G2, g2, k2, b2⟩ := D2
  obtain ⟨f4, fd4, G4, g4, k4, b4⟩ := D4
  refine Fun.okN F sc_read_web (fun vs H Q E h => ?_) (fun cdv A outer s H vs Q E hr h => ?_)
  · obtain ⟨x, rfl, _⟩ := h
    rfl
  · obtain ⟨x, rfl, hT, hx, q⟩ := h
    refine ⟨_, (pss_cons (ps_if (pt_not (pt_val (pe_callB call_isi (by rfl) M.isinstance (by decide +kernel) (pa_cons (pv 0) (pa_cons (pe_bltn (v := .ty "str") (by rfl) M.str (by decide +kernel) rfl) pa_nil))))) (pss_one ps_never) pss_nil)
      (pss_cons (ps_asg (pe_split (pv 0) pe_str) (pg_starL rfl (pgs_cons (pg_name (i := 1) sc_read_web.nd rfl (.inl rfl)) (pgs_star (pg_name (i := 2) sc_read_web.nd rfl (.inl rfl)) pgs_nil))))
      (pss_cons (ps_set (i := 3) sc_read_web.nd rfl (.inl rfl) (pe_callS G1 (hr.mono (by decide)) (by rfl) g1 k1 b1 (fun σ => L2N.passAt (L2N.takes_of rfl rfl rfl rfl) σ) (pa_cons (pv 1) pa_nil)))
      (pss_cons (ps_setLc (i := 4) (own := [("line", 5)]) (g := (gName 5)) (tt := tYes) rfl sc_read_web.nd rfl rfl (sw_true rfl rfl rfl (by decide +kernel)) (pi_list (pv 2)) (blkOk_by (N := N_read_web) (sc := defScope s_read_web) (own := [("line", 5)]) (by decide +kernel)) (fun _ _ _ _ _ => (pg_name (i := 5) sc_read_web.nd rfl (.inl rfl))) (fun _ _ _ _ _ => pts_nil) (fun _ _ _ _ _ => (pe_split (pv 5) pe_str)))
      (pss_cons (ps_set (i := 6) sc_read_web.nd rfl (.inl rfl) (pe_call G2 (hr.mono (by decide)) (by rfl) g2 k2 b2 .nil pass0 (pa_cons (pv 4) pa_nil)))
      (pss_cons (ps_set (i := 7) sc_read_web.nd rfl (.inl rfl) (pe_tup (pa_cons (pv 3) (pa_cons (pe_callTy call_tuple_of (by rfl) M.tuple (by decide +kernel) (pa_cons (pe_lc (own := [("words", 8)]) (g := gName 8) (tt := tYes) rfl sc_read_web.nd (pi_list (pv 4)) (blkOk_by (N := N_read_web) (sc := defScope s_read_web) (own := [("words", 8)]) (by decide +kernel)) (fun _ _ _ _ _ => (pg_name (i := 8) sc_read_web.nd rfl (.inl rfl))) (fun _ _ _ _ _ => pts_nil)
          (fun _ _ _ _ _ => pe_never)) pa_nil)) pa_nil))))
      (pss_cons (ps_if (pt_not (pt_val (pe_call G4 hr (by rfl) g4 k4 b4 .nil pass0 (pa_cons (pv 7) pa_nil)))) (pss_one (L2N.ps_raise rfl (L2N.takes_of rfl rfl rfl rfl) (L2N.pmk_own PySem.F.excBase_ValueError T.exc T.gD T.kD (raises_own T.ec.hs T.tD) rfl))) pss_nil)
      (pss_cons ps_never
      (pss_one ps_never))))))))), ?_⟩
    have h10 : 10 ∉ tl x := by
      rcases hx with h | rfl
      · exact h.1
      · decide +kernel
    have hl : x.length ≤ 1000 := by
      rcases hx with h | rfl
      · exact h.2.2
      · decide +kernel
    obtain ⟨t1, h1, e1⟩ := ty_str (K := K) (H := H) x
    refine ⟨.str x, rfl, .str x, _, t1, _, _, rfl, .ty "str", h1, e1, _, rfl, ?_⟩
    refine ⟨.str x, rfl, ⟨_, rfl⟩, x, _, rfl, rfl, by decide, by rw [sizeLine_eq]; omega, fun p np => ?_⟩
    rw [show Txt.split x ("\n" : Str) = [x] from split_one tl_sNl (by decide +kernel) h10]
    have hp := upd_same (H := H) (a := p) (o := .lst ([x].map V.str))
    have sp := same_new (o := .lst ([x].map V.str)) np
    generalize upd H p (.lst ([x].map V.str)) = H1 at hp sp
    have kp := Kt.same hT sp
    refine ⟨p, .str x, [], rfl, SqL.of hp, Nat.zero_le _, fun Dl nD => ⟨_, _, rfl, _, _, rfl, rfl, ?_⟩⟩
    have hD := upd_same (H := H1) (a := Dl) (o := .lst [])
    have kD := Kt.same kp.tab (same_new (o := .lst []) nD)
    generalize upd H1 Dl (.lst []) = H2 at hD kD
    have k2 := kp.trans kD
    refine ⟨.str x, rfl, x, rfl, k2.tab, ?_⟩
    rcases hx with h | rfl
    · exact .inr ⟨h.2.1, hl, fun H' kt => q _ (k2.trans kt)⟩
    refine .inl ⟨0, rfl, ⟨by decide, by decide⟩, fun H3 k23 => ?_⟩
    have hD3 := k23.lst k2.tab hD
    have k3 := k2.trans k23
    refine ⟨.ref Dl, rfl, Dl, rfl, ⟨_, SqL.of hD3⟩, fun R nR => ?_⟩
    refine lc_list (K := K) (a := Dl) (xs := []) (fun i H' => H' R = some (.lst []) ∧ Same H3 H') ⟨upd_same, same_new nR⟩ (fun i H' _ h => SqL.of (h.2 _ _ hD3)) ?_ ?_
    · rintro i x H4 hx _
      simp at hx
    rintro H4 ⟨hR, s4⟩
    have k34 := Kt.same k23.tab s4
    have k4 := k3.trans k34
    have okw : WebOk 1 [] := ⟨by decide, by decide, by decide, fun t h => by cases h⟩
    refine ⟨.ref R, rfl, R, [], 1, [], none, rfl, hR, .nil, okw, fun ws e => (by cases e), k4.tab, fun gv H5 hgv k45 => ?_⟩
    have k5 := k4.trans k45
    have hR5 := k45.lst k4.tab hR
    have T5 := k5.tab
    refine ⟨.int 0, rfl, .ref R, rfl, R, rfl, ⟨_, SqL.of hR5⟩, fun L nL => ?_⟩
    refine lc_list (K := K) (a := R) (xs := []) (te := fun _ _ _ => False) (fun i H' => H' L = some (.lst []) ∧ Same H5 H') ⟨upd_same, same_new nL⟩ (fun i H' _ h => SqL.of (h.2 _ _ hR5)) ?_ ?_
    · rintro i x H6 hx _
      simp at hx
    rintro H6 ⟨hL, s6⟩
    refine ⟨L, _, rfl, .inl ⟨SqL.of hL, fun B nB => ?_⟩⟩
    have sB := same_new (o := .tup []) nB
    have hB := upd_same (H := H6) (a := B) (o := .tup [])
    have k57 := Kt.same T5 (s6.trans sB)
    generalize upd H6 B (.tup []) = H7 at sB hB k57
    refine ⟨by show 2 ≤ sizeLine; decide, fun Wd nW => ?_⟩
    have sW := same_new (o := .tup [.int 0, .ref B]) nW
    have hWd := upd_same (H := H7) (a := Wd) (o := .tup [.int 0, .ref B])
    have hB8 := sW _ _ hB
    have k58 := k57.trans (Kt.same k57.tab sW)
    generalize upd H7 Wd (.tup [.int 0, .ref B]) = H8 at hWd hB8 k58
    have web8 : WebAt H8 (.ref Wd) 0 [] := ⟨Wd, B, [], rfl, hWd, hB8, .nil⟩
    refine ⟨.ref Wd, rfl, .ref Wd, rfl, web_known web8, k58.tab, fun H9 k89 => ?_⟩
    have ewb : webB H8 (.ref Wd) = false := by
      unfold webB
      rw [parts_of' hWd]
      rfl
    rw [ewb]
    exact ⟨_, rfl, q _ (k5.trans (k58.trans k89))⟩
end
/-! ### refusals made and caught -/
open TL
theorem PE.imp {X : Cx} {e : Expr} {t t' : TE} (h : PE X e t) (i : ∀ σ H Q, t' σ H Q → t σ H Q) : PE X e t' := ⟨fun pins s σ H Q I q => h.run pins s σ H Q I (i σ H Q q)⟩
section
variable {X : Cx} {C : Addr} {bmB : List Value} {B newId initId : String}
/-- X(e) -/
theorem pmk_ownE {x : Str} {e : Expr} {te : TE} {p pos : Pos} (F : ExcBaseFacts B newId initId bmB) (q : PySem.W.excIn X.K C bmB newId = true) (gC : X.mg x = some (.ref C)) (kC : PySem.W.keepIn X.K (.ref C) = true) (r : Raises X (.ref C)) (hg : Gl X x) (he : PE X e te)
    (hs : starEach [e] X.env = (false, eval e X.env) :: starEach [] X.env := by rfl) (hdb : (x == ("__debug__" : Str)) = false := by decide) : L2N.PMk X (.Call (.Name x p) [e] [] pos) (fun σ H Q => te σ H fun v H1 => (∃ z, [v] = [V.str z]) ∧ Q (.ref C) none H1) := by
  intro pins s σ H Q I h
  refine wpAny_Call_Name_kw (ld_glob I hg gC ?_ hdb)
  have ha : PA X [e] (tCons te tNil) := pa_cons he pa_nil hs
  refine PySem.W.callWith_K (h₀ := X.base) I.ok.mod.kin kC (thn (ha.run pos pins s σ H (fun vs H1 => (∃ z, vs = [V.str z]) ∧ Q (.ref C) none H1) I h) fun us s1 hh => ?_) hs
  obtain ⟨vs, H1, I1, r1, ⟨z, ev⟩, q1⟩ := hh
  subst ev
  refine ⟨I1.kIn, ?_⟩
  cases r1 with
  | cons ru rn =>
    rename_i u us'
    cases rn
    show wpAny _ _ (call (.ref C) [u]) _ _ _
    obtain ⟨bm, N, nm, qn, bs, hdct, sn, sub, ab, col, dd, k0, k1, k2, k3, k5, mN, hC, hN, hni, T⟩ := exc_obj I1.kIn q
    refine wpAny_call_exc_subT F T hC hN hni (fun h' e hm => ?_) (by show 1 ≤ sizeLine; rw [sizeLine_eq]; omega)
    exact L2N.mk_of I1 hm r q1 (I1.hok.gone hm.new)
end
theorem takes0N {X : Cx} : L2N.Takes X (fun _ _ _ _ => False) := fun _ _ x => by
  obtain ⟨_, _, _, _, _, _, _, _, _, _, _, _, _, _, _, _, z⟩ := x
  exact z.elim
def lowS (x : Str) : Prop := (∀ c ∈ tl x, 97 ≤ c ∧ c ≤ 122) ∧ x.length ≤ 8
def spWord : Sp := fun vs H Q _ => ∃ (d c : Addr), vs = [.ref d] ∧ Deck H d c ∧ ∀ x H', lowS x → Deck H' d c → Kp d c H H' → Q (.str x) H'
def letS : Str := "abcdefghijklmnopqrstuvwxyz"
theorem let_at : ∀ v : Nat, v < 26 → letS.cps.toList[v]? = some (97 + v) := by decide +kernel
/-- the six kinds and the two above them, asked of the exception that the suite holds -/
def tKinds (K : PySem.W.Frag) (mg : Str → Option Value) (C : Nat → Addr) (W a : Addr) (cls : Value) (d : Option Addr) (i : Nat) : TE := fun σ H Q => ∃ (D : Addr) (b : Nat → Bool), cls = .ref D ∧ d = none ∧ σ[i]? = some (some (.ref a)) ∧ Kits K mg D b C W ∧
  ∀ r H', H' r = some (.lst (kindL b)) → Same H H' → Q (.ref r) H'
def spRaised : Sp := fun vs H Q _ => ∃ (i : Nat) (x : Str), vs = [.int i, .str x] ∧ i ≤ 6 ∧ ∀ r H', H' r = some (.lst (kindL fun k => decide (k = i))) → Same H H' → Q (.ref r) H'
def spOfText (Ps : List Addr) : Sp := fun vs H Q _ => ∃ (x : Str), vs = [.str x] ∧ Tabs Ps H ∧ ((10 ∉ tl x ∧ 32 ∉ tl x ∧ x.length ≤ 1000) ∨ x = headS 0) ∧ ∀ r H', H' r = some (.lst (kindL fun k => decide (k = 0))) → Kt Ps H H' → Q (.ref r) H'
section
variable {P : Program} {w : World} {K : PySem.W.Frag} {mg : Str → Option Value} {base : Heap}
set_option maxHeartbeats 4000000 in
theorem ok_l_word {f : Addr} {fd : FuncData} (F : Fun K "_law_word" "_law_word" s_l_word f fd) (M : Free mg) (Dd : Df P w K mg base 1 "_law_draw" ["_law_deck_here", "_law_many"] spDraw) : FnOk P w K mg base CX0 2 f fd ["_law_deck_here"] spWord := by
  obtain ⟨fD, fdD, GD, gD, kD, bD⟩ := Dd
  refine F.ok sc_l_word (fun vs H Q E h => ?_) (fun cdv A outer s H vs Q E hr h => ?_)
  · obtain ⟨d, c, rfl, _⟩ := h
    rfl
  · obtain ⟨d, c, rfl, hD, q⟩ := h
    refine ⟨_, (pss_cons (ps_set (i := 1) sc_l_word.nd rfl (.inr rfl) pe_str)
      (pss_one (ps_ret (pe_join pe_str (pe_lc (own := [("_law_k", 2)]) (g := gName 2) (tt := tYes) rfl sc_l_word.nd (pi_range1 (by rfl) M.range (pa_cons (pe_call GD hr (by rfl) gD kD bD .nil pass0 (pa_cons (pv 0) (pa_cons pe_int pa_nil))) pa_nil)) (blkOk_by (N := N_l_word) (sc := defScope s_l_word) (own := [("_law_k", 2)]) (by decide +kernel)) (fun _ _ _ _ _ => (pg_name (i := 2) sc_l_word.nd rfl (.inl rfl))) (fun _ _ _ _ _ => pts_nil) (fun _ _ _ _ _ => (pe_ix ix_str (pv 1) (pe_call GD hr (by rfl) gD kD bD .nil pass0 (pa_cons (pv 0) (pa_cons pe_int pa_nil))) (fun _ _ => rfl)))))))), ?_⟩
    refine ⟨⟨_, rfl⟩, .ref d, rfl, d, c, 9, rfl, hD, by decide, by decide, fun v0 H0 a0 b0 D0 K0 => ⟨v0, rfl, by omega, by omega, fun L nL => ?_⟩⟩
    obtain ⟨m, rfl⟩ := Int.eq_ofNat_of_zero_le a0
    rw [Int.toNat_natCast]
    have hLd := D0.ned nL
    refine lc_range (lo := 0) (n := m) (fun i H' => ∃ ys : List Str, H' L = some (.lst (ys.map V.str)) ∧ ys.length = i ∧ (∀ y ∈ ys, ∃ c, 97 ≤ c ∧ c ≤ 122 ∧ y = ⟨#[c]⟩) ∧ Deck H' d c ∧ Kp d c H H') ⟨[], upd_same, rfl, fun y hy => (by cases hy), D0.new nL, K0.trans (Kp.new nL)⟩ ?_ ?_
    · rintro i H1 hi ⟨ys, hL, hl, hy, D1, K1⟩
      refine ⟨rfl, .str letS, rfl, .ref d, rfl, d, c, 26, rfl, D1, by decide, by decide, fun v1 H2 a1 b1 D2 K2 => ?_⟩
      obtain ⟨j, rfl⟩ := Int.eq_ofNat_of_zero_le a1
      refine ⟨letS, j, 97 + j, rfl, rfl, by decide +kernel, atI_nat (let_at j (by omega)), ?_⟩
      have hL2 := K2 _ _ hLd.1 hLd.2 hL
      have nL0 : H L = none := by
        cases e : H L with
        | none => rfl
        | some o =>
          rw [K0 L o hLd.1 hLd.2 e] at nL
          cases nL
      refine ⟨_, hL2, by rw [List.length_map, hl, sizeLine_eq]; omega, ys ++ [⟨#[97 + j]⟩], by rw [upd_same, List.map_append]; rfl, by rw [List.length_append, hl]; rfl, fun y hy' => ?_, D2.mut hLd.1 hLd.2, (K1.trans K2).mut nL0⟩
      rcases List.mem_append.mp hy' with h | h
      · exact hy y h
      · exact ⟨97 + j, by omega, by omega, List.mem_singleton.mp h⟩
    · rintro H1 ⟨ys, hL, hl, hy, D1, K1⟩
      have one : ∀ x ∈ ys.map (·.length), x ≤ 1 := fun x hx => by
        obtain ⟨y, hy', rfl⟩ := List.mem_map.mp hx
        obtain ⟨c, _, _, rfl⟩ := hy y hy'
        exact Nat.le_refl 1
      have sm := sum_le_mul one
      rw [List.length_map] at sm
      refine ⟨("" : Str), L, ys, rfl, rfl, .inl (SqL.of hL), ?_, ?_⟩
      · have e0 : ("" : Str).length = 0 := by decide
        rw [e0]
        omega
      refine q _ _ ⟨fun s hs => ?_, ?_⟩ D1 K1
      · rw [join_eq, tl_join] at hs
        rcases Nat.lt_or_ge s 97 with h | h
        · exact absurd hs (joinL_free (by rw [show tl ("" : Str) = [] from by decide]; simp) fun p hp => by
            obtain ⟨y, hy', rfl⟩ := List.mem_map.mp hp
            obtain ⟨c, h1, h2, rfl⟩ := hy y hy'
            intro z
            have := List.mem_singleton.mp z
            omega)
        · rcases Nat.lt_or_ge 122 s with h' | h'
          · exact absurd hs (joinL_free (by rw [show tl ("" : Str) = [] from by decide]; simp) fun p hp => by
              obtain ⟨y, hy', rfl⟩ := List.mem_map.mp hp
              obtain ⟨c, h1, h2, rfl⟩ := hy y hy'
              intro z
              have := List.mem_singleton.mp z
              omega)
          · exact ⟨h, h'⟩
      · rw [len_tl, join_eq, tl_join]
        refine Nat.le_trans (joinL_len (m := 1) fun p hp => ?_) ?_
        · obtain ⟨y, hy', rfl⟩ := List.mem_map.mp hp
          obtain ⟨c, h1, h2, rfl⟩ := hy y hy'
          exact Nat.le_refl 1
        · rw [List.length_map]
          have e0 : (tl ("" : Str)).length = 0 := by decide
          rw [e0]
          omega
end
/-! ### refusals caught -/
open TL
open L2H (RoomH Hot1 roomH_of)
section
variable {P : Program} {w : World} {K : PySem.W.Frag} {mg : Str → Option Value} {base : Heap}
/-- the def with its facts, as it is called within a suite -/
def DfP (P : Program) (w : World) (K : PySem.W.Frag) (mg : Str → Option Value) (base : Heap) (k : Nat) (x : Str) (ps : List Str) (sp : Addr × Obj → Sp) : Prop :=
  ∃ (f : Addr) (fd : FuncData), FnP P w K mg base CX0 k f fd ps sp ∧ mg x = some (.ref f) ∧ PySem.W.keepIn K (.ref f) = true ∧ L2.Binds K fd ps []
/-- `_law_kinds(e)` in the suite that holds e -/
theorem pe_kinds {X : Cx} {C : Nat → Addr} {W f a : Addr} {fd : FuncData} {oe : Obj} {cls : Value} {d : Option Addr} {pn : List (Addr × Obj)} {i : Nat} {x n : Str} {q p2 pos : Pos} (F : FnP X.prog X.w X.K X.mg X.base CX0 1 f fd ["_law_e"] (spKinds X.K X.mg C W)) (hr : RoomH 1 X.A) (hz : L2N.Zn cls d oe) (hf : ∃ vs, oe.data = .fields vs) (hg : Gl X x) (hm : X.mg x = some (.ref f)) (hk : PySem.W.keepIn X.K (.ref f) = true) (hb : L2.Binds X.K fd ["_law_e"] [])
    (he : PE (X.suite a ((a, oe) :: pn)) (.Name n p2) (tVar i)) (hdb : (x == ("__debug__" : Str)) = false := by decide) (hes : starEach [.Name n p2] X.env = (false, eval (.Name n p2) X.env) :: starEach [] X.env := by rfl) :
    PE (X.suite a ((a, oe) :: pn)) (.Call (.Name x q) [.Name n p2] [] pos) (tKinds X.K X.mg C W a cls d i) := by
  obtain ⟨vs, hv⟩ := id hf
  have hot : Hot1 (X.suite a ((a, oe) :: pn)).A (a, oe) := ⟨rfl, vs, hv, hz.2.2 vs hv⟩
  refine PE.imp (pe_callP (X := X.suite a ((a, oe) :: pn)) (E := fun _ => E0) (p := (a, oe)) F ⟨hr.dp, hr.un⟩ hot List.mem_cons_self hg hm hk hb (fun _ _ _ _ _ _ _ h => h.elim) (pa_cons he pa_nil) hdb hes) ?_
  rintro σ H Q ⟨D, b, rfl, rfl, hσ, kt, qq⟩
  exact ⟨.ref a, hσ, D, b, rfl, hz.zc, hf, kt, qq⟩
end
def six (D0 D1 D2 D3 D4 D5 : Addr) : Nat → Addr
  | 0 => D0
  | 1 => D1
  | 2 => D2
  | 3 => D3
  | 4 => D4
  | _ => D5
theorem kits_of {K : PySem.W.Frag} {mg : Str → Option Value} {x : Str} {D D0 D1 D2 D3 D4 D5 W W' : Addr} {b : Nat → Bool} (T : RefT K mg x D W) (k0 : KitT K mg D "NoText" D0 (b 0)) (k1 : KitT K mg D "NoFrame" D1 (b 1)) (k2 : KitT K mg D "NoTie" D2 (b 2)) (k3 : KitT K mg D "NoRow" D3 (b 3)) (k4 : KitT K mg D "NotFlat" D4 (b 4)) (k5 : KitT K mg D "TooMany" D5 (b 5)) (k6 : KitT K mg D "WebError" W' true) (v : PySem.W.kitOne K (.ref D) (.type "ValueError") = some true) : Kits K mg D b (six D0 D1 D2 D3 D4 D5) W := by
  have e : W' = W := by
    have z := k6.g.symm.trans T.gW
    exact Value.ref.inj (Option.some.inj z)
  subst e
  exact ⟨T.ec, k0.g, k1.g, k2.g, k3.g, k4.g, k5.g, k6.g, fun i hi => by
    match i, hi with
    | 0, _ => exact k0.k
    | 1, _ => exact k1.k
    | 2, _ => exact k2.k
    | 3, _ => exact k3.k
    | 4, _ => exact k4.k
    | 5, _ => exact k5.k, k6.k, v⟩
section
variable {P : Program} {w : World} {K : PySem.W.Frag} {mg : Str → Option Value} {base : Heap}
set_option maxHeartbeats 8000000 in
theorem ok_l_raised {f : Addr} {fd : FuncData} {D0 D1 D2 D3 D4 D5 V W W0 W1 W2 W3 W4 W5 W6 : Addr} (F : Fun K "_law_raised" "_law_raised" s_l_raised f fd) (T0 : RefT K mg "NoText" D0 W) (k0_0 : KitT K mg D0 "NoText" D0 true) (k0_1 : KitT K mg D0 "NoFrame" D1 false) (k0_2 : KitT K mg D0 "NoTie" D2 false) (k0_3 : KitT K mg D0 "NoRow" D3 false) (k0_4 : KitT K mg D0 "NotFlat" D4 false) (k0_5 : KitT K mg D0 "TooMany" D5 false) (k0_6 : KitT K mg D0 "WebError" W0 true) (v0 : PySem.W.kitOne K (.ref D0) (.type "ValueError") = some true)
    (T1 : RefT K mg "NoFrame" D1 W) (k1_0 : KitT K mg D1 "NoText" D0 false) (k1_1 : KitT K mg D1 "NoFrame" D1 true) (k1_2 : KitT K mg D1 "NoTie" D2 false) (k1_3 : KitT K mg D1 "NoRow" D3 false) (k1_4 : KitT K mg D1 "NotFlat" D4 false) (k1_5 : KitT K mg D1 "TooMany" D5 false) (k1_6 : KitT K mg D1 "WebError" W1 true) (v1 : PySem.W.kitOne K (.ref D1) (.type "ValueError") = some true)
    (T2 : RefT K mg "NoTie" D2 W) (k2_0 : KitT K mg D2 "NoText" D0 false) (k2_1 : KitT K mg D2 "NoFrame" D1 false) (k2_2 : KitT K mg D2 "NoTie" D2 true) (k2_3 : KitT K mg D2 "NoRow" D3 false) (k2_4 : KitT K mg D2 "NotFlat" D4 false) (k2_5 : KitT K mg D2 "TooMany" D5 false) (k2_6 : KitT K mg D2 "WebError" W2 true) (v2 : PySem.W.kitOne K (.ref D2) (.type "ValueError") = some true)
    (T3 : RefT K mg "NoRow" D3 W) (k3_0 : KitT K mg D3 "NoText" D0 false) (k3_1 : KitT K mg D3 "NoFrame" D1 false) (k3_2 : KitT K mg D3 "NoTie" D2 false) (k3_3 : KitT K mg D3 "NoRow" D3 true) (k3_4 : KitT K mg D3 "NotFlat" D4 false) (k3_5 : KitT K mg D3 "TooMany" D5 false) (k3_6 : KitT K mg D3 "WebError" W3 true) (v3 : PySem.W.kitOne K (.ref D3) (.type "ValueError") = some true)
    (T4 : RefT K mg "NotFlat" D4 W) (k4_0 : KitT K mg D4 "NoText" D0 false) (k4_1 : KitT K mg D4 "NoFrame" D1 false) (k4_2 : KitT K mg D4 "NoTie" D2 false) (k4_3 : KitT K mg D4 "NoRow" D3 false) (k4_4 : KitT K mg D4 "NotFlat" D4 true) (k4_5 : KitT K mg D4 "TooMany" D5 false) (k4_6 : KitT K mg D4 "WebError" W4 true) (v4 : PySem.W.kitOne K (.ref D4) (.type "ValueError") = some true)
    (T5 : RefT K mg "TooMany" D5 W) (k5_0 : KitT K mg D5 "NoText" D0 false) (k5_1 : KitT K mg D5 "NoFrame" D1 false) (k5_2 : KitT K mg D5 "NoTie" D2 false) (k5_3 : KitT K mg D5 "NoRow" D3 false) (k5_4 : KitT K mg D5 "NotFlat" D4 false) (k5_5 : KitT K mg D5 "TooMany" D5 true) (k5_6 : KitT K mg D5 "WebError" W5 true) (v5 : PySem.W.kitOne K (.ref D5) (.type "ValueError") = some true)
    (T6 : RefT K mg "WebError" V W) (k6_0 : KitT K mg V "NoText" D0 false) (k6_1 : KitT K mg V "NoFrame" D1 false) (k6_2 : KitT K mg V "NoTie" D2 false) (k6_3 : KitT K mg V "NoRow" D3 false) (k6_4 : KitT K mg V "NotFlat" D4 false) (k6_5 : KitT K mg V "TooMany" D5 false) (k6_6 : KitT K mg V "WebError" W6 true) (v6 : PySem.W.kitOne K (.ref V) (.type "ValueError") = some true)
    (Dk : DfP P w K mg base 1 "_law_kinds" ["_law_e"] (spKinds K mg (six D0 D1 D2 D3 D4 D5) W)) : FnOk P w K mg base CX0 2 f fd ["_law_which", "_law_text"] spRaised := by
  obtain ⟨fk, fdk, Gk, gk, kk, bk⟩ := Dk
  have eV : V = W := Value.ref.inj (Option.some.inj (T6.gD.symm.trans T6.gW))
  subst eV
  have K0 := kits_of (b := fun k => decide (k = 0)) T0 k0_0 k0_1 k0_2 k0_3 k0_4 k0_5 k0_6 v0
  have K1 := kits_of (b := fun k => decide (k = 1)) T1 k1_0 k1_1 k1_2 k1_3 k1_4 k1_5 k1_6 v1
  have K2 := kits_of (b := fun k => decide (k = 2)) T2 k2_0 k2_1 k2_2 k2_3 k2_4 k2_5 k2_6 v2
  have K3 := kits_of (b := fun k => decide (k = 3)) T3 k3_0 k3_1 k3_2 k3_3 k3_4 k3_5 k3_6 v3
  have K4 := kits_of (b := fun k => decide (k = 4)) T4 k4_0 k4_1 k4_2 k4_3 k4_4 k4_5 k4_6 v4
  have K5 := kits_of (b := fun k => decide (k = 5)) T5 k5_0 k5_1 k5_2 k5_3 k5_4 k5_5 k5_6 v5
  have K6 := kits_of (b := fun k => decide (k = 6)) T6 k6_0 k6_1 k6_2 k6_3 k6_4 k6_5 k6_6 v6
  refine F.ok sc_l_raised (fun vs H Q E h => ?_) (fun cdv A outer s H vs Q E hr h => ?_)
  · obtain ⟨i, x, rfl, _⟩ := h
    rfl
  · obtain ⟨i, x, rfl, hi, q⟩ := h
    refine ⟨_, (pss_cons (ps_set (i := 2) sc_l_raised.nd rfl (.inl rfl) (pe_lst pa_nil))
      (pss_cons (L2N.ps_try_as (i := 3) (ts := fun a cls d => tAsg (tKinds K mg (six D0 D1 D2 D3 D4 D5) V a cls d 3) (gName 2)) (Wout := fun _ _ _ _ => False) rfl rfl sc_l_raised.nd rfl rfl ⟨rfl, by decide, .inl T6.gD⟩ takes0N
          (fun W' pn xe tk _ => (pss_cons (ps_if (pt_cmpR op_eq (pv 0) pe_int (nomark _)) (pss_one (L2N.ps_raise rfl tk (pmk_ownE PySem.F.excBase_ValueError T0.exc T0.gD T0.kD (raises_own T0.ec.hs T0.tD) rfl (pv 1)))) pss_nil)
            (pss_cons (ps_if (pt_cmpR op_eq (pv 0) pe_int (nomark _)) (pss_one (L2N.ps_raise rfl tk (pmk_ownE PySem.F.excBase_ValueError T1.exc T1.gD T1.kD (raises_own T1.ec.hs T1.tD) rfl (pv 1)))) pss_nil)
            (pss_cons (ps_if (pt_cmpR op_eq (pv 0) pe_int (nomark _)) (pss_one (L2N.ps_raise rfl tk (pmk_ownE PySem.F.excBase_ValueError T2.exc T2.gD T2.kD (raises_own T2.ec.hs T2.tD) rfl (pv 1)))) pss_nil)
            (pss_cons (ps_if (pt_cmpR op_eq (pv 0) pe_int (nomark _)) (pss_one (L2N.ps_raise rfl tk (pmk_ownE PySem.F.excBase_ValueError T3.exc T3.gD T3.kD (raises_own T3.ec.hs T3.tD) rfl (pv 1)))) pss_nil)
            (pss_cons (ps_if (pt_cmpR op_eq (pv 0) pe_int (nomark _)) (pss_one (L2N.ps_raise rfl tk (pmk_ownE PySem.F.excBase_ValueError T4.exc T4.gD T4.kD (raises_own T4.ec.hs T4.tD) rfl (pv 1)))) pss_nil)
            (pss_cons (ps_if (pt_cmpR op_eq (pv 0) pe_int (nomark _)) (pss_one (L2N.ps_raise rfl tk (pmk_ownE PySem.F.excBase_ValueError T5.exc T5.gD T5.kD (raises_own T5.ec.hs T5.tD) rfl (pv 1)))) pss_nil)
            (pss_one (L2N.ps_raise rfl tk (pmk_ownE PySem.F.excBase_ValueError T6.exc T6.gD T6.kD (raises_own T6.ec.hs T6.tD) rfl (pv 1)))))))))))
          (fun a oe cls d pn hz hf => pss_one (ps_set (i := 2) sc_l_raised.nd rfl (.inl rfl) (by exact (pe_kinds Gk (roomH_of hr) hz hf (by rfl) gk kk bk (pv 3))))))
      (pss_one (ps_ret (pv 2))))), ?_⟩
    refine ⟨Nat.zero_le _, fun Z nZ => ?_⟩
    have sZ := same_new (o := .lst []) nZ
    generalize upd H Z (.lst []) = H1 at sZ
    match i, hi with
    | 0, _ => exact ⟨.int 0, rfl, rfl, _, rfl, ite2 (fun _ => ⟨.str x, rfl, ⟨x, rfl⟩, true, T0.web, fun _ a na => ⟨D0, _, rfl, rfl, rfl, K0, fun r H' hr s => ⟨.ref r, rfl, q r H' hr (sZ.trans s)⟩⟩, fun z => Bool.noConfusion z⟩) (fun e => absurd (by decide) e)⟩
    | 1, _ => exact ⟨.int 1, rfl, rfl, _, rfl, ite2 (fun e => absurd e (by decide)) (fun _ => ⟨.int 1, rfl, rfl, _, rfl, ite2 (fun _ => ⟨.str x, rfl, ⟨x, rfl⟩, true, T1.web, fun _ a na => ⟨D1, _, rfl, rfl, rfl, K1, fun r H' hr s => ⟨.ref r, rfl, q r H' hr (sZ.trans s)⟩⟩, fun z => Bool.noConfusion z⟩) (fun e => absurd (by decide) e)⟩)⟩
    | 2, _ => exact ⟨.int 2, rfl, rfl, _, rfl, ite2 (fun e => absurd e (by decide)) (fun _ => ⟨.int 2, rfl, rfl, _, rfl, ite2 (fun e => absurd e (by decide)) (fun _ => ⟨.int 2, rfl, rfl, _, rfl, ite2 (fun _ => ⟨.str x, rfl, ⟨x, rfl⟩, true, T2.web, fun _ a na => ⟨D2, _, rfl, rfl, rfl, K2, fun r H' hr s => ⟨.ref r, rfl, q r H' hr (sZ.trans s)⟩⟩, fun z => Bool.noConfusion z⟩) (fun e => absurd (by decide) e)⟩)⟩)⟩
    | 3, _ => exact ⟨.int 3, rfl, rfl, _, rfl, ite2 (fun e => absurd e (by decide)) (fun _ => ⟨.int 3, rfl, rfl, _, rfl, ite2 (fun e => absurd e (by decide)) (fun _ => ⟨.int 3, rfl, rfl, _, rfl, ite2 (fun e => absurd e (by decide)) (fun _ => ⟨.int 3, rfl, rfl, _, rfl, ite2 (fun _ => ⟨.str x, rfl, ⟨x, rfl⟩, true, T3.web, fun _ a na => ⟨D3, _, rfl, rfl, rfl, K3, fun r H' hr s => ⟨.ref r, rfl, q r H' hr (sZ.trans s)⟩⟩, fun z => Bool.noConfusion z⟩) (fun e => absurd (by decide) e)⟩)⟩)⟩)⟩
    | 4, _ => exact ⟨.int 4, rfl, rfl, _, rfl, ite2 (fun e => absurd e (by decide)) (fun _ => ⟨.int 4, rfl, rfl, _, rfl, ite2 (fun e => absurd e (by decide)) (fun _ => ⟨.int 4, rfl, rfl, _, rfl, ite2 (fun e => absurd e (by decide)) (fun _ => ⟨.int 4, rfl, rfl, _, rfl, ite2 (fun e => absurd e (by decide)) (fun _ => ⟨.int 4, rfl, rfl, _, rfl, ite2 (fun _ => ⟨.str x, rfl, ⟨x, rfl⟩, true, T4.web, fun _ a na => ⟨D4, _, rfl, rfl, rfl, K4, fun r H' hr s => ⟨.ref r, rfl, q r H' hr (sZ.trans s)⟩⟩, fun z => Bool.noConfusion z⟩) (fun e => absurd (by decide) e)⟩)⟩)⟩)⟩)⟩
    | 5, _ => exact ⟨.int 5, rfl, rfl, _, rfl, ite2 (fun e => absurd e (by decide)) (fun _ => ⟨.int 5, rfl, rfl, _, rfl, ite2 (fun e => absurd e (by decide)) (fun _ => ⟨.int 5, rfl, rfl, _, rfl, ite2 (fun e => absurd e (by decide)) (fun _ => ⟨.int 5, rfl, rfl, _, rfl, ite2 (fun e => absurd e (by decide)) (fun _ => ⟨.int 5, rfl, rfl, _, rfl, ite2 (fun e => absurd e (by decide)) (fun _ => ⟨.int 5, rfl, rfl, _, rfl, ite2 (fun _ => ⟨.str x, rfl, ⟨x, rfl⟩, true, T5.web, fun _ a na => ⟨D5, _, rfl, rfl, rfl, K5, fun r H' hr s => ⟨.ref r, rfl, q r H' hr (sZ.trans s)⟩⟩, fun z => Bool.noConfusion z⟩) (fun e => absurd (by decide) e)⟩)⟩)⟩)⟩)⟩)⟩
    | 6, _ => exact ⟨.int 6, rfl, rfl, _, rfl, ite2 (fun e => absurd e (by decide)) (fun _ => ⟨.int 6, rfl, rfl, _, rfl, ite2 (fun e => absurd e (by decide)) (fun _ => ⟨.int 6, rfl, rfl, _, rfl, ite2 (fun e => absurd e (by decide)) (fun _ => ⟨.int 6, rfl, rfl, _, rfl, ite2 (fun e => absurd e (by decide)) (fun _ => ⟨.int 6, rfl, rfl, _, rfl, ite2 (fun e => absurd e (by decide)) (fun _ => ⟨.int 6, rfl, rfl, _, rfl, ite2 (fun e => absurd e (by decide)) (fun _ => ⟨.str x, rfl, ⟨x, rfl⟩, true, T6.web, fun _ a na => ⟨V, _, rfl, rfl, rfl, K6, fun r H' hr s => ⟨.ref r, rfl, q r H' hr (sZ.trans s)⟩⟩, fun z => Bool.noConfusion z⟩)⟩)⟩)⟩)⟩)⟩)⟩
end
/-! ### k06: the law -/
open TL
theorem Tabs.kp {Ps : List Addr} {d c : Addr} {H H' : Hp} (t : Tabs Ps H) (k : Kp d c H H') (D : Deck H d c) : Tabs Ps H' := fun P hP => by
  obtain ⟨ps, e, x⟩ := t P hP
  obtain ⟨cells, st, n, e1, e2, _⟩ := D
  exact ⟨ps, k _ _ (ne_of e e1 (by intro z; cases z)) (ne_of e e2 (by intro z; cases z)) e, x⟩
theorem Tabs.same {Ps : List Addr} {H H' : Hp} (t : Tabs Ps H) (s : Same H H') : Tabs Ps H' := (Kt.same t s).tab
def kindD (b : Nat → Bool) : PyData := .list [.bool (b 0), .bool (b 1), .bool (b 2), .bool (b 3), .bool (b 4), .bool (b 5), .bool true, .bool true]
theorem kind_dp {K : PySem.W.Frag} {H : Hp} {r : Addr} {b : Nat → Bool} (h : H r = some (.lst (kindL b))) : Dp K H (.ref r) (kindD b) :=
  .lst (SqL.of h) (.cons (.bl _) (.cons (.bl _) (.cons (.bl _) (.cons (.bl _) (.cons (.bl _) (.cons (.bl _) (.cons (.bl _) (.cons (.bl _) .nil))))))))
theorem kind_lay (b : Nat → Bool) : (kindD b).canLay0 = true := by simp [kindD, PyData.canLay0, PyData.canLayAll0]
theorem kind_shaped (b : Nat → Bool) : SeqAt.shaped (kindD b) = true := by
  unfold SeqAt.shaped
  rw [kind_lay]
  have : (kindD b).depth ≤ 1 := by simp [kindD, PyData.depth, PyData.depthAll]
  simp
  omega
theorem kind_refl (b : Nat → Bool) : PyData.eqv (kindD b) (kindD b) = true := PySem.SeqAt.eqv_refl _ (kind_lay b)
def spLaw (K : PySem.W.Frag) (Ps : List Addr) : Sp := fun vs H Q _ => ∃ (a : Addr) (ns : List Int), vs = [.ref a] ∧ SqL K H a (ns.map V.int) ∧ ns.length ≤ 63 ∧ Tabs Ps H ∧ ∀ H', Q (.bl true) H'
section
variable {P : Program} {w : World} {K : PySem.W.Frag} {mg : Str → Option Value} {base : Heap}
set_option maxHeartbeats 8000000 in
theorem ok_l_of_text {f : Addr} {fd : FuncData} {Ps : List Addr} {D0 D1 D2 D3 D4 D5 W W0 : Addr} (F : Fun K "_law_of_text" "_law_of_text" s_l_of_text f fd) (T0 : RefT K mg "NoText" D0 W) (k0_0 : KitT K mg D0 "NoText" D0 true) (k0_1 : KitT K mg D0 "NoFrame" D1 false) (k0_2 : KitT K mg D0 "NoTie" D2 false) (k0_3 : KitT K mg D0 "NoRow" D3 false) (k0_4 : KitT K mg D0 "NotFlat" D4 false) (k0_5 : KitT K mg D0 "TooMany" D5 false) (k0_6 : KitT K mg D0 "WebError" W0 true) (v0 : PySem.W.kitOne K (.ref D0) (.type "ValueError") = some true)
    (x0 : PySem.W.exmOne K (.ref D0) (.ref D0) = some true) (Dk : DfP P w K mg base 1 "_law_kinds" ["_law_e"] (spKinds K mg (six D0 D1 D2 D3 D4 D5) W)) (Dr : DfN P w K mg base 7 "read_web" ["text"] (spReadWebX Ps D0)) : FnOk P w K mg base CX0 8 f fd ["_law_text"] (spOfText Ps) := by
  obtain ⟨fk, fdk, Gk, gk, kk, bk⟩ := Dk
  obtain ⟨fR, fdR, GR, gR, kR, bR⟩ := Dr
  have K0 := kits_of (b := fun k => decide (k = 0)) T0 k0_0 k0_1 k0_2 k0_3 k0_4 k0_5 k0_6 v0
  refine F.ok sc_l_of_text (fun vs H Q E h => ?_) (fun cdv A outer s H vs Q E hr h => ?_)
  · obtain ⟨x, rfl, _⟩ := h
    rfl
  · obtain ⟨x, rfl, hT, hx, q⟩ := h
    refine ⟨_, (pss_cons (ps_set (i := 1) sc_l_of_text.nd rfl (.inl rfl) (pe_lst pa_nil))
      (pss_cons (L2N.ps_try_as (i := 2) (ts := fun a cls d => tAsg (tKinds K mg (six D0 D1 D2 D3 D4 D5) W a cls d 2) (gName 1)) (Wout := fun _ _ _ _ => False) rfl rfl sc_l_of_text.nd rfl rfl ⟨rfl, by decide, .inl T0.gD⟩ takes0N
          (fun W' pn xe tk _ => pss_one (ps_expr (by exact (pe_callS GR hr (by rfl) gR kR bR (fun σ => L2N.passAt tk σ) (by exact (pa_cons (pv 0) pa_nil))))))
          (fun a oe cls d pn hz hf => pss_one (ps_set (i := 1) sc_l_of_text.nd rfl (.inl rfl) (by exact (pe_kinds Gk ((L2H.roomH_of hr).mono (by decide)) hz hf (by rfl) gk kk bk (pv 2))))))
      (pss_one (ps_ret (pv 1))))), ?_⟩
    refine ⟨Nat.zero_le _, fun Z nZ => ?_⟩
    have sZ := same_new (o := .lst []) nZ
    generalize upd H Z (.lst []) = H1 at sZ
    have kZ := Kt.same hT sZ
    exact ⟨.str x, rfl, x, rfl, kZ.tab, hx, fun H2 k2 => ⟨true, x0, fun _ a na => ⟨D0, _, rfl, rfl, rfl, K0, fun r H' hr s => ⟨.ref r, rfl, q r H' hr ((kZ.trans k2).trans (Kt.same k2.tab s))⟩⟩, fun z => Bool.noConfusion z⟩⟩
end
theorem low_web {x : Str} (h : lowS x) : 10 ∉ tl (("web" : Str) ++ x) ∧ 32 ∉ tl (("web" : Str) ++ x) ∧ (("web" : Str) ++ x).length ≤ 1000 := by
  have e3 : ("web" : Str).length = 3 := by decide
  have w1 : 10 ∉ tl ("web" : Str) := by decide
  have w2 : 32 ∉ tl ("web" : Str) := by decide
  refine ⟨fun z => ?_, fun z => ?_, ?_⟩
  · rw [tl_append] at z
    rcases List.mem_append.mp z with z | z
    · exact w1 z
    · have := h.1 _ z
      omega
  · rw [tl_append] at z
    rcases List.mem_append.mp z with z | z
    · exact w2 z
    · have := h.1 _ z
      omega
  · rw [app_len, e3]
    have := h.2
    omega
theorem due_kinds (w : Nat) : ((List.range 6).map fun k : Nat => V.bl (decide (V.int (w : Nat) = V.int (0 + (k : Int))))) ++ [V.bl true, V.bl true] = kindL fun k => decide (k = w) := by
  have e : ∀ k : Nat, decide (V.int (w : Nat) = V.int (0 + (k : Int))) = decide (k = w) := fun k => by
    rw [dec_int]
    exact decide_eq_decide.mpr ⟨fun h => by omega, fun h => by omega⟩
  simp only [e]
  rfl
section
variable {P : Program} {w : World} {K : PySem.W.Frag} {mg : Str → Option Value} {base : Heap}
set_option maxHeartbeats 8000000 in
theorem ok_law {f : Addr} {fd : FuncData} {Ps : List Addr} (F : Fun K "law" "law" s_law f fd) (M : Free mg) (D_l_deck : Df P w K mg base 1 "_law_deck" ["_law_script"] (spDeck K)) (D_l_raised : Df P w K mg base 2 "_law_raised" ["_law_which", "_law_text"] spRaised) (D_l_word : Df P w K mg base 2 "_law_word" ["_law_deck_here"] spWord) (D_l_of_text : Df P w K mg base 8 "_law_of_text" ["_law_text"] (spOfText Ps)) : FnOk P w K mg base CX0 9 f fd ["_law_script"] (spLaw K Ps) := by
  obtain ⟨f_l_deck, fd_l_deck, G_l_deck, g_l_deck, k_l_deck, b_l_deck⟩ := D_l_deck
  obtain ⟨f_l_raised, fd_l_raised, G_l_raised, g_l_raised, k_l_raised, b_l_raised⟩ := D_l_raised
  obtain ⟨f_l_word, fd_l_word, G_l_word, g_l_word, k_l_word, b_l_word⟩ := D_l_word
  obtain ⟨f_l_of_text, fd_l_of_text, G_l_of_text, g_l_of_text, k_l_of_text, b_l_of_text⟩ := D_l_of_text
  refine F.ok sc_law (fun vs H Q E h => ?_) (fun cdv A outer s H vs Q E hr h => ?_)
  · obtain ⟨a, ns, rfl, _⟩ := h
    rfl
  · obtain ⟨sc, ns, rfl, hS, hlen, hT, q⟩ := h
    refine ⟨_, (pss_cons (ps_set (i := 1) sc_law.nd rfl (.inl rfl) (pe_call G_l_deck (hr.mono (by decide)) (by rfl) g_l_deck k_l_deck b_l_deck .nil pass0 (pa_cons (pv 0) pa_nil)))
      (pss_cons (ps_for PassesOwn.never rfl (pi_range1 (by rfl) M.range (pa_cons pe_int pa_nil)) (pg_name (i := 2) sc_law.nd rfl (.inl rfl))
        (pss_one (ps_for PassesOwn.never rfl (pi_range1 (by rfl) M.range (pa_cons pe_int pa_nil)) (pg_name (i := 3) sc_law.nd rfl (.inr rfl))
          (pss_cons (ps_set (i := 4) sc_law.nd rfl (.inl rfl) (pe_op op_cat (pe_lc (own := [("_law_k", 5)]) (g := gName 5) (tt := tYes) rfl sc_law.nd (pi_range1 (by rfl) M.range (pa_cons pe_int pa_nil)) (blkOk_by (N := N_law) (sc := defScope s_law) (own := [("_law_k", 5)]) (by decide +kernel)) (fun _ _ _ _ _ => (pg_name (i := 5) sc_law.nd rfl (.inl rfl))) (fun _ _ _ _ _ => pts_nil) (fun _ _ _ _ _ => (pe_cmpR op_eq (pv 3) (pv 5) (nomark _)))) (pe_lst (pa_cons pe_bl (pa_cons pe_bl pa_nil)))))
          (pss_one (ps_if (pt_cmpR (op_neD hr.units) (pe_call G_l_raised (hr.mono (by decide)) (by rfl) g_l_raised k_l_raised b_l_raised .nil pass0 (pa_cons (pv 3) (pa_cons (pe_call G_l_word (hr.mono (by decide)) (by rfl) g_l_word k_l_word b_l_word .nil pass0 (pa_cons (pv 1) pa_nil)) pa_nil))) (pv 4) (nomark _))
            (pss_one (ps_ret pe_bl))
            pss_nil))))))
      (pss_cons (ps_set (i := 4) sc_law.nd rfl (.inl rfl) (pe_lst (pa_cons pe_bl (pa_cons pe_bl (pa_cons pe_bl (pa_cons pe_bl (pa_cons pe_bl (pa_cons pe_bl (pa_cons pe_bl (pa_cons pe_bl pa_nil))))))))))
      (pss_one (ps_ret (pe_and (pe_cmpR (op_eqD hr.units) (pe_call G_l_of_text hr (by rfl) g_l_of_text k_l_of_text b_l_of_text .nil pass0 (pa_cons (pe_op op_add_str pe_str (pe_call G_l_word (hr.mono (by decide)) (by rfl) g_l_word k_l_word b_l_word .nil pass0 (pa_cons (pv 1) pa_nil))) pa_nil)) (pv 4) (nomark _)) (pe_one (pe_cmpR (op_eqD hr.units) (pe_call G_l_of_text hr (by rfl) g_l_of_text k_l_of_text b_l_of_text .nil pass0 (pa_cons pe_str pa_nil)) (pv 4) (nomark _))))))))), ?_⟩
    refine ⟨.ref sc, rfl, sc, ns, rfl, hS, hlen, fun d c H1 s1 nd nc D1 => ?_⟩
    have T1 := hT.same s1
    clear hS hT s1 nd nc
    refine ⟨2, rfl, by decide, by decide, ?_⟩
    refine for_range (lo := 0) (n := 2) (fun i σ' H' => ∃ y2 y3 y4 y5 : Option V, σ' = [some (.ref sc), some (.ref d), y2, y3, y4, y5] ∧ Deck H' d c ∧ Tabs Ps H') ⟨_, _, _, _, rfl, D1, T1⟩ ?_ ?_
    · rintro i σ' H2 hi ⟨y2, y3, y4, y5, rfl, D2, T2⟩
      refine ⟨7, rfl, by decide, by decide, ?_⟩
      refine for_range (lo := 0) (n := 7) (fun i σ' H' => ∃ y2 y3 y4 y5 : Option V, σ' = [some (.ref sc), some (.ref d), y2, y3, y4, y5] ∧ Deck H' d c ∧ Tabs Ps H') ⟨_, _, _, _, rfl, D2, T2⟩ ?_ ?_
      · rintro j σ' H3 hj ⟨z2, z3, z4, z5, rfl, D3, T3⟩
        have hj7 : j < 7 := hj
        rw [show (0 : Int) + (j : Int) = (j : Nat) by omega]
        refine ⟨6, rfl, by decide, by decide, fun L nL => ?_⟩
        refine lc_range (lo := 0) (n := 6) (fun i H' => H' L = some (.lst ((List.range i).map fun k : Nat => V.bl (decide (V.int (j : Nat) = V.int (0 + (k : Int)))))) ∧ Same H3 H') ⟨upd_same, same_new nL⟩ ?_ ?_
        · rintro m H4 hm ⟨hL, s4⟩
          have hm6 : m < 6 := hm
          refine ⟨rfl, .int (j : Nat), rfl, .int (0 + (m : Int)), rfl, rfl, _, hL, by rw [List.length_map, List.length_range, sizeLine_eq]; omega, ?_, ?_⟩
          · rw [upd_same, List.range_succ, List.map_append]
            rfl
          · exact Same.mut s4 nL
        rintro H4 ⟨hL, s4⟩
        refine ⟨by show 2 ≤ sizeLine; decide, fun L2 nL2 => ?_⟩
        have s5 := same_new (o := .lst [.bl true, .bl true]) nL2
        refine ⟨L, L2, _, _, rfl, rfl, s5 _ _ hL, upd_same, by show 8 ≤ sizeLine; decide, fun L3 nL3 => ?_⟩
        rw [due_kinds]
        have nd3 := (D3.same (s4.trans s5)).ned nL3
        have s6 := same_new (o := .lst (kindL fun k => decide (k = j))) nL3
        have h3 := upd_same (H := upd H4 L2 (.lst [.bl true, .bl true])) (a := L3) (o := .lst (kindL fun k => decide (k = j)))
        have s36 := s4.trans (s5.trans s6)
        generalize upd (upd H4 L2 (.lst [.bl true, .bl true])) L3 (.lst (kindL fun k => decide (k = j))) = H5 at s36 h3
        have D5 := D3.same s36
        have T5 := T3.same s36
        clear s4 s5 s6 hL
        refine ⟨.int (j : Nat), rfl, .ref d, rfl, d, c, rfl, D5, fun x H6 lx D6 K6 => ?_⟩
        have T6 := T5.kp K6 D5
        have h36 := K6 _ _ nd3.1 nd3.2 h3
        refine ⟨j, x, rfl, by omega, fun r H7 hr7 s7 => ⟨.ref L3, rfl, kindD _, kindD _, kind_dp hr7, kind_dp (s7 _ _ h36), kind_shaped _, kind_shaped _, ?_⟩⟩
        rw [kind_refl]
        exact ⟨_, rfl, _, _, _, _, rfl, D6.same s7, T6.same s7⟩
      · rintro σ' H3 ⟨z2, z3, z4, z5, rfl, D3, T3⟩
        exact ⟨_, _, _, _, rfl, D3, T3⟩
    · rintro σ' H2 ⟨y2, y3, y4, y5, rfl, D2, T2⟩
      refine ⟨by show 8 ≤ sizeLine; decide, fun L nL => ?_⟩
      have sL := same_new (o := .lst [V.bl true, V.bl false, V.bl false, V.bl false, V.bl false, V.bl false, V.bl true, V.bl true]) nL
      have hL : (upd H2 L (.lst [V.bl true, V.bl false, V.bl false, V.bl false, V.bl false, V.bl false, V.bl true, V.bl true])) L = some (.lst (kindL fun k => decide (k = 0))) := upd_same
      have nd := D2.ned nL
      have D3 := D2.same sL
      have T3 := T2.same sL
      generalize upd H2 L (.lst [V.bl true, V.bl false, V.bl false, V.bl false, V.bl false, V.bl false, V.bl true, V.bl true]) = H3 at hL D3 T3
      refine ⟨.ref d, rfl, d, c, rfl, D3, fun x H4 lx D4 K4 => ?_⟩
      have T4 := T3.kp K4 D3
      have hL4 := K4 _ _ nd.1 nd.2 hL
      have wx := low_web lx
      refine ⟨("web" : Str), x, rfl, rfl, ?_, _, rfl, T4, .inl wx, fun r H5 hr5 k5 => ?_⟩
      · have := wx.2.2
        rw [app_len] at this
        rw [sizeLine_eq]
        omega
      have T5 := k5.tab
      have hL5 := k5.lst T4 hL4
      refine ⟨.ref L, rfl, kindD _, kindD _, kind_dp hr5, kind_dp hL5, kind_shaped _, kind_shaped _, ?_⟩
      rw [kind_refl]
      refine ⟨_, rfl, _, rfl, T5, .inr (by decide +kernel), fun r2 H6 hr6 k6 => ?_⟩
      have hL6 := k6.lst T5 hL5
      refine ⟨.ref L, rfl, kindD _, kindD _, kind_dp hr6, kind_dp hL6, kind_shaped _, kind_shaped _, ?_⟩
      rw [kind_refl]
      exact q _
end
/-! ### a tuple of texts that stands in the module -/
structure TupK (K : PySem.W.Frag) (x : Str) (ka : Addr) (ss : List Str) : Prop where
  ns : PySem.W.nsIn K mainGlobals x = some (some (.ref ka))
  ex : ∃ (o : Obj) (its : Array Value) (n : Nat), K.lookup ka = some o ∧ o.cls = .type "tuple" ∧ o.data = .seq its n ∧ its.size ≤ sizeLine ∧ Vals (ss.map V.str) its.toList
theorem TupK.sqt {K : PySem.W.Frag} {x : Str} {ka : Addr} {ss : List Str} (h : TupK K x ka ss) (H : Hp) : SqT K H ka (ss.map V.str) := .inr h.ex
theorem tupK_mk2 {K : PySem.W.Frag} {x a b : Str} {ka : Addr} {t1 t2 : Tok} {od : Option Addr} {n : Nat} {osl : Array (Option Value)} (p1 : PySem.W.nsIn K mainGlobals x = some (some (.ref ka))) (p2 : K.lookup ka = some ⟨.type "tuple", od, .seq #[.str a t1, .str b t2] n, osl⟩) : TupK K x ka [a, b] :=
  ⟨p1, _, _, _, p2, rfl, rfl, by show 2 ≤ sizeLine; decide, .cons ⟨_, rfl⟩ (.cons ⟨_, rfl⟩ .nil)⟩
/-! ### the end of a law whose defs hold generator expressions: their tables are empty behind the top -/
theorem walk_tabs {l : PySem.W.OpenLaw} {n k : Nat} {q : Program} {loose : List Str} {XP : (Str → Option Value) → Heap → Prop} {YP : World → Heap → Prop} {d : DefRec} {K : Params → PySem.W.Frag} {x : Str}
    (hn : l.most = some n) (hn2 : n ≤ sizeLine) (hdf : d.params.defaults = []) (hr : Room k callerA) (hY : ∀ (w : World) (h : Heap), YP w h → (K w.params).In h)
    (F : ∀ (w : World) (mg : Str → Option Value) (fa : Addr) (h : Heap), (K w.params).In h → h.Ns mainGlobals mg → mg d.name = some (.ref fa) →
      (∀ (y : Str) (fy : Addr), ((recsOf q).any fun e => e.name == y) = true → mg y = some (.ref fy) → LamX.OwnTab (K w.params) fy h) → LamX.LawAtS l w (K w.params) CX0 k n x mg fa h) :
    PySem.W.WalkO q loose XP YP l.row.toRowW d [] (fun f vs => PySem.call f vs) := by
  refine Att.attach_callB hn hdf fun w s₀ s₁ mg mb fa o pm cd doc a vs ns G Y ho hd hcd hmg hobj hints hlen hbits hg => ?_
  have KX := hY w _ Y
  have tabs : ∀ (y : Str) (fy : Addr), ((recsOf q).any fun e => e.name == y) = true → mg y = some (.ref fy) → LamX.OwnTab (K w.params) fy s₁.heap := fun y fy hy hm c P o1 fd1 e dd vs1 sl k1 k2 k3 k4 k5 => by
    obtain ⟨dL, hmem, hnm⟩ := List.any_eq_true.mp hy
    have hnm : dL.name = y := beq_iff_eq.mp hnm
    obtain ⟨a', o', fd', c', P', h1, h2, h3, h4, h5, h6⟩ := G.T.tab dL hmem
    rw [hnm, hm] at h1
    cases h1
    rw [KX _ _ k1] at h2
    cases h2
    rw [k2] at h3
    cases h3
    rw [k3] at h4
    cases h4
    obtain ⟨⟨oc, vc, e1, _, e3, e4⟩, hP⟩ := h6
    rw [KX _ _ k4] at e1
    cases e1
    cases e3
    rw [k5] at e4
    cases e4
    exact hP
  obtain ⟨fd, cs, sp, hT, nT, C, hb, hsp, hF⟩ := F w mg fa _ KX G.T.g hmg tabs
  exact LamX.law_callTs KX G.T.g G.T.b G.T.builtins G.T.nolimit hg hT nT C G.T.bmain hobj hints (Nat.le_trans hlen hn2) hr hF hb (fun H hH hS => hsp H a ns hlen hbits hH hS) fun H e s' z => z
/-- where a def stands, and where its code object does -/
structure At (K : PySem.W.Frag) (x : Str) (st : Stmt) (f : Addr) : Prop where
  ns : PySem.W.nsIn K mainGlobals x = some (some (.ref f))
  ex : ∃ (oc : Value) (od : Option Addr) (kV doc pm : Value) (an : Option Addr) (cdv ct : Value) (osl : Array (Option Value)),
    K.lookup f = some ⟨oc, od, .func (PySem.W.fnOf x x (defArgs st) (defBody st) (defScope st) .none kV doc pm an cdv ct), osl⟩ ∧ PySem.W.codeIn K cdv x = true
  kp : PySem.W.keepIn K (.ref f) = true
theorem at_mk {K : PySem.W.Frag} {x : Str} {st : Stmt} {f : Addr} {oc : Value} {od an : Option Addr} {osl : Array (Option Value)} {kV doc pm cdv ct : Value} (a : PySem.W.nsIn K mainGlobals x = some (some (.ref f)))
    (l : K.lookup f = some ⟨oc, od, .func (PySem.W.fnOf x x (defArgs st) (defBody st) (defScope st) .none kV doc pm an cdv ct), osl⟩) (c : PySem.W.codeIn K cdv x = true) (k : PySem.W.keepIn K (.ref f) = true) : At K x st f := ⟨a, ⟨oc, od, kV, doc, pm, an, cdv, ct, osl, l, c⟩, k⟩
theorem At.fn {K : PySem.W.Frag} {x : Str} {st : Stmt} {f : Addr} (h : At K x st f) : ∃ fd, Fun K x x st f fd := by
  obtain ⟨oc, od, kV, doc, pm, an, cdv, ct, osl, l, c⟩ := h.ex
  exact ⟨_, fun_mk l c h.kp⟩
structure AtC (K : PySem.W.Frag) (x : Str) (st : Stmt) (f c Pt : Addr) : Prop where
  ns : PySem.W.nsIn K mainGlobals x = some (some (.ref f))
  ex : ∃ (oc : Value) (od : Option Addr) (kV doc pm : Value) (an : Option Addr) (ct : Value) (osl : Array (Option Value)),
    K.lookup f = some ⟨oc, od, .func (PySem.W.fnOf x x (defArgs st) (defBody st) (defScope st) .none kV doc pm an (.ref c) ct), osl⟩ ∧ PySem.W.codeIn K (.ref c) x = true
  kp : PySem.W.keepIn K (.ref f) = true
  co : ∃ (dd : Option Addr) (vs : Array Value) (sl : Array (Option Value)) (file : Str) (tf : Tok) (flags : Int) (tg : Tok) (inF : Bool) (text : Int) (tt : Tok), K.lookup c = some ⟨.type "code", dd, .fields vs, sl⟩ ∧ vs[11]? = some (.ref Pt) ∧ vs.getD 11 .none = .ref Pt ∧ vs.getD 18 .none = .str file tf ∧
    vs.getD 7 .none = .int flags tg ∧ vs.getD 9 .none = .bool inF ∧ vs.getD 10 .none = .int text tt ∧ c ≠ Pt
  nP : K.lookup Pt = none
theorem atC_mk {K : PySem.W.Frag} {x : Str} {st : Stmt} {f c Pt : Addr} {oc : Value} {od an dd : Option Addr} {osl sl : Array (Option Value)} {kV doc pm ct : Value} {vs : Array Value} {file : Str} {tf tg tt : Tok} {flags text : Int} {inF : Bool} (a : PySem.W.nsIn K mainGlobals x = some (some (.ref f)))
    (l : K.lookup f = some ⟨oc, od, .func (PySem.W.fnOf x x (defArgs st) (defBody st) (defScope st) .none kV doc pm an (.ref c) ct), osl⟩) (cc : PySem.W.codeIn K (.ref c) x = true) (k : PySem.W.keepIn K (.ref f) = true)
    (lc : K.lookup c = some ⟨.type "code", dd, .fields vs, sl⟩) (v11 : vs[11]? = some (.ref Pt)) (w11 : vs.getD 11 .none = .ref Pt) (v18 : vs.getD 18 .none = .str file tf) (v7 : vs.getD 7 .none = .int flags tg) (v9 : vs.getD 9 .none = .bool inF) (v10 : vs.getD 10 .none = .int text tt) (ne : c ≠ Pt)
    (nP : K.lookup Pt = none) : AtC K x st f c Pt := ⟨a, ⟨oc, od, kV, doc, pm, an, ct, osl, l, cc⟩, k, ⟨dd, vs, sl, file, tf, flags, tg, inF, text, tt, lc, v11, w11, v18, v7, v9, v10, ne⟩, nP⟩
theorem AtC.fn {K : PySem.W.Frag} {x : Str} {st : Stmt} {f c Pt : Addr} (h : AtC K x st f c Pt) : ∃ fd, FunC K x x st f fd c := by
  obtain ⟨oc, od, kV, doc, pm, an, ct, osl, l, cc⟩ := h.ex
  exact ⟨_, ⟨oc, od, kV, doc, pm, an, ct, osl, rfl, l, cc⟩, h.kp⟩
theorem AtC.hd {K : PySem.W.Frag} {h : Heap} {x : Str} {st : Stmt} {f c Pt : Addr} (a : AtC K x st f c Pt) (X : K.In h) : PySem.W.CodeHd h c Pt := by
  obtain ⟨dd, vs, sl, file, tf, flags, tg, inF, text, tt, lc, v11, w11, v18, v7, v9, v10, ne⟩ := a.co
  exact ⟨_, vs, file, tf, flags, tg, inF, text, tt, X _ _ lc, rfl, rfl, v11, w11, v18, v7, v9, v10, ne⟩
theorem AtC.tab {K : PySem.W.Frag} {h : Heap} {x : Str} {st : Stmt} {f c Pt : Addr} (a : AtC K x st f c Pt) (o : LamX.OwnTab K f h) : h.get? Pt = some { cls := .none, data := .fields #[] } := by
  obtain ⟨oc, od, kV, doc, pm, an, ct, osl, l, cc⟩ := a.ex
  obtain ⟨dd, vs, sl, file, tf, flags, tg, inF, text, tt, lc, v11, w11, v18, v7, v9, v10, ne⟩ := a.co
  exact o c Pt _ _ _ _ _ _ l rfl rfl lc v11
section
variable {P : Program} {w : World} {K : PySem.W.Frag} {mg : Str → Option Value} {base : Heap}
theorem Df.of {x : Str} {st : Stmt} {f : Addr} {fd : FuncData} {k : Nat} {ps : List Str} {sp : Sp} (g : mg x = some (.ref f)) (F : Fun K x x st f fd) (G : FnOk P w K mg base CX0 k f fd ps sp)
    (h : ∀ (kV doc pm : Value) (an : Option Addr) (cdv ct : Value) (us : List Value), us.length = ps.length → bindArgs (PySem.W.fnOf x x (defArgs st) (defBody st) (defScope st) .none kV doc pm an cdv ct) ⟨us, []⟩ = pure (ps.zip us)) : Df P w K mg base k x ps sp :=
  ⟨f, fd, G, g, F.kp, F.binds h⟩
end
/-! ### defs that may raise where nothing is handled, and defs called in a suite -/
theorem DfN.of {P : Program} {w : World} {K : PySem.W.Frag} {mg : Str → Option Value} {base : Heap} {x : Str} {st : Stmt} {f : Addr} {fd : FuncData} {k : Nat} {ps : List Str} {sp : Sp} (g : mg x = some (.ref f)) (F : Fun K x x st f fd) (G : FnOk P w K mg base (L2N.CX P w) k f fd ps sp)
    (h : ∀ (kV doc pm : Value) (an : Option Addr) (cdv ct : Value) (us : List Value), us.length = ps.length → bindArgs (PySem.W.fnOf x x (defArgs st) (defBody st) (defScope st) .none kV doc pm an cdv ct) ⟨us, []⟩ = pure (ps.zip us)) : DfN P w K mg base k x ps sp :=
  ⟨f, fd, G, g, F.kp, F.binds h⟩
theorem DfP.of {P : Program} {w : World} {K : PySem.W.Frag} {mg : Str → Option Value} {base : Heap} {x : Str} {st : Stmt} {f : Addr} {fd : FuncData} {k : Nat} {ps : List Str} {sp : Addr × Obj → Sp} (g : mg x = some (.ref f)) (F : Fun K x x st f fd) (G : FnP P w K mg base CX0 k f fd ps sp)
    (h : ∀ (kV doc pm : Value) (an : Option Addr) (cdv ct : Value) (us : List Value), us.length = ps.length → bindArgs (PySem.W.fnOf x x (defArgs st) (defBody st) (defScope st) .none kV doc pm an cdv ct) ⟨us, []⟩ = pure (ps.zip us)) : DfP P w K mg base k x ps sp :=
  ⟨f, fd, G, g, F.kp, F.binds h⟩
/-! ### what the top has written -/
section
variable {P : Program} {w : World} {K : PySem.W.Frag} {mg : Str → Option Value} {base : Heap}
set_option maxHeartbeats 0 in
theorem law_at {l : PySem.W.OpenLaw} {w : World} {K : PySem.W.Frag} {h : Heap} {mg : Str → Option Value} {fa f0 f1 f2 f3 f4 f5 f6 f7 f8 f9 f10 f11 f12 f13 f14 f15 f16 f17 f18 f19 c6 P6 c7 P7 c8 P8 c11 P11 eW e_NoText e_NoFrame e_NoTie e_NoRow e_NotFlat e_TooMany e_WebError u_0 : Addr} {nt0 nt1 : Tok} (X : K.In h) (G : h.Ns mainGlobals mg) (hfa : mg "law" = some (.ref fa))
    (t6 : ∀ (fy : Addr), mg "is_web" = some (.ref fy) → LamX.OwnTab K fy h)
    (t7 : ∀ (fy : Addr), mg "is_weights" = some (.ref fy) → LamX.OwnTab K fy h)
    (t8 : ∀ (fy : Addr), mg "writes_number" = some (.ref fy) → LamX.OwnTab K fy h)
    (t11 : ∀ (fy : Addr), mg "read_weights" = some (.ref fy) → LamX.OwnTab K fy h)
    (a0 : At K "is_whole" s_is_whole f0)
    (a1 : At K "is_whole_from" s_is_whole_from f1)
    (a2 : At K "is_whole_below" s_is_whole_below f2)
    (a3 : At K "are_unlike_places" s_are_unlike_places f3)
    (a4 : At K "is_tuple_of" s_is_tuple_of f4)
    (a5 : At K "is_tie" s_is_tie f5)
    (a6 : AtC K "is_web" s_is_web f6 c6 P6)
    (a7 : AtC K "is_weights" s_is_weights f7 c7 P7)
    (a8 : AtC K "writes_number" s_writes_number f8 c8 P8)
    (a9 : At K "read_number" s_read_number f9)
    (a10 : At K "read_many" s_read_many f10)
    (a11 : AtC K "read_weights" s_read_weights f11 c11 P11)
    (a12 : At K "read_web" s_read_web f12)
    (a13 : At K "_law_deck" s_l_deck f13)
    (a14 : At K "_law_draw" s_l_draw f14)
    (a15 : At K "_law_kinds" s_l_kinds f15)
    (a16 : At K "_law_word" s_l_word f16)
    (a17 : At K "_law_raised" s_l_raised f17)
    (a18 : At K "_law_of_text" s_l_of_text f18)
    (a19 : At K "law" s_law f19)
    (z0 : PySem.W.nsIn K mainGlobals "len" = some none)
    (z1 : PySem.W.nsIn K mainGlobals "int" = some none)
    (z2 : PySem.W.nsIn K mainGlobals "bool" = some none)
    (z3 : PySem.W.nsIn K mainGlobals "str" = some none)
    (z4 : PySem.W.nsIn K mainGlobals "list" = some none)
    (z5 : PySem.W.nsIn K mainGlobals "tuple" = some none)
    (z6 : PySem.W.nsIn K mainGlobals "range" = some none)
    (z7 : PySem.W.nsIn K mainGlobals "isinstance" = some none)
    (z8 : PySem.W.nsIn K mainGlobals "sum" = some none)
    (z9 : PySem.W.nsIn K mainGlobals "all" = some none)
    (z10 : PySem.W.nsIn K mainGlobals "ValueError" = some none)
    (e0 : ErrK K "NoText" e_NoText eW)
    (k0_0 : KitK K e_NoText "NoText" e_NoText true)
    (k0_1 : KitK K e_NoText "NoFrame" e_NoFrame false)
    (k0_2 : KitK K e_NoText "NoTie" e_NoTie false)
    (k0_3 : KitK K e_NoText "NoRow" e_NoRow false)
    (k0_4 : KitK K e_NoText "NotFlat" e_NotFlat false)
    (k0_5 : KitK K e_NoText "TooMany" e_TooMany false)
    (k0_6 : KitK K e_NoText "WebError" e_WebError true)
    (v0 : PySem.W.kitOne K (.ref e_NoText) (.type "ValueError") = some true)
    (x0 : PySem.W.exmOne K (.ref e_NoText) (.ref e_NoText) = some true)
    (e1 : ErrK K "NoFrame" e_NoFrame eW)
    (k1_0 : KitK K e_NoFrame "NoText" e_NoText false)
    (k1_1 : KitK K e_NoFrame "NoFrame" e_NoFrame true)
    (k1_2 : KitK K e_NoFrame "NoTie" e_NoTie false)
    (k1_3 : KitK K e_NoFrame "NoRow" e_NoRow false)
    (k1_4 : KitK K e_NoFrame "NotFlat" e_NotFlat false)
    (k1_5 : KitK K e_NoFrame "TooMany" e_TooMany false)
    (k1_6 : KitK K e_NoFrame "WebError" e_WebError true)
    (v1 : PySem.W.kitOne K (.ref e_NoFrame) (.type "ValueError") = some true)
    (x1 : PySem.W.exmOne K (.ref e_NoFrame) (.ref e_NoFrame) = some true)
    (e2 : ErrK K "NoTie" e_NoTie eW)
    (k2_0 : KitK K e_NoTie "NoText" e_NoText false)
    (k2_1 : KitK K e_NoTie "NoFrame" e_NoFrame false)
    (k2_2 : KitK K e_NoTie "NoTie" e_NoTie true)
    (k2_3 : KitK K e_NoTie "NoRow" e_NoRow false)
    (k2_4 : KitK K e_NoTie "NotFlat" e_NotFlat false)
    (k2_5 : KitK K e_NoTie "TooMany" e_TooMany false)
    (k2_6 : KitK K e_NoTie "WebError" e_WebError true)
    (v2 : PySem.W.kitOne K (.ref e_NoTie) (.type "ValueError") = some true)
    (x2 : PySem.W.exmOne K (.ref e_NoTie) (.ref e_NoTie) = some true)
    (e3 : ErrK K "NoRow" e_NoRow eW)
    (k3_0 : KitK K e_NoRow "NoText" e_NoText false)
    (k3_1 : KitK K e_NoRow "NoFrame" e_NoFrame false)
    (k3_2 : KitK K e_NoRow "NoTie" e_NoTie false)
    (k3_3 : KitK K e_NoRow "NoRow" e_NoRow true)
    (k3_4 : KitK K e_NoRow "NotFlat" e_NotFlat false)
    (k3_5 : KitK K e_NoRow "TooMany" e_TooMany false)
    (k3_6 : KitK K e_NoRow "WebError" e_WebError true)
    (v3 : PySem.W.kitOne K (.ref e_NoRow) (.type "ValueError") = some true)
    (x3 : PySem.W.exmOne K (.ref e_NoRow) (.ref e_NoRow) = some true)
    (e4 : ErrK K "NotFlat" e_NotFlat eW)
    (k4_0 : KitK K e_NotFlat "NoText" e_NoText false)
    (k4_1 : KitK K e_NotFlat "NoFrame" e_NoFrame false)
    (k4_2 : KitK K e_NotFlat "NoTie" e_NoTie false)
    (k4_3 : KitK K e_NotFlat "NoRow" e_NoRow false)
    (k4_4 : KitK K e_NotFlat "NotFlat" e_NotFlat true)
    (k4_5 : KitK K e_NotFlat "TooMany" e_TooMany false)
    (k4_6 : KitK K e_NotFlat "WebError" e_WebError true)
    (v4 : PySem.W.kitOne K (.ref e_NotFlat) (.type "ValueError") = some true)
    (x4 : PySem.W.exmOne K (.ref e_NotFlat) (.ref e_NotFlat) = some true)
    (e5 : ErrK K "TooMany" e_TooMany eW)
    (k5_0 : KitK K e_TooMany "NoText" e_NoText false)
    (k5_1 : KitK K e_TooMany "NoFrame" e_NoFrame false)
    (k5_2 : KitK K e_TooMany "NoTie" e_NoTie false)
    (k5_3 : KitK K e_TooMany "NoRow" e_NoRow false)
    (k5_4 : KitK K e_TooMany "NotFlat" e_NotFlat false)
    (k5_5 : KitK K e_TooMany "TooMany" e_TooMany true)
    (k5_6 : KitK K e_TooMany "WebError" e_WebError true)
    (v5 : PySem.W.kitOne K (.ref e_TooMany) (.type "ValueError") = some true)
    (x5 : PySem.W.exmOne K (.ref e_TooMany) (.ref e_TooMany) = some true)
    (e6 : ErrK K "WebError" e_WebError eW)
    (k6_0 : KitK K e_WebError "NoText" e_NoText false)
    (k6_1 : KitK K e_WebError "NoFrame" e_NoFrame false)
    (k6_2 : KitK K e_WebError "NoTie" e_NoTie false)
    (k6_3 : KitK K e_WebError "NoRow" e_NoRow false)
    (k6_4 : KitK K e_WebError "NotFlat" e_NotFlat false)
    (k6_5 : KitK K e_WebError "TooMany" e_TooMany false)
    (k6_6 : KitK K e_WebError "WebError" e_WebError true)
    (v6 : PySem.W.kitOne K (.ref e_WebError) (.type "ValueError") = some true)
    (x6 : PySem.W.exmOne K (.ref e_WebError) (.ref e_WebError) = some true)
    (n0 : PySem.W.nsIn K mainGlobals "MOST_FIGURES" = some (some (.int 31 nt0)))
    (n1 : PySem.W.nsIn K mainGlobals "FIGURES" = some (some (.str "0123456789" nt1)))
    (u0 : TupK K "KINDS" u_0 ["friend", "foe"]) :
    LamX.LawAtS l w K CX0 9 63 "_law_script" mg fa h := by
  have efa := hfa.symm.trans (PySem.W.mg_of X G a19.ns)
  cases efa
  have M : Free mg := ⟨PySem.W.mg_none_of X G z0, PySem.W.mg_none_of X G z1, PySem.W.mg_none_of X G z2, PySem.W.mg_none_of X G z3, PySem.W.mg_none_of X G z4, PySem.W.mg_none_of X G z5, PySem.W.mg_none_of X G z6, PySem.W.mg_none_of X G z7, PySem.W.mg_none_of X G z8⟩
  have m_all := PySem.W.mg_none_of X G z9
  have m_ValueError := PySem.W.mg_none_of X G z10
  obtain ⟨d0, F0⟩ := a0.fn
  obtain ⟨d1, F1⟩ := a1.fn
  obtain ⟨d2, F2⟩ := a2.fn
  obtain ⟨d3, F3⟩ := a3.fn
  obtain ⟨d4, F4⟩ := a4.fn
  obtain ⟨d5, F5⟩ := a5.fn
  obtain ⟨d6, F6⟩ := a6.fn
  obtain ⟨d7, F7⟩ := a7.fn
  obtain ⟨d8, F8⟩ := a8.fn
  obtain ⟨d9, F9⟩ := a9.fn
  obtain ⟨d10, F10⟩ := a10.fn
  obtain ⟨d11, F11⟩ := a11.fn
  obtain ⟨d12, F12⟩ := a12.fn
  obtain ⟨d13, F13⟩ := a13.fn
  obtain ⟨d14, F14⟩ := a14.fn
  obtain ⟨d15, F15⟩ := a15.fn
  obtain ⟨d16, F16⟩ := a16.fn
  obtain ⟨d17, F17⟩ := a17.fn
  obtain ⟨d18, F18⟩ := a18.fn
  obtain ⟨d19, F19⟩ := a19.fn
  have g0 := PySem.W.mg_of X G a0.ns
  have g1 := PySem.W.mg_of X G a1.ns
  have g2 := PySem.W.mg_of X G a2.ns
  have g3 := PySem.W.mg_of X G a3.ns
  have g4 := PySem.W.mg_of X G a4.ns
  have g5 := PySem.W.mg_of X G a5.ns
  have g6 := PySem.W.mg_of X G a6.ns
  have g7 := PySem.W.mg_of X G a7.ns
  have g8 := PySem.W.mg_of X G a8.ns
  have g9 := PySem.W.mg_of X G a9.ns
  have g10 := PySem.W.mg_of X G a10.ns
  have g11 := PySem.W.mg_of X G a11.ns
  have g12 := PySem.W.mg_of X G a12.ns
  have g13 := PySem.W.mg_of X G a13.ns
  have g14 := PySem.W.mg_of X G a14.ns
  have g15 := PySem.W.mg_of X G a15.ns
  have g16 := PySem.W.mg_of X G a16.ns
  have g17 := PySem.W.mg_of X G a17.ns
  have g18 := PySem.W.mg_of X G a18.ns
  have hb0 : ∀ (s : Shared) (u : Value), BindsTo s d19 ⟨[u], []⟩ [("_law_script", u)] := by
    obtain ⟨oc, od, kV, doc, pm, an, cdv, ct, osl, rfl, _⟩ := F19.ex
    exact fun s u => .of_eq rfl
  refine ⟨d19, [(c6, P6), (c7, P7), (c8, P8), (c11, P11)], (spLaw K [P6, P7, P8, P11]), (List.forall_mem_cons.mpr ⟨a6.tab (t6 _ g6), (List.forall_mem_cons.mpr ⟨a7.tab (t7 _ g7), (List.forall_mem_cons.mpr ⟨a8.tab (t8 _ g8), (List.forall_mem_cons.mpr ⟨a11.tab (t11 _ g11), (fun p hp => by simp at hp)⟩)⟩)⟩)⟩), (List.forall_mem_cons.mpr ⟨a6.nP, (List.forall_mem_cons.mpr ⟨a7.nP, (List.forall_mem_cons.mpr ⟨a8.nP, (List.forall_mem_cons.mpr ⟨a11.nP, (fun p hp => by simp at hp)⟩)⟩)⟩)⟩), (List.forall_mem_cons.mpr ⟨a6.hd X, (List.forall_mem_cons.mpr ⟨a7.hd X, (List.forall_mem_cons.mpr ⟨a8.hd X, (List.forall_mem_cons.mpr ⟨a11.hd X, (fun p hp => by simp at hp)⟩)⟩)⟩)⟩), hb0, fun H a ns hl _ hT hS => ⟨a, ns, rfl, hS, hl, (List.forall_mem_cons.mpr ⟨⟨#[], hT (c6, P6) (by simp), by trivial⟩, (List.forall_mem_cons.mpr ⟨⟨#[], hT (c7, P7) (by simp), by trivial⟩, (List.forall_mem_cons.mpr ⟨⟨#[], hT (c8, P8) (by simp), by trivial⟩, (List.forall_mem_cons.mpr ⟨⟨#[], hT (c11, P11) (by simp), by trivial⟩, (fun p hp => by simp at hp)⟩)⟩)⟩)⟩), fun _ => rfl⟩, fun base KB GB TB => ?_⟩
  have tb6 := TB (c6, P6) (by simp)
  have tb7 := TB (c7, P7) (by simp)
  have tb8 := TB (c8, P8) (by simp)
  have tb11 := TB (c11, P11) (by simp)
  have D0 : Df l.prog w K mg base 1 "is_whole" ["thing"] spWhole := .of g0 F0 (ok_is_whole F0 M) fun _ _ _ _ _ _ us hl => match us, hl with | [_], _ => rfl
  have D1 : Df l.prog w K mg base 2 "is_whole_from" ["low", "thing"] spFrom := .of g1 F1 (ok_is_whole_from F1 D0) fun _ _ _ _ _ _ us hl => match us, hl with | [_, _], _ => rfl
  have D2 : Df l.prog w K mg base 2 "is_whole_below" ["limit", "thing"] spBelow := .of g2 F2 (ok_is_whole_below F2 D0) fun _ _ _ _ _ _ us hl => match us, hl with | [_, _], _ => rfl
  have D3 : Df l.prog w K mg base 3 "are_unlike_places" ["many", "one", "other"] spUnlPl := .of g3 F3 (ok_unlike_places F3 D2) fun _ _ _ _ _ _ us hl => match us, hl with | [_, _, _], _ => rfl
  have D4 : Df l.prog w K mg base 1 "is_tuple_of" ["length", "thing"] spTupleOf := .of g4 F4 (ok_is_tuple_of F4 M) fun _ _ _ _ _ _ us hl => match us, hl with | [_, _], _ => rfl
  have D5 : Df l.prog w K mg base 4 "is_tie" ["many", "thing"] (spTie K) := .of g5 F5 (ok_is_tie F5 (PySem.W.mg_of X G u0.ns) u0.sqt D4 D3) fun _ _ _ _ _ _ us hl => match us, hl with | [_, _], _ => rfl
  have D6 : Df l.prog w K mg base 6 "is_web" ["thing"] (spIsWeb K [P6, P7, P8, P11]) := .of g6 F6.fn (ok_is_web F6 ⟨tb6.code, tb6.bm, tb6.gP⟩ (show P6 ∈ [P6, P7, P8, P11] by simp) M m_all D4 D1 D5) fun _ _ _ _ _ _ us hl => match us, hl with | [_], _ => rfl
  have D7 : Df l.prog w K mg base 4 "is_weights" ["web", "thing"] (spIsWeightsR [P6, P7, P8, P11]) := .of g7 F7.fn (ok_is_weights F7 ⟨tb7.code, tb7.bm, tb7.gP⟩ (show P7 ∈ [P6, P7, P8, P11] by simp) M m_all D1 D4) fun _ _ _ _ _ _ us hl => match us, hl with | [_, _], _ => rfl
  have D8 : Df l.prog w K mg base 2 "writes_number" ["word"] (spWrites [P6, P7, P8, P11]) := .of g8 F8.fn (ok_writes_number F8 ⟨tb8.code, tb8.bm, tb8.gP⟩ (show P8 ∈ [P6, P7, P8, P11] by simp) M m_all (PySem.W.mg_of X G n0) (PySem.W.mg_of X G n1)) fun _ _ _ _ _ _ us hl => match us, hl with | [_], _ => rfl
  have D9 : Df l.prog w K mg base 3 "read_number" ["word"] (spReadNum [P6, P7, P8, P11]) := .of g9 F9 (ok_read_number F9 M D8) fun _ _ _ _ _ _ us hl => match us, hl with | [_], _ => rfl
  have D10 : DfN l.prog w K mg base 4 "read_many" ["line"] (spReadManyX [P6, P7, P8, P11] e_NoText) := .of g10 F10 (okN_read_many (e0.ref X G) F10 M D9) fun _ _ _ _ _ _ us hl => match us, hl with | [_], _ => rfl
  have D11 : Df l.prog w K mg base 4 "read_weights" ["rows"] (spReadWeights [P6, P7, P8, P11]) := .of g11 F11.fn (ok_read_weights F11 ⟨tb11.code, tb11.bm, tb11.gP⟩ (show P11 ∈ [P6, P7, P8, P11] by simp) M m_all D9) fun _ _ _ _ _ _ us hl => match us, hl with | [_], _ => rfl
  have D12 : DfN l.prog w K mg base 7 "read_web" ["text"] (spReadWebX [P6, P7, P8, P11] e_NoText) := .of g12 F12 (okN_read_web (e0.ref X G) F12 M D10 D11 D6) fun _ _ _ _ _ _ us hl => match us, hl with | [_], _ => rfl
  have D13 : Df l.prog w K mg base 1 "_law_deck" ["_law_script"] (spDeck K) := .of g13 F13 (ok_l_deck F13 M) fun _ _ _ _ _ _ us hl => match us, hl with | [_], _ => rfl
  have D14 : Df l.prog w K mg base 1 "_law_draw" ["_law_deck_here", "_law_many"] spDraw := .of g14 F14 (ok_l_draw F14) fun _ _ _ _ _ _ us hl => match us, hl with | [_, _], _ => rfl
  have D15 : DfP l.prog w K mg base 1 "_law_kinds" ["_law_e"] (spKinds K mg (six e_NoText e_NoFrame e_NoTie e_NoRow e_NotFlat e_TooMany) eW) := .of g15 F15 (ok_l_kinds (C := (six e_NoText e_NoFrame e_NoTie e_NoRow e_NotFlat e_TooMany)) (W := eW) F15 M m_ValueError (e0.ref X G).gD (e1.ref X G).gD (e2.ref X G).gD (e3.ref X G).gD (e4.ref X G).gD (e5.ref X G).gD (e0.ref X G).gW) fun _ _ _ _ _ _ us hl => match us, hl with | [_], _ => rfl
  have D16 : Df l.prog w K mg base 2 "_law_word" ["_law_deck_here"] spWord := .of g16 F16 (ok_l_word F16 M D14) fun _ _ _ _ _ _ us hl => match us, hl with | [_], _ => rfl
  have D17 : Df l.prog w K mg base 2 "_law_raised" ["_law_which", "_law_text"] spRaised := .of g17 F17 (ok_l_raised F17 (e0.ref X G) (k0_0.kit X G) (k0_1.kit X G) (k0_2.kit X G) (k0_3.kit X G) (k0_4.kit X G) (k0_5.kit X G) (k0_6.kit X G) v0 (e1.ref X G) (k1_0.kit X G) (k1_1.kit X G) (k1_2.kit X G) (k1_3.kit X G) (k1_4.kit X G) (k1_5.kit X G) (k1_6.kit X G) v1 (e2.ref X G) (k2_0.kit X G) (k2_1.kit X G) (k2_2.kit X G) (k2_3.kit X G) (k2_4.kit X G) (k2_5.kit X G) (k2_6.kit X G) v2 (e3.ref X G) (k3_0.kit X G) (k3_1.kit X G) (k3_2.kit X G) (k3_3.kit X G) (k3_4.kit X G) (k3_5.kit X G) (k3_6.kit X G) v3 (e4.ref X G) (k4_0.kit X G) (k4_1.kit X G) (k4_2.kit X G) (k4_3.kit X G) (k4_4.kit X G) (k4_5.kit X G) (k4_6.kit X G) v4 (e5.ref X G) (k5_0.kit X G) (k5_1.kit X G) (k5_2.kit X G) (k5_3.kit X G) (k5_4.kit X G) (k5_5.kit X G) (k5_6.kit X G) v5 (e6.ref X G) (k6_0.kit X G) (k6_1.kit X G) (k6_2.kit X G) (k6_3.kit X G) (k6_4.kit X G) (k6_5.kit X G) (k6_6.kit X G) v6 D15) fun _ _ _ _ _ _ us hl => match us, hl with | [_, _], _ => rfl
  have D18 : Df l.prog w K mg base 8 "_law_of_text" ["_law_text"] (spOfText [P6, P7, P8, P11]) := .of g18 F18 (ok_l_of_text F18 (e0.ref X G) (k0_0.kit X G) (k0_1.kit X G) (k0_2.kit X G) (k0_3.kit X G) (k0_4.kit X G) (k0_5.kit X G) (k0_6.kit X G) v0 x0 D15 D12) fun _ _ _ _ _ _ us hl => match us, hl with | [_], _ => rfl
  exact ok_law F19 M D13 D17 D16 D18
end
end FF
open PySem PySem.W PyProof.Rows
set_option maxRecDepth 100000 in
set_option maxHeartbeats 0 in
theorem PySem.Challenge.cw_friendfoe_k06_refusals_made_holds : PySem.Challenge.rw_friendfoe_k06_refusals_made.Holds := by
  w_on; o_law; k_head; (case hw => w_witness2)
  k_fill
  refine FF.walk_tabs (l := PySem.Challenge.rw_friendfoe_k06_refusals_made) (n := 63) (k := 9) (x := "_law_script") rfl (by decide) rfl ⟨rfl, by decide, by decide⟩ (fun w h Y => PySem.W.kIn_of Y) ?F
  case F =>
    intro w mg fa h KX G hmg tabs
    refine' FF.law_at KX G hmg (fun fy => tabs "is_web" fy ?r6) (fun fy => tabs "is_weights" fy ?r7) (fun fy => tabs "writes_number" fy ?r8) (fun fy => tabs "read_weights" fy ?r11) ?a0 ?a1 ?a2 ?a3 ?a4 ?a5 ?a6 ?a7 ?a8 ?a9 ?a10 ?a11 ?a12 ?a13 ?a14 ?a15 ?a16 ?a17 ?a18 ?a19 ?z0 ?z1 ?z2 ?z3 ?z4 ?z5 ?z6 ?z7 ?z8 ?z9 ?z10 ?e0 ?k0_0 ?k0_1 ?k0_2 ?k0_3 ?k0_4 ?k0_5 ?k0_6 ?v0 ?x0 ?e1 ?k1_0 ?k1_1 ?k1_2 ?k1_3 ?k1_4 ?k1_5 ?k1_6 ?v1 ?x1 ?e2 ?k2_0 ?k2_1 ?k2_2 ?k2_3 ?k2_4 ?k2_5 ?k2_6 ?v2 ?x2 ?e3 ?k3_0 ?k3_1 ?k3_2 ?k3_3 ?k3_4 ?k3_5 ?k3_6 ?v3 ?x3 ?e4 ?k4_0 ?k4_1 ?k4_2 ?k4_3 ?k4_4 ?k4_5 ?k4_6 ?v4 ?x4 ?e5 ?k5_0 ?k5_1 ?k5_2 ?k5_3 ?k5_4 ?k5_5 ?k5_6 ?v5 ?x5 ?e6 ?k6_0 ?k6_1 ?k6_2 ?k6_3 ?k6_4 ?k6_5 ?k6_6 ?v6 ?x6 ?n0 ?n1 ?u0
    (case r6 => rfl)
    (case r7 => rfl)
    (case r8 => rfl)
    (case r11 => rfl)
    (case a0 => refine' FF.at_mk ?p1 ?p2 ?p3 ?p4; (case p1 => k_is); (case p2 => k_is); (case p3 => k_is); (case p4 => k_is))
    (case a1 => refine' FF.at_mk ?p1 ?p2 ?p3 ?p4; (case p1 => k_is); (case p2 => k_is); (case p3 => k_is); (case p4 => k_is))
    (case a2 => refine' FF.at_mk ?p1 ?p2 ?p3 ?p4; (case p1 => k_is); (case p2 => k_is); (case p3 => k_is); (case p4 => k_is))
    (case a3 => refine' FF.at_mk ?p1 ?p2 ?p3 ?p4; (case p1 => k_is); (case p2 => k_is); (case p3 => k_is); (case p4 => k_is))
    (case a4 => refine' FF.at_mk ?p1 ?p2 ?p3 ?p4; (case p1 => k_is); (case p2 => k_is); (case p3 => k_is); (case p4 => k_is))
    (case a5 => refine' FF.at_mk ?p1 ?p2 ?p3 ?p4; (case p1 => k_is); (case p2 => k_is); (case p3 => k_is); (case p4 => k_is))
    (case a6 => refine' FF.atC_mk ?p1 ?p2 ?p3 ?p4 ?p5 ?p6 ?p7 ?p8 ?p9 ?p10 ?p11 ?p12 ?p13; (case p1 => k_is); (case p2 => k_is); (case p3 => k_is); (case p4 => k_is); (case p5 => k_is); (case p6 => rfl); (case p7 => rfl); (case p8 => rfl); (case p9 => rfl); (case p10 => rfl); (case p11 => rfl); (case p12 => decide); (case p13 => rfl))
    (case a7 => refine' FF.atC_mk ?p1 ?p2 ?p3 ?p4 ?p5 ?p6 ?p7 ?p8 ?p9 ?p10 ?p11 ?p12 ?p13; (case p1 => k_is); (case p2 => k_is); (case p3 => k_is); (case p4 => k_is); (case p5 => k_is); (case p6 => rfl); (case p7 => rfl); (case p8 => rfl); (case p9 => rfl); (case p10 => rfl); (case p11 => rfl); (case p12 => decide); (case p13 => rfl))
    (case a8 => refine' FF.atC_mk ?p1 ?p2 ?p3 ?p4 ?p5 ?p6 ?p7 ?p8 ?p9 ?p10 ?p11 ?p12 ?p13; (case p1 => k_is); (case p2 => k_is); (case p3 => k_is); (case p4 => k_is); (case p5 => k_is); (case p6 => rfl); (case p7 => rfl); (case p8 => rfl); (case p9 => rfl); (case p10 => rfl); (case p11 => rfl); (case p12 => decide); (case p13 => rfl))
    (case a9 => refine' FF.at_mk ?p1 ?p2 ?p3 ?p4; (case p1 => k_is); (case p2 => k_is); (case p3 => k_is); (case p4 => k_is))
    (case a10 => refine' FF.at_mk ?p1 ?p2 ?p3 ?p4; (case p1 => k_is); (case p2 => k_is); (case p3 => k_is); (case p4 => k_is))
    (case a11 => refine' FF.atC_mk ?p1 ?p2 ?p3 ?p4 ?p5 ?p6 ?p7 ?p8 ?p9 ?p10 ?p11 ?p12 ?p13; (case p1 => k_is); (case p2 => k_is); (case p3 => k_is); (case p4 => k_is); (case p5 => k_is); (case p6 => rfl); (case p7 => rfl); (case p8 => rfl); (case p9 => rfl); (case p10 => rfl); (case p11 => rfl); (case p12 => decide); (case p13 => rfl))
    (case a12 => refine' FF.at_mk ?p1 ?p2 ?p3 ?p4; (case p1 => k_is); (case p2 => k_is); (case p3 => k_is); (case p4 => k_is))
    (case a13 => refine' FF.at_mk ?p1 ?p2 ?p3 ?p4; (case p1 => k_is); (case p2 => k_is); (case p3 => k_is); (case p4 => k_is))
    (case a14 => refine' FF.at_mk ?p1 ?p2 ?p3 ?p4; (case p1 => k_is); (case p2 => k_is); (case p3 => k_is); (case p4 => k_is))
    (case a15 => refine' FF.at_mk ?p1 ?p2 ?p3 ?p4; (case p1 => k_is); (case p2 => k_is); (case p3 => k_is); (case p4 => k_is))
    (case a16 => refine' FF.at_mk ?p1 ?p2 ?p3 ?p4; (case p1 => k_is); (case p2 => k_is); (case p3 => k_is); (case p4 => k_is))
    (case a17 => refine' FF.at_mk ?p1 ?p2 ?p3 ?p4; (case p1 => k_is); (case p2 => k_is); (case p3 => k_is); (case p4 => k_is))
    (case a18 => refine' FF.at_mk ?p1 ?p2 ?p3 ?p4; (case p1 => k_is); (case p2 => k_is); (case p3 => k_is); (case p4 => k_is))
    (case a19 => refine' FF.at_mk ?p1 ?p2 ?p3 ?p4; (case p1 => k_is); (case p2 => k_is); (case p3 => k_is); (case p4 => k_is))
    (case z0 => k_is)
    (case z1 => k_is)
    (case z2 => k_is)
    (case z3 => k_is)
    (case z4 => k_is)
    (case z5 => k_is)
    (case z6 => k_is)
    (case z7 => k_is)
    (case z8 => k_is)
    (case z9 => k_is)
    (case z10 => k_is)
    (case e0 => refine' FF.errK_mk ?q1 ?q2 ?q3 ?q4 ?q5 ?q6 ?q7 ?q8 ?q9 ?q10 ?q11 ?q12 ?q13 ?q14 ?q15 ?q16 ?q17; (case q1 => first | k_is | rfl | kernel_rfl); (case q2 => first | k_is | rfl | kernel_rfl); (case q3 => first | k_is | rfl | kernel_rfl); (case q4 => first | k_is | rfl | kernel_rfl); (case q5 => first | k_is | rfl | kernel_rfl); (case q6 => first | k_is | rfl | kernel_rfl); (case q7 => first | k_is | rfl | kernel_rfl); (case q8 => first | k_is | rfl | kernel_rfl); (case q9 => first | k_is | rfl | kernel_rfl); (case q10 => first | k_is | rfl | kernel_rfl); (case q11 => first | k_is | rfl | kernel_rfl); (case q12 => first | k_is | rfl | kernel_rfl); (case q13 => first | k_is | rfl | kernel_rfl); (case q14 => first | k_is | rfl | kernel_rfl); (case q15 => first | k_is | rfl | kernel_rfl); (case q16 => first | k_is | rfl | kernel_rfl); (case q17 => first | k_is | rfl | kernel_rfl))
    (case k0_0 => refine' FF.kitK_mk ?q1 ?q2; (case q1 => k_is); (case q2 => first | k_is | rfl | kernel_rfl))
    (case k0_1 => refine' FF.kitK_mk ?q1 ?q2; (case q1 => k_is); (case q2 => first | k_is | rfl | kernel_rfl))
    (case k0_2 => refine' FF.kitK_mk ?q1 ?q2; (case q1 => k_is); (case q2 => first | k_is | rfl | kernel_rfl))
    (case k0_3 => refine' FF.kitK_mk ?q1 ?q2; (case q1 => k_is); (case q2 => first | k_is | rfl | kernel_rfl))
    (case k0_4 => refine' FF.kitK_mk ?q1 ?q2; (case q1 => k_is); (case q2 => first | k_is | rfl | kernel_rfl))
    (case k0_5 => refine' FF.kitK_mk ?q1 ?q2; (case q1 => k_is); (case q2 => first | k_is | rfl | kernel_rfl))
    (case k0_6 => refine' FF.kitK_mk ?q1 ?q2; (case q1 => k_is); (case q2 => first | k_is | rfl | kernel_rfl))
    (case v0 => first | k_is | rfl | kernel_rfl)
    (case x0 => first | k_is | rfl | kernel_rfl)
    (case e1 => refine' FF.errK_mk ?q1 ?q2 ?q3 ?q4 ?q5 ?q6 ?q7 ?q8 ?q9 ?q10 ?q11 ?q12 ?q13 ?q14 ?q15 ?q16 ?q17; (case q1 => first | k_is | rfl | kernel_rfl); (case q2 => first | k_is | rfl | kernel_rfl); (case q3 => first | k_is | rfl | kernel_rfl); (case q4 => first | k_is | rfl | kernel_rfl); (case q5 => first | k_is | rfl | kernel_rfl); (case q6 => first | k_is | rfl | kernel_rfl); (case q7 => first | k_is | rfl | kernel_rfl); (case q8 => first | k_is | rfl | kernel_rfl); (case q9 => first | k_is | rfl | kernel_rfl); (case q10 => first | k_is | rfl | kernel_rfl); (case q11 => first | k_is | rfl | kernel_rfl); (case q12 => first | k_is | rfl | kernel_rfl); (case q13 => first | k_is | rfl | kernel_rfl); (case q14 => first | k_is | rfl | kernel_rfl); (case q15 => first | k_is | rfl | kernel_rfl); (case q16 => first | k_is | rfl | kernel_rfl); (case q17 => first | k_is | rfl | kernel_rfl))
    (case k1_0 => refine' FF.kitK_mk ?q1 ?q2; (case q1 => k_is); (case q2 => first | k_is | rfl | kernel_rfl))
    (case k1_1 => refine' FF.kitK_mk ?q1 ?q2; (case q1 => k_is); (case q2 => first | k_is | rfl | kernel_rfl))
    (case k1_2 => refine' FF.kitK_mk ?q1 ?q2; (case q1 => k_is); (case q2 => first | k_is | rfl | kernel_rfl))
    (case k1_3 => refine' FF.kitK_mk ?q1 ?q2; (case q1 => k_is); (case q2 => first | k_is | rfl | kernel_rfl))
    (case k1_4 => refine' FF.kitK_mk ?q1 ?q2; (case q1 => k_is); (case q2 => first | k_is | rfl | kernel_rfl))
    (case k1_5 => refine' FF.kitK_mk ?q1 ?q2; (case q1 => k_is); (case q2 => first | k_is | rfl | kernel_rfl))
    (case k1_6 => refine' FF.kitK_mk ?q1 ?q2; (case q1 => k_is); (case q2 => first | k_is | rfl | kernel_rfl))
    (case v1 => first | k_is | rfl | kernel_rfl)
    (case x1 => first | k_is | rfl | kernel_rfl)
    (case e2 => refine' FF.errK_mk ?q1 ?q2 ?q3 ?q4 ?q5 ?q6 ?q7 ?q8 ?q9 ?q10 ?q11 ?q12 ?q13 ?q14 ?q15 ?q16 ?q17; (case q1 => first | k_is | rfl | kernel_rfl); (case q2 => first | k_is | rfl | kernel_rfl); (case q3 => first | k_is | rfl | kernel_rfl); (case q4 => first | k_is | rfl | kernel_rfl); (case q5 => first | k_is | rfl | kernel_rfl); (case q6 => first | k_is | rfl | kernel_rfl); (case q7 => first | k_is | rfl | kernel_rfl); (case q8 => first | k_is | rfl | kernel_rfl); (case q9 => first | k_is | rfl | kernel_rfl); (case q10 => first | k_is | rfl | kernel_rfl); (case q11 => first | k_is | rfl | kernel_rfl); (case q12 => first | k_is | rfl | kernel_rfl); (case q13 => first | k_is | rfl | kernel_rfl); (case q14 => first | k_is | rfl | kernel_rfl); (case q15 => first | k_is | rfl | kernel_rfl); (case q16 => first | k_is | rfl | kernel_rfl); (case q17 => first | k_is | rfl | kernel_rfl))
    (case k2_0 => refine' FF.kitK_mk ?q1 ?q2; (case q1 => k_is); (case q2 => first | k_is | rfl | kernel_rfl))
    (case k2_1 => refine' FF.kitK_mk ?q1 ?q2; (case q1 => k_is); (case q2 => first | k_is | rfl | kernel_rfl))
    (case k2_2 => refine' FF.kitK_mk ?q1 ?q2; (case q1 => k_is); (case q2 => first | k_is | rfl | kernel_rfl))
    (case k2_3 => refine' FF.kitK_mk ?q1 ?q2; (case q1 => k_is); (case q2 => first | k_is | rfl | kernel_rfl))
    (case k2_4 => refine' FF.kitK_mk ?q1 ?q2; (case q1 => k_is); (case q2 => first | k_is | rfl | kernel_rfl))
    (case k2_5 => refine' FF.kitK_mk ?q1 ?q2; (case q1 => k_is); (case q2 => first | k_is | rfl | kernel_rfl))
    (case k2_6 => refine' FF.kitK_mk ?q1 ?q2; (case q1 => k_is); (case q2 => first | k_is | rfl | kernel_rfl))
    (case v2 => first | k_is | rfl | kernel_rfl)
    (case x2 => first | k_is | rfl | kernel_rfl)
    (case e3 => refine' FF.errK_mk ?q1 ?q2 ?q3 ?q4 ?q5 ?q6 ?q7 ?q8 ?q9 ?q10 ?q11 ?q12 ?q13 ?q14 ?q15 ?q16 ?q17; (case q1 => first | k_is | rfl | kernel_rfl); (case q2 => first | k_is | rfl | kernel_rfl); (case q3 => first | k_is | rfl | kernel_rfl); (case q4 => first | k_is | rfl | kernel_rfl); (case q5 => first | k_is | rfl | kernel_rfl); (case q6 => first | k_is | rfl | kernel_rfl); (case q7 => first | k_is | rfl | kernel_rfl); (case q8 => first | k_is | rfl | kernel_rfl); (case q9 => first | k_is | rfl | kernel_rfl); (case q10 => first | k_is | rfl | kernel_rfl); (case q11 => first | k_is | rfl | kernel_rfl); (case q12 => first | k_is | rfl | kernel_rfl); (case q13 => first | k_is | rfl | kernel_rfl); (case q14 => first | k_is | rfl | kernel_rfl); (case q15 => first | k_is | rfl | kernel_rfl); (case q16 => first | k_is | rfl | kernel_rfl); (case q17 => first | k_is | rfl | kernel_rfl))
    (case k3_0 => refine' FF.kitK_mk ?q1 ?q2; (case q1 => k_is); (case q2 => first | k_is | rfl | kernel_rfl))
    (case k3_1 => refine' FF.kitK_mk ?q1 ?q2; (case q1 => k_is); (case q2 => first | k_is | rfl | kernel_rfl))
    (case k3_2 => refine' FF.kitK_mk ?q1 ?q2; (case q1 => k_is); (case q2 => first | k_is | rfl | kernel_rfl))
    (case k3_3 => refine' FF.kitK_mk ?q1 ?q2; (case q1 => k_is); (case q2 => first | k_is | rfl | kernel_rfl))
    (case k3_4 => refine' FF.kitK_mk ?q1 ?q2; (case q1 => k_is); (case q2 => first | k_is | rfl | kernel_rfl))
    (case k3_5 => refine' FF.kitK_mk ?q1 ?q2; (case q1 => k_is); (case q2 => first | k_is | rfl | kernel_rfl))
    (case k3_6 => refine' FF.kitK_mk ?q1 ?q2; (case q1 => k_is); (case q2 => first | k_is | rfl | kernel_rfl))
    (case v3 => first | k_is | rfl | kernel_rfl)
    (case x3 => first | k_is | rfl | kernel_rfl)
    (case e4 => refine' FF.errK_mk ?q1 ?q2 ?q3 ?q4 ?q5 ?q6 ?q7 ?q8 ?q9 ?q10 ?q11 ?q12 ?q13 ?q14 ?q15 ?q16 ?q17; (case q1 => first | k_is | rfl | kernel_rfl); (case q2 => first | k_is | rfl | kernel_rfl); (case q3 => first | k_is | rfl | kernel_rfl); (case q4 => first | k_is | rfl | kernel_rfl); (case q5 => first | k_is | rfl | kernel_rfl); (case q6 => first | k_is | rfl | kernel_rfl); (case q7 => first | k_is | rfl | kernel_rfl); (case q8 => first | k_is | rfl | kernel_rfl); (case q9 => first | k_is | rfl | kernel_rfl); (case q10 => first | k_is | rfl | kernel_rfl); (case q11 => first | k_is | rfl | kernel_rfl); (case q12 => first | k_is | rfl | kernel_rfl); (case q13 => first | k_is | rfl | kernel_rfl); (case q14 => first | k_is | rfl | kernel_rfl); (case q15 => first | k_is | rfl | kernel_rfl); (case q16 => first | k_is | rfl | kernel_rfl); (case q17 => first | k_is | rfl | kernel_rfl))
    (case k4_0 => refine' FF.kitK_mk ?q1 ?q2; (case q1 => k_is); (case q2 => first | k_is | rfl | kernel_rfl))
    (case k4_1 => refine' FF.kitK_mk ?q1 ?q2; (case q1 => k_is); (case q2 => first | k_is | rfl | kernel_rfl))
    (case k4_2 => refine' FF.kitK_mk ?q1 ?q2; (case q1 => k_is); (case q2 => first | k_is | rfl | kernel_rfl))
    (case k4_3 => refine' FF.kitK_mk ?q1 ?q2; (case q1 => k_is); (case q2 => first | k_is | rfl | kernel_rfl))
    (case k4_4 => refine' FF.kitK_mk ?q1 ?q2; (case q1 => k_is); (case q2 => first | k_is | rfl | kernel_rfl))
    (case k4_5 => refine' FF.kitK_mk ?q1 ?q2; (case q1 => k_is); (case q2 => first | k_is | rfl | kernel_rfl))
    (case k4_6 => refine' FF.kitK_mk ?q1 ?q2; (case q1 => k_is); (case q2 => first | k_is | rfl | kernel_rfl))
    (case v4 => first | k_is | rfl | kernel_rfl)
    (case x4 => first | k_is | rfl | kernel_rfl)
    (case e5 => refine' FF.errK_mk ?q1 ?q2 ?q3 ?q4 ?q5 ?q6 ?q7 ?q8 ?q9 ?q10 ?q11 ?q12 ?q13 ?q14 ?q15 ?q16 ?q17; (case q1 => first | k_is | rfl | kernel_rfl); (case q2 => first | k_is | rfl | kernel_rfl); (case q3 => first | k_is | rfl | kernel_rfl); (case q4 => first | k_is | rfl | kernel_rfl); (case q5 => first | k_is | rfl | kernel_rfl); (case q6 => first | k_is | rfl | kernel_rfl); (case q7 => first | k_is | rfl | kernel_rfl); (case q8 => first | k_is | rfl | kernel_rfl); (case q9 => first | k_is | rfl | kernel_rfl); (case q10 => first | k_is | rfl | kernel_rfl); (case q11 => first | k_is | rfl | kernel_rfl); (case q12 => first | k_is | rfl | kernel_rfl); (case q13 => first | k_is | rfl | kernel_rfl); (case q14 => first | k_is | rfl | kernel_rfl); (case q15 => first | k_is | rfl | kernel_rfl); (case q16 => first | k_is | rfl | kernel_rfl); (case q17 => first | k_is | rfl | kernel_rfl))
    (case k5_0 => refine' FF.kitK_mk ?q1 ?q2; (case q1 => k_is); (case q2 => first | k_is | rfl | kernel_rfl))
    (case k5_1 => refine' FF.kitK_mk ?q1 ?q2; (case q1 => k_is); (case q2 => first | k_is | rfl | kernel_rfl))
    (case k5_2 => refine' FF.kitK_mk ?q1 ?q2; (case q1 => k_is); (case q2 => first | k_is | rfl | kernel_rfl))
    (case k5_3 => refine' FF.kitK_mk ?q1 ?q2; (case q1 => k_is); (case q2 => first | k_is | rfl | kernel_rfl))
    (case k5_4 => refine' FF.kitK_mk ?q1 ?q2; (case q1 => k_is); (case q2 => first | k_is | rfl | kernel_rfl))
    (case k5_5 => refine' FF.kitK_mk ?q1 ?q2; (case q1 => k_is); (case q2 => first | k_is | rfl | kernel_rfl))
    (case k5_6 => refine' FF.kitK_mk ?q1 ?q2; (case q1 => k_is); (case q2 => first | k_is | rfl | kernel_rfl))
    (case v5 => first | k_is | rfl | kernel_rfl)
    (case x5 => first | k_is | rfl | kernel_rfl)
    (case e6 => refine' FF.errK_mk ?q1 ?q2 ?q3 ?q4 ?q5 ?q6 ?q7 ?q8 ?q9 ?q10 ?q11 ?q12 ?q13 ?q14 ?q15 ?q16 ?q17; (case q1 => first | k_is | rfl | kernel_rfl); (case q2 => first | k_is | rfl | kernel_rfl); (case q3 => first | k_is | rfl | kernel_rfl); (case q4 => first | k_is | rfl | kernel_rfl); (case q5 => first | k_is | rfl | kernel_rfl); (case q6 => first | k_is | rfl | kernel_rfl); (case q7 => first | k_is | rfl | kernel_rfl); (case q8 => first | k_is | rfl | kernel_rfl); (case q9 => first | k_is | rfl | kernel_rfl); (case q10 => first | k_is | rfl | kernel_rfl); (case q11 => first | k_is | rfl | kernel_rfl); (case q12 => first | k_is | rfl | kernel_rfl); (case q13 => first | k_is | rfl | kernel_rfl); (case q14 => first | k_is | rfl | kernel_rfl); (case q15 => first | k_is | rfl | kernel_rfl); (case q16 => first | k_is | rfl | kernel_rfl); (case q17 => first | k_is | rfl | kernel_rfl))
    (case k6_0 => refine' FF.kitK_mk ?q1 ?q2; (case q1 => k_is); (case q2 => first | k_is | rfl | kernel_rfl))
    (case k6_1 => refine' FF.kitK_mk ?q1 ?q2; (case q1 => k_is); (case q2 => first | k_is | rfl | kernel_rfl))
    (case k6_2 => refine' FF.kitK_mk ?q1 ?q2; (case q1 => k_is); (case q2 => first | k_is | rfl | kernel_rfl))
    (case k6_3 => refine' FF.kitK_mk ?q1 ?q2; (case q1 => k_is); (case q2 => first | k_is | rfl | kernel_rfl))
    (case k6_4 => refine' FF.kitK_mk ?q1 ?q2; (case q1 => k_is); (case q2 => first | k_is | rfl | kernel_rfl))
    (case k6_5 => refine' FF.kitK_mk ?q1 ?q2; (case q1 => k_is); (case q2 => first | k_is | rfl | kernel_rfl))
    (case k6_6 => refine' FF.kitK_mk ?q1 ?q2; (case q1 => k_is); (case q2 => first | k_is | rfl | kernel_rfl))
    (case v6 => first | k_is | rfl | kernel_rfl)
    (case x6 => first | k_is | rfl | kernel_rfl)
    (case n0 => first | k_is | rfl | kernel_rfl)
    (case n1 => first | k_is | rfl | kernel_rfl)
    (case u0 => refine' FF.tupK_mk2 ?q1 ?q2; (case q1 => k_is); (case q2 => first | k_is | rfl | kernel_rfl))
