import PyProof.Rows.All
import Wide.All
import OpenK.AllK
import Wide.FinOn
import HandS.ForMost
import HandS.IsInst
import HandS.TupAny
import HandS.TupLe
import HandS.Wide
import HandS.Style
import HandS.SortInts
import HandS.Conv
import HandS.More
import HandS.EndTab
import HandS.EndOwn
import HandS.AnyAll
import HandS.GenOver
import HandS.Evl
import HandS.Walk
import HandS.NoneIn
import HandS.Zip
import HandS.DictComp
import HandS.SetFor
import KE.GoesEnum
import HandS.TupMul
import HandS.Strs
import KE.DataMinMax
import HandS.ForExc
import HandS.ExcIs
import PySem.Challenge.RW_friendfoe_k74_whole_moving_over
set_option Elab.async false
set_option linter.all false
set_option maxRecDepth 100000
namespace FF
open PySem PySem.Spec PyProof.Rows L2
/-! ### heaps: what is kept -/
/-- all that is tracked, but at d and c, is as it was -/
def Kp (d c : Addr) (H H' : Hp) : Prop := ∀ b o, b ≠ d → b ≠ c → H b = some o → H' b = some o
theorem Kp.refl {d c : Addr} {H : Hp} : Kp d c H H := fun _ _ _ _ h => h
theorem Kp.trans {d c : Addr} {H H1 H2 : Hp} (a : Kp d c H H1) (b : Kp d c H1 H2) : Kp d c H H2 := fun x o h1 h2 h => b x o h1 h2 (a x o h1 h2 h)
theorem Kp.at_d {d c : Addr} {H : Hp} {o : HO} : Kp d c H (upd H d o) := fun b u h1 _ h => by rw [upd_ne h1]; exact h
theorem Kp.at_c {d c : Addr} {H : Hp} {o : HO} : Kp d c H (upd H c o) := fun b u _ h2 h => by rw [upd_ne h2]; exact h
theorem Kp.new {d c p : Addr} {H : Hp} {o : HO} (hp : H p = none) : Kp d c H (upd H p o) := fun b u _ _ h => by rw [upd_ne (ne_of_none h hp)]; exact h
theorem same_new {H : Hp} {p : Addr} {o : HO} (h : H p = none) : Same H (upd H p o) := fun b x e => by
  rw [upd_ne (ne_of_none e h)]
  exact e
theorem Same.kp {d c : Addr} {H H' : Hp} (s : Same H H') : Kp d c H H' := fun b o _ _ h => s b o h
/-! ### defs as they are called -/
def Df (P : Program) (w : World) (K : PySem.W.Frag) (mg : Str → Option Value) (base : Heap) (k : Nat) (x : Str) (ps : List Str) (sp : Sp) : Prop :=
  ∃ (f : Addr) (fd : FuncData), FnOk P w K mg base CX0 k f fd ps sp ∧ mg x = some (.ref f) ∧ PySem.W.keepIn K (.ref f) = true ∧ Binds K fd ps []
/-- built-in names that the module has not taken -/
structure Free (mg : Str → Option Value) : Prop where
  len : mg "len" = none
  int : mg "int" = none
  bool : mg "bool" = none
  str : mg "str" = none
  list : mg "list" = none
  tuple : mg "tuple" = none
  range : mg "range" = none
  isinstance : mg "isinstance" = none
  sum : mg "sum" = none
/-! ### the well -/
structure Well (H : Hp) (d : Addr) (b : Nat) : Prop where
  ex : ∃ (g st : Int) (k : Nat), H d = some (.lst [.int g, .int st, .int k]) ∧ k ≤ b
theorem Well.same {H H' : Hp} {d : Addr} {b : Nat} (h : Well H d b) (s : Same H H') : Well H' d b := by
  obtain ⟨g, st, k, h1, h2⟩ := h
  exact ⟨g, st, k, s _ _ h1, h2⟩
theorem Well.mono {H : Hp} {d : Addr} {b b' : Nat} (h : Well H d b) (s : b ≤ b') : Well H d b' := by
  obtain ⟨g, st, k, h1, h2⟩ := h
  exact ⟨g, st, k, h1, Nat.le_trans h2 s⟩
theorem Well.mut {H : Hp} {d l : Addr} {o : HO} {b : Nat} (D : Well H d b) (h1 : l ≠ d) : Well (upd H l o) d b := by
  obtain ⟨g, st, k, e1, e2⟩ := D
  exact ⟨g, st, k, by rw [upd_ne (Ne.symm h1)]; exact e1, e2⟩
theorem Well.new {H : Hp} {d l : Addr} {o : HO} {b : Nat} (D : Well H d b) (h : H l = none) : Well (upd H l o) d b := D.same (same_new h)
theorem Well.ned {H : Hp} {d l : Addr} {b : Nat} (D : Well H d b) (h : H l = none) : l ≠ d := by
  obtain ⟨g, st, k, e1, e2⟩ := D
  exact (ne_of_none e1 h).symm
theorem mod_rng {a m : Int} (h : 0 < m) : 0 ≤ a % m ∧ a % m < m := ⟨Int.emod_nonneg a (by omega), Int.emod_lt_of_pos a h⟩
/-- a draw below m: any number from 0 on, less than m; one draw more -/
def spDraw : Sp := fun vs H Q _ => ∃ (d : Addr) (b : Nat) (m : Int), vs = [.ref d, .int m] ∧ Well H d b ∧ b < 2 ^ 60 ∧ 0 < m ∧ m.natAbs < 2 ^ 120 ∧
  ∀ v H', 0 ≤ v → v < m → Well H' d (b + 1) → Kp d d H H' → Q (.int v) H'
/-! ### a generator expression's own frame -/
/-- the context of a generator's turns: its frame cenv stands over the def's -/
abbrev gX (X : Cx) (s : Shared) (H : Hp) (A' : Around) (cenv : Env) (fp : List Addr) : Cx :=
  { X with A := A', s_0 := s, H_0 := H, env := cenv, outer := X.stack, stack := cenv :: X.stack, ex := fp, fn := fun _ => false, pn := [], xe := fun _ _ => False }
/-- what is asked of the expression's own scope -/
structure GnOk (scope : Scope) : Prop where
  co : scope.isCoroutine = false
  nocell : ∀ y ∈ scope.names, y.2 ≠ .cell
  dot : scope.names.lookup (".0" : Str) = some NameKind.local
section
variable {X : Cx} {pins : List (Addr × Obj)} {σ : L2.St} {H : Hp} {s : Shared}
theorem gen_start {scope : Scope} {own : List (Str × Nat)} {fp : List Addr} {A' : Around} {code : Value} {m0 : Str → Option Value} {h5 : Heap} {g5 : Array GenState} {t5 : Nat} {a : Addr} {go : Obj}
    (I : Inv X pins σ H s) (ok : BlkOk X.N X.env.scope scope own) (gk : GnOk scope) (hN : X.N.Nodup) (hfp : ∀ b ∈ fp, FpOk X pins H b ∧ b < s.heap.objs.size)
    (hA : A'.handled = none) (hF : A'.frames = some (genEnv scope (cloFrom X.env.cells scope.names []) s.heap.objs.size code builtinsNs X.env :: X.stack))
    (kp : ∀ b o, s.heap.get? b = some o → h5.get? b = some o) (hn : h5.Ns s.heap.objs.size m0) (hm0 : ∀ x, x ≠ (".0" : Str) → m0 x = none) (hdN : (".0" : Str) ∉ X.N) (hb5 : AllBare g5)
    (ha : s.heap.objs.size < a) (hgo : h5.get? a = some go) (hgd : ∀ v, go.data ≠ .cell v) :
    Inv (gX X s H A' (genEnv scope (cloFrom X.env.cells scope.names []) s.heap.objs.size code builtinsNs X.env) fp) [(a, go)] (wipe σ (own.map (·.2))) H { s with heap := h5, gens := g5, toks := t5 } := by
  have hfree : ∀ y ∈ scope.names, y.2 = .free → ∃ c, X.env.cells.lookup y.1 = some c := fun y hy e =>
    (ok.free y hy e).elim (fun k => I.ok.has _ (.inl k)) fun k => I.ok.has _ (.inr k)
  have cm : ∀ {y c}, (y, c) ∈ cloFrom X.env.cells scope.names [] → X.env.cells.lookup y = some c ∧ c < s.heap.objs.size := fun {y c} q => by
    rcases cloFrom_mem q with q | ⟨h1, e1⟩
    · cases q
    · obtain ⟨c1, hc1⟩ := hfree _ h1 rfl
      rw [hc1] at e1
      cases e1
      obtain ⟨w1, z1⟩ := I.cell _ _ hc1
      exact ⟨hc1, z1.lt⟩
  have cl : ∀ {y c}, (cloFrom X.env.cells scope.names []).lookup y = some c → X.env.cells.lookup y = some c ∧ c < s.heap.objs.size := fun {y c} e => cm (PySem.mem_of_lookup e)
  have look : ∀ {y}, scope.names.lookup y = some .free → ∃ c, (cloFrom X.env.cells scope.names []).lookup y = some c := fun {y} e =>
    mem_lookup (cloFrom_has (cells := X.env.cells) (acc := []) (PySem.mem_of_lookup e))
  generalize hce : genEnv scope (cloFrom X.env.cells scope.names []) s.heap.objs.size code builtinsNs X.env = ce at hF
  have cL : ce.locals = s.heap.objs.size := by rw [← hce]; rfl
  have cC : ce.cells = cloFrom X.env.cells scope.names [] := by rw [← hce]; rfl
  have cS : ce.scope = scope := by rw [← hce]; rfl
  have cF : ce.frame = some ce.locals := by rw [← hce]; rfl
  have okG : (gX X s H A' ce fp).Ok := by
    refine ⟨I.ok.mod, ?_, ?_, ?_, ?_, fun y z c e1 e2 => ?_, fun y hy => ?_, fun y c z e => ?_, fun _ => hA, hF, .inr ⟨rfl, cF⟩, fun b hb => ⟨?_, fun y c e z => ?_⟩, I.bs, Nat.le_trans I.ok.bsz I.sz, fun b o e hb => ?_, fun b hb z => ?_, I.stack, I.stkFree⟩
    · show ce.scope.kind = _
      rw [cS]
      exact ok.kind
    · show ce.globals = _
      rw [← hce]
      exact I.ok.glob
    · show ce.builtins = _
      rw [← hce]
      rfl
    · show s.heap.objs.size ≤ ce.locals
      rw [cL]
      exact Nat.le_refl _
    · have e1 : ce.cells.lookup y = some c := e1
      have e2 : ce.cells.lookup z = some c := e2
      rw [cC] at e1 e2
      exact I.ok.inj y z c (cl e1).1 (cl e2).1
    · show ∃ c, ce.cells.lookup y = some c
      rw [cC]
      have hy : scope.names.lookup y = some .cell ∨ scope.names.lookup y = some .free := by
        have hy' : ce.scope.names.lookup y = some .cell ∨ ce.scope.names.lookup y = some .free := hy
        rw [cS] at hy'
        exact hy'
      rcases hy with k | k
      · exact absurd rfl (gk.nocell _ (PySem.mem_of_lookup k))
      · exact look k
    · exact absurd (show false = true from z) Bool.false_ne_true
    · show b ≠ ce.locals
      rw [cL]
      exact Nat.ne_of_lt (hfp b hb).2
    · have e : ce.cells.lookup y = some c := e
      rw [cC] at e
      exact (hfp b hb).1.2.2.2.2.1 y c (cl e).1 z
    · rcases (hfp b hb).1.2.2.2.1 with q | q
      · exact I.ok.noex b o e q
      · exact absurd (Nat.lt_of_lt_of_le (Heap.lt_size e) (Nat.le_trans I.ok.bsz q)) (Nat.lt_irrefl _)
    · rcases List.mem_cons.mp (I.stkSub b z) with q | q
      · exact (hfp b hb).1.2.1 q
      · exact (hfp b hb).1.2.2.1 q
  refine ⟨okG, rfl, hb5, Un.kept kp, ⟨m0, ?_, fun i y av e1 e2 e3 => ?_⟩, fun y c e => ?_, ?_, fun y c e => ?_, fun p hp => ?_, I.hok.kept kp, by rw [wipe_length]; exact I.len⟩
  · show Heap.Ns _ ce.locals _
    rw [cL]
    exact hn
  · obtain ⟨e2, hne⟩ := wipe_some e2
    have e3 : Vis ce.scope y := e3
    rw [cS] at e3
    have hfr : scope.names.lookup y = some .free := by
      have no : ∀ k, scope.names.lookup y = some k → ¬ (k = .local ∨ k = .cell) := fun k hk hh => by
        rcases ok.own _ (PySem.mem_of_lookup hk) hh with q | q
        · obtain ⟨p, hp, hpy⟩ := List.mem_map.mp q
          have e4 := ok.ix p hp
          have hpy : p.1 = y := hpy
          rw [hpy] at e4
          exact hne (List.mem_map.mpr ⟨p, hp, nodup_ix hN e4 e1⟩)
        · exact q (List.mem_of_getElem? e1)
      rcases e3 with e3 | e3 | e3
      · exact absurd (.inl rfl) (no _ e3)
      · exact absurd (.inr rfl) (no _ e3)
      · exact e3
    obtain ⟨m, _, hl⟩ := I.loc
    have hvis : Vis X.env.scope y := (ok.free _ (PySem.mem_of_lookup hfr) rfl).elim (fun k => .inr (.inl k)) fun k => .inr (.inr k)
    obtain ⟨w1, r1, q1⟩ := hl i y av e1 e2 hvis
    obtain ⟨c, hc⟩ := look hfr
    refine ⟨w1, r1, .inr ⟨.inr (by show ce.scope.names.lookup y = _; rw [cS]; exact hfr), c, by show ce.cells.lookup y = _; rw [cC]; exact hc, ?_⟩⟩
    rcases q1 with ⟨k, _⟩ | ⟨_, c', e', z⟩
    · have k : X.env.scope.names.lookup y = some .local := k
      rcases ok.free _ (PySem.mem_of_lookup hfr) rfl with k' | k' <;> (have k' : X.env.scope.names.lookup y = _ := k'; rw [k'] at k; cases k)
    · rw [(cl hc).1] at e'
      cases e'
      exact z.keeps kp
  · have e : ce.cells.lookup y = some c := e
    rw [cC] at e
    obtain ⟨w1, z1⟩ := I.cell y c (cl e).1
    exact ⟨w1, z1.keeps kp⟩
  · show H ce.locals = none
    rw [cL]
    exact I.hok.fresh (Nat.le_refl _)
  · have e : ce.cells.lookup y = some c := e
    rw [cC] at e
    exact I.freeC y c (cl e).1
  · have hp : p = (a, go) := by simpa using hp
    subst hp
    refine ⟨hgo, I.hok.fresh (Nat.le_of_lt ha), ?_, fun z => ?_, hgd⟩
    · show a ≠ ce.locals
      rw [cL]
      exact Nat.ne_of_gt ha
    · have z : a ∈ frs X.stack := z
      obtain ⟨_, o, ho, _⟩ := I.stack.mem z
      exact absurd (Nat.lt_trans (Heap.lt_size ho) ha) (Nat.lt_irrefl _)
end
/-! ### all(..), any(..) of a generator, told by what each turn does -/
/-- between a yield and the next turn -/
structure Rs (s s' : Shared) : Prop where
  heap : s'.heap = s.heap
  os : s'.os = s.os
  bare : AllBare s'.gens
  size : s.gens.size ≤ s'.gens.size
theorem inv_gens {X : Cx} {pins : List (Addr × Obj)} {σ : L2.St} {H : Hp} {s s' : Shared} (I : Inv X pins σ H s) (h1 : s'.heap = s.heap) (h2 : s'.os = s.os) (h3 : AllBare s'.gens) : Inv X pins σ H s' := by
  obtain ⟨hh, g, d, t, o⟩ := s'
  have e1 : hh = s.heap := h1
  have e2 : o = s.os := h2
  subst e1 e2
  exact ⟨I.ok, I.os, h3, I.base, I.loc, I.cell, I.free, I.freeC, I.pin, I.hok, I.len⟩
theorem Rs.inv {X : Cx} {pins : List (Addr × Obj)} {σ : L2.St} {H : Hp} {s s' : Shared} (r : Rs s s') (I : Inv X pins σ H s) : Inv X pins σ H s' := by
  obtain ⟨h1, h2, h3, _⟩ := r
  obtain ⟨hh, g, d, t, o⟩ := s'
  have e1 : hh = s.heap := h1
  have e2 : o = s.os := h2
  subst e1 e2
  exact ⟨I.ok, I.os, h3, I.base, I.loc, I.cell, I.free, I.freeC, I.pin, I.hok, I.len⟩
theorem bare_set {gens : Array GenState} (h : AllBare gens) {g : Nat} {x : GenState} (hx : x.bare = true) : AllBare (gens.setIfInBounds g x) := fun y hy => by
  obtain ⟨i, hi, rfl⟩ := Array.mem_iff_getElem.mp hy
  rw [Array.size_setIfInBounds] at hi
  rw [Array.getElem_setIfInBounds hi]
  split
  · exact hx
  · exact h _ (Array.getElem_mem hi)
theorem Rs.set {s : Shared} (hb : AllBare s.gens) {g : Nat} {x : GenState} (hx : x.bare = true) : Rs s (s.setGen g x) :=
  ⟨rfl, rfl, bare_set hb hx, Nat.le_of_eq (GenW.setGen_size s g x).symm⟩
theorem Rs.trans {s s1 s2 : Shared} (a : Rs s s1) (b : Rs s1 s2) : Rs s s2 := ⟨b.heap.trans a.heap, b.os.trans a.os, b.bare, Nat.le_trans a.size b.size⟩
/-- the protocol of a generator whose items are truths: T b: what holds where b comes out -/
def gY (gi : Nat) (a : Addr) (stop : Bool) (Fin : Shared → Prop) : Protocol := fun n s₀ v s kap =>
  ∃ b, v = .bool b ∧ s.heap.IsGen a gi ∧ s.heap.NoLimit ∧ AllBare s.gens ∧ gi < s.gens.size ∧ (b = stop → Fin s) ∧ (b ≠ stop → ∀ s', Rs s s' → kap (.send .none) s')
def gR (End : Shared → Prop) : Nat → Shared → Shared → Prop := fun _ _ s => AllBare s.gens ∧ End s
/-- the generator waits -/
def Waits (prog : Program) (w : World) (A : Around) (gi : Nat) (a : Addr) (stop : Bool) (End Fin : Shared → Prop) (n : Nat) (s : Shared) : Prop :=
  s.heap.IsGen a gi ∧ s.heap.NoLimit ∧ AllBare s.gens ∧ ∃ gs, s.gens[gi]? = some gs ∧
    ∀ s', Rs s s' → gs.Goes (model prog w) A.in1 (fun n s₀ r s₁ => r = .ok .next ∧ gR End n s₀ s₁) (gY gi a stop Fin) n (.send .none) s'
section
variable {prog : Program} {w : World} {A : Around} {gi : Nat} {a : Addr} {stop : Bool} {End Fin : Shared → Prop}
theorem waits_next {n : Nat} {s : Shared} {Q : Option Value → Shared → Prop} {E : Value → Shared → Prop} (hh : A.handled = none) (hroom : A.depth < recursionLimit)
    (hE : ∀ s s' : Shared, End s → s'.os = s.os → AllBare s'.gens → (∀ b o, s.heap.get? b = some o → s'.heap.get? b = some o) → End s')
    (hF : ∀ s s' : Shared, Fin s → s'.os = s.os → AllBare s'.gens → (∀ b o, s.heap.get? b = some o → s'.heap.get? b = some o) → Fin s')
    (W : Waits prog w A gi a stop End Fin n s) (hN : ∀ s', End s' → Q none s') (hS : ∀ s', Fin s' → Q (some (.bool stop)) s')
    (hG : ∀ s' m, m < n → Waits prog w A gi a stop End Fin m s' → Q (some (.bool (!stop))) s') : wpAny (model prog w) A (pyNext (.ref a)) Q E s := by
  obtain ⟨hg, hl, hb, gs, hgs, hgo⟩ := W
  refine wpAny_pyNext_genexpQ (P := gR End) (Y := gY gi a stop Fin) hh hl hroom hg hgs (hgo _ (Rs.set hb rfl)) (fun v s₁ gs' hb' hv => ?_) fun s₁ hp h' hk => ?_
  · obtain ⟨b, rfl, g1, l1, b1, z1, f1, k1⟩ := hv
    by_cases e : b = stop
    · subst e
      exact hS _ (hF _ _ (f1 rfl) rfl (bare_set b1 hb') fun _ _ q => q)
    · have eb : b = !stop := by cases b <;> cases stop <;> first | rfl | exact absurd rfl e
      subst eb
      cases n with
      | zero => exact False.elim (k1 e s₁ ⟨rfl, rfl, b1, Nat.le_refl _⟩)
      | succ m =>
        refine hG _ m (Nat.lt_succ_self m) ⟨g1, l1, bare_set b1 hb', gs', ?_, fun s' r => k1 e s' ((Rs.set b1 hb').trans r)⟩
        show (s₁.gens.setIfInBounds gi gs')[gi]? = some gs'
        rw [Array.getElem?_setIfInBounds_self_of_lt z1]
  · obtain ⟨b1, e1⟩ := hp
    exact hN _ (hE _ _ e1 rfl (bare_set b1 rfl) fun b o q => hk b o q)
end
section
variable {prog : Program} {w : World} {A : Around} {gi : Nat} {a : Addr} {End Fin : Shared → Prop}
theorem all_loop (hh : A.handled = none) (hroom : A.depth < recursionLimit)
    (hE : ∀ s s' : Shared, End s → s'.os = s.os → AllBare s'.gens → (∀ b o, s.heap.get? b = some o → s'.heap.get? b = some o) → End s')
    (hF : ∀ s s' : Shared, Fin s → s'.os = s.os → AllBare s'.gens → (∀ b o, s.heap.get? b = some o → s'.heap.get? b = some o) → Fin s') :
    ∀ (n : Nat) (s : Shared), Waits prog w A.in1 gi a false End Fin n s →
      codeAny (model prog w) A (.builtin "all.loop" ⟨[.ref a], []⟩) (fun r s' => (r = .ok (.ret (.bool true)) ∧ End s') ∨ (r = .ok (.ret (.bool false)) ∧ Fin s')) s := by
  intro n
  induction n using Nat.strongRecOn with
  | ind n ih =>
    intro s W
    refine codeAny_builtin PySem.F.entry_all_loop ?_
    rw [Around.under_plainId PySem.F.plain_all_loop]
    show wpAny (model prog w) A.in1 (pyNext (.ref a) >>= _) _ _ s
    refine wpAny_bind (waits_next (A := A.in1) hh hroom hE hF W (fun s' e => ?_) (fun s' e => ?_) fun s' m hm W' => ?_)
    · exact wpAny_bind (wpAny_rule (wpAny_pure (.inl ⟨rfl, e⟩)))
    · refine wpAny_bind (wpAny_holding (wpAny_truthy_bool ?_))
      refine wpAny_bind (wpAny_letGo ?_)
      exact wpAny_bind (wpAny_rule (wpAny_pure (.inr ⟨rfl, e⟩)))
    · refine wpAny_bind (wpAny_holding (wpAny_truthy_bool ?_))
      refine wpAny_bind (wpAny_letGo ?_)
      exact wpAny_pure ⟨plainId_quiet PySem.F.plain_all_loop _, ih m hm s' W'⟩
end
/-! ### all(elt for target in iter) -/
/-- the reading: W by the turn and a measure; P: the def's table, which may grow -/
def tAll (P : Addr) (wi : TI) (g : TG) (te : TE) (vs : List Nat) : TE := fun σ H Q => wi σ H fun J H1 => GxR.TabG H1 P ∧ ∃ W : Nat → Nat → Hp → Prop, (∀ H2, GxR.Tabbed P H1 H2 → ∃ m, W 0 m H2) ∧ ∀ i m H, W i m H →
  (J.stop i H ∧ Q (.bl true) H) ∨ (J.go i H ∧ ∃ Nx : Hp → Prop, (∀ H', Nx H' → ∃ m', m' < m ∧ W (i + 1) m' H') ∧ ∀ x H', J.yld i H x H' → g x (wipe σ vs) H' fun σ2 H2 => wipe σ2 vs = wipe σ vs ∧
    te σ2 H2 fun y H3 => ∃ b, y = .bl b ∧ if b = true then Nx H3 else Q (.bl false) H3)
section
variable {X : Cx}
theorem pe_all {k : Nat} {c P : Addr} {elt tg iter : Expr} {scope : Scope} {own : List (Str × Nat)} {p pos gpos : Pos} {wi : TI} {g : TG} {te : TE}
    (hr : Room (k + 1) X.A) (TB : GxR.TabB X.base X.mg c P) (hcode : X.env.code = .ref c) (hc : X.calm = true) (hN : X.N.Nodup) (hG : Gl X "all") (hM : X.mg "all" = none) (hi : PI X tg iter wi) (ok : BlkOk X.N X.env.scope scope own) (gk : GnOk scope) (hdN : (".0" : Str) ∉ X.N)
    (hg : ∀ (s : Shared) (H : Hp) (A' : Around) (C : Addr) (cl : List (Str × Addr)) (code : Value) (fp : List Addr), PG (gX X s H A' (genEnv scope cl C code builtinsNs X.env) fp) tg g)
    (he : ∀ (s : Shared) (H : Hp) (A' : Around) (C : Addr) (cl : List (Str × Addr)) (code : Value) (fp : List Addr), Room k A' → PE (gX X s H A' (genEnv scope cl C code builtinsNs X.env) fp) elt te)
    (hs : ∀ v, genFold iter X.env v = pure v := by intro _; rfl)
    (hst : starEach [.GeneratorExp elt [⟨tg, iter, [], 0⟩] scope gpos] X.env = (false, eval (.GeneratorExp elt [⟨tg, iter, [], 0⟩] scope gpos) X.env) :: starEach [] X.env := by rfl) :
    PE X (.Call (.Name "all" p) [.GeneratorExp elt [⟨tg, iter, [], 0⟩] scope gpos] [] pos) (tAll P wi g te (own.map (·.2))) := by
  refine ⟨fun pins s σ H Q I h => ?_⟩
  have hh : X.A.handled = none := hr.hd
  refine wpAny_Call_Name_kw (ld_blt I hG hM PyProof.Rows.boot_all ?_)
  refine PyProof.Rows.callWith_builtin1 ?_ hst (by rfl)
  rw [hst]
  show wpAny _ _ (spliced ((false, eval (.GeneratorExp elt [⟨tg, iter, [], 0⟩] scope gpos) X.env) :: backTo pos (starEach [] X.env))) _ _ s
  have hfree : ∀ y ∈ scope.names, y.2 = .free → ∃ c, X.env.cells.lookup y.1 = some c := fun y hy e =>
    (ok.free y hy e).elim (fun k => I.ok.has _ (.inl k)) fun k => I.ok.has _ (.inr k)
  refine Calls.spliced_cons (wpAny_GeneratorExp_make gk.co (closure_ok hfree) gk.nocell gk.dot ok.kind (by have := hr.dp; omega) (thn (hi.run pins s σ H _ I h) fun xv s1 hx => thn hx fun itv s2 h2 => ?_) hs)
  obtain ⟨it, fp, tn, J, H2, e, I2, T, st2, f2, ⟨ps, hP, ht⟩, W, w0, turn⟩ := h2
  subst e
  refine ⟨I2.nolimit, ?_⟩
  have hPs : s2.heap.get? P = some { cls := .none, data := .fields ps } := I2.hok P _ hP
  have cd : PySem.W.CodeHd s2.heap c P := TB.code.keeps fun b u e => I2.bk b u e
  have sz2 : ∀ b ∈ fp, b < s2.heap.objs.size := fun b hb => by
    obtain ⟨o, e, _⟩ := T.obj _ _ st2 b hb
    exact Heap.lt_size e
  have nfP : ∀ b ∈ fp, b ≠ P := fun b hb z => by
    have q := (f2 b hb).1
    rw [z, hP] at q
    cases q
  -- behind the table
  have cont : ∀ (code : Value) (h3 : Heap) (tk : Nat) (more : Array Value), s2.heap.objs.size ≤ h3.objs.size → (∀ b o, b ≠ P → s2.heap.get? b = some o → h3.get? b = some o) → h3.get? P = some { cls := .none, data := .fields (ps ++ more) } → TriplesOk (ps ++ more).toList →
      wpAny (model X.prog X.w) X.A (builtinsFor X.env.globals X.env.builtins) (fun bi s4 => ∀ h', h'.Ns s4.heap.objs.size (fun y => if y = ".0" then some (.ref it) else none) → Heap.SameBut s4.heap.objs.size (s4.heap.push { cls := .type "frame", data := .dict #[] }) h' →
        wpAny (model X.prog X.w) X.A (spliced (backTo pos (starEach [] X.env))) (fun vs s5 => wpAny (model X.prog X.w) X.A (call (.builtin "all") (.ref h'.objs.size :: vs)) (EP X pins σ Q) X.xe s5) X.xe { s4 with
            gens := s4.gens.push (.fresh (.compStart (.GeneratorExp elt [⟨tg, iter, [], 0⟩] scope gpos) 0 (.ref it) .none (genEnv scope (cloFrom X.env.cells scope.names []) s4.heap.objs.size code bi X.env))), toks := s4.toks + 1 + 1 + 1,
            heap := h'.push { cls := .type "generator", data := .fields #[.int s4.gens.size 0, .str "<genexpr>" (s4.toks + 1), .str (X.env.qual ++ "<genexpr>") (s4.toks + 1 + 1)] } }) X.xe { s2 with heap := h3, toks := tk } := by
    intro code h3 tk more hle3 hk3 hP3 ht3
    have I3 : Inv X pins σ (upd H2 P (.tbl (ps ++ more))) { s2 with heap := h3, gens := s2.gens, drawn := s2.drawn, toks := tk } := GxR.inv_tab I2 hP hk3 hP3 I2.bare
    have tab3 : GxR.Tabbed P H2 (upd H2 P (.tbl (ps ++ more))) := ⟨⟨_, upd_same, ht3⟩, fun b hb => upd_ne hb⟩
    have st3 : tn 0 h3 := T.keep _ _ _ st2 fun b hb o e => hk3 b o (nfP b hb) e
    have f3 : ∀ b ∈ fp, FpOk X pins (upd H2 P (.tbl (ps ++ more))) b := fun b hb => ⟨by rw [upd_ne (nfP b hb)]; exact (f2 b hb).1, (f2 b hb).2⟩
    generalize upd H2 P (.tbl (ps ++ more)) = H3 at I3 tab3 f3
    obtain ⟨m0, hw0⟩ := w0 H3 tab3
    have sz3 : ∀ b ∈ fp, b < h3.objs.size := fun b hb => Nat.lt_of_lt_of_le (sz2 b hb) hle3
    have hs3 : ({ s2 with heap := h3, gens := s2.gens, drawn := s2.drawn, toks := tk } : Shared) = { s2 with heap := h3, toks := tk } := rfl
    rw [hs3] at I3
    generalize hsh : ({ s2 with heap := h3, toks := tk } : Shared) = s3 at I3 ⊢
    have eh : h3 = s3.heap := by rw [← hsh]
    rw [eh] at st3 sz3
    clear hsh hs3 eh hP3 hk3 hle3
    obtain ⟨bm, ob, e1, e2, e3, e4, e5, e6, e7, e8⟩ := TB.bm
    refine wpAny_builtinsFor (m := X.mg) (by rw [I3.ok.glob]; exact I3.mod.glob.keeps I3.bk) e1 e2 (I3.bk _ _ e5) e6 e7 e8 ?_
    intro h' hn' hs'
    refine Calls.spliced_nil ?_
    have hsz : h'.objs.size = s3.heap.objs.size + 1 := by rw [hs'.1, Heap.size_push]
    generalize hgo : ({ cls := .type "generator", data := .fields #[.int s3.gens.size 0, .str "<genexpr>" (s3.toks + 1), .str (X.env.qual ++ "<genexpr>") (s3.toks + 1 + 1)] } : Obj) = go
    have kp5 : ∀ b o, s3.heap.get? b = some o → (h'.push go).get? b = some o := fun b o e => Heap.get?_push_of_some _ (hs'.extBut b o (Nat.ne_of_lt (Heap.lt_size e)) (Heap.get?_push_of_some _ e))
    generalize hce : genEnv scope (cloFrom X.env.cells scope.names []) s3.heap.objs.size code builtinsNs X.env = ce
    have hhA : (X.A.in1.in1.over (.compLoop (.GeneratorExp elt [⟨tg, iter, [], 0⟩] scope gpos) 0 (.ref it) .none ce) []).handled = none := hh
    have hFr : (X.A.in1.in1.over (.compLoop (.GeneratorExp elt [⟨tg, iter, [], 0⟩] scope gpos) 0 (.ref it) .none ce) []).frames = some (ce :: X.stack) := by
      show pushEnvs [ce] (pushEnvs [] X.A.frames) = _
      rw [I3.ok.frames]
      rfl
    have hRm : Room k (X.A.in1.in1.over (.compLoop (.GeneratorExp elt [⟨tg, iter, [], 0⟩] scope gpos) 0 (.ref it) .none ce) []) := by
      have z1 := hr.dp
      have z2 := hr.un
      refine ⟨hhA, ?_, ?_⟩
      · show X.A.depth + 0 + 1 + 3 * k + 5 < recursionLimit
        omega
      · show X.A.units + 1 + 1 + 0 + 3 + 16 * k + 200 < cLine
        omega
    generalize hAg : X.A.in1.in1.over (.compLoop (.GeneratorExp elt [⟨tg, iter, [], 0⟩] scope gpos) 0 (.ref it) .none ce) [] = Ag at hhA hFr hRm
    have I5 : Inv (gX X s3 H3 Ag ce fp) [(h'.objs.size, go)] (wipe σ (own.map (·.2))) H3 { s3 with heap := h'.push go, gens := s3.gens.push (.fresh (.compStart (.GeneratorExp elt [⟨tg, iter, [], 0⟩] scope gpos) 0 (.ref it) .none ce)), toks := s3.toks + 1 + 1 + 1 } := by
      have q := gen_start (code := code) (A' := Ag) (h5 := h'.push go) (g5 := s3.gens.push (.fresh (.compStart (.GeneratorExp elt [⟨tg, iter, [], 0⟩] scope gpos) 0 (.ref it) .none ce))) (t5 := s3.toks + 1 + 1 + 1) (go := go) I3 ok gk hN (fun b hb => ⟨f3 b hb, sz3 b hb⟩) hhA (by rw [hce]; exact hFr) kp5 (hn'.push _)
        (fun x hx => if_neg hx) hdN (I3.bare.push rfl) (a := h'.objs.size) (by omega) (Heap.get?_push_size _ (by rw [← hgo]; rfl)) (by rw [← hgo]; intro v z; cases z)
      rw [hce] at q
      exact q
    have st5 : tn 0 (h'.push go) := T.keep _ _ _ st3 fun b _ o e => kp5 b o e
    have nfp : ∀ b ∈ fp, H3 b = none := fun b hb => (f3 b hb).1
    have pg := hg s3 H3 Ag s3.heap.objs.size (cloFrom X.env.cells scope.names []) code fp
    have pe := he s3 H3 Ag s3.heap.objs.size (cloFrom X.env.cells scope.names []) code fp hRm
    rw [hce] at pg pe
    have cCo : ce.scope.isCoroutine = false := by rw [← hce]; exact gk.co
    clear hn' hs' kp5 w0 hce
    -- back in the def's context
    have back : ∀ {σ' : L2.St} {H' : Hp} {s' : Shared} {pl : List (Addr × Obj)}, Inv (gX X s3 H3 Ag ce fp) pl σ' H' s' → Inv X pins σ H' s' := fun {σ' H' s' pl} J => I3.call' (ch := fp) J.os J.base J.hok J.bare fun b hb =>
      ⟨(f3 b hb).2.2.2.1, (f3 b hb).2.1, (f3 b hb).2.2.2.2.1, (f3 b hb).2.2.2.2.2⟩
    have stat : ∀ {σ' : L2.St} {H' : Hp} {s' : Shared}, Inv (gX X s3 H3 Ag ce fp) [(h'.objs.size, go)] σ' H' s' → (∀ b ∈ fp, H' b = none) → ∀ b ∈ fp, FpOk (gX X s3 H3 Ag ce fp) [(h'.objs.size, go)] H' b := fun {σ' H' s'} J hn b hb =>
      ⟨hn b hb, (J.ok.exf b hb).1, J.ok.exfs b hb, .inl hb, fun x c e => (J.ok.exf b hb).2 x c e, fun p hp => by
        have hp : p = (h'.objs.size, go) := by simpa using hp
        rw [hp]
        exact Nat.ne_of_gt (Nat.lt_trans (sz3 b hb) (by rw [hsz]; exact Nat.lt_succ_self _))⟩
    have gen : ∀ {σ' : L2.St} {H' : Hp} {s' : Shared} {pl : List (Addr × Obj)}, Inv (gX X s3 H3 Ag ce fp) ([(h'.objs.size, go)] ++ pl) σ' H' s' → s'.heap.IsGen h'.objs.size s3.gens.size := fun {σ' H' s' pl} J => by
      have q := (J.pin (h'.objs.size, go) (by simp)).1
      exact ⟨go, _, _, q, by rw [← hgo], by rw [← hgo], by rw [← hgo]⟩
    -- the turns
    have loop : ∀ (m n i : Nat) (s₀ s : Shared) (H : Hp), m < n → W i m H → Inv (gX X s3 H3 Ag ce fp) [(h'.objs.size, go)] (wipe σ (own.map (·.2))) H s → tn i s.heap → (∀ b ∈ fp, H b = none) → s3.gens.size + 1 ≤ s.gens.size →
        Seg (model X.prog X.w) X.A.in1.in1 (fun n s₀ r s₁ => r = .ok .next ∧ gR (fun s => ∃ H', Inv X pins σ H' s ∧ Q (.bl true) H') n s₀ s₁) (gY s3.gens.size h'.objs.size false fun s => ∃ H', Inv X pins σ H' s ∧ Q (.bl false) H') n s₀
          (.compLoop (.GeneratorExp elt [⟨tg, iter, [], 0⟩] scope gpos) 0 (.ref it) .none ce) ((model X.prog X.w).den (.compLoop (.GeneratorExp elt [⟨tg, iter, [], 0⟩] scope gpos) 0 (.ref it) .none ce)) [] s := by
      intro m
      induction m using Nat.strongRecOn with
      | ind m ih =>
        intro n i s₀ s H hmn w J st nf hz
        show Seg (model X.prog X.w) _ _ _ n s₀ _ ((compTurn (.GeneratorExp elt [⟨tg, iter, [], 0⟩] scope gpos) 0 (.ref it) .none ce).onRaise (leaving ce)) [] s
        rw [compTurn_gen]
        rw [Sem.onRaise_eq_wrap]
        refine seg_bind_wrap (wpAny_standAt (seg_bind_wrap ?_))
        rw [hAg]
        rcases turn i m H w with ⟨stp, qq⟩ | ⟨go', Nx, hNx, step⟩
        · refine thnF (T.done (gX X s3 H3 Ag ce fp) rfl rfl rfl hc i _ s _ H (fun _ _ => False) J (stat J nf) st stp) fun r s6 ⟨hr6, J6⟩ => ?_
          subst hr6
          exact seg_end (.ok .next) ⟨rfl, J6.bare, H, back J6, qq⟩
        · refine GenW.wpAny_gsz hz (thnF (T.item (gX X s3 H3 Ag ce fp) rfl rfl rfl hc i _ s _ H (fun _ _ => False) J (stat J nf) st go') fun r s6 ⟨u, hr6, h6⟩ hz6 => ?_)
          subst hr6
          refine seg_bind_wrap ?_
          rw [hAg]
          refine GenW.wpAny_gsz hz6 (thnF h6 fun _ s7 ⟨x, H7, J7, r7, y7, st7, n7⟩ hz7 => ?_)
          have J7' := J7.pinned (stat J7 n7) (T.obj _ _ st7)
          refine seg_bind_wrap ?_
          rw [hAg]
          refine GenW.wpAny_gsz hz7 (thnF (pg.run _ s7 _ H7 x u _ J7' r7 (step x H7 y7)) fun _ s8 ⟨σ8, H8, J8, hw8, q8⟩ hz8 => ?_)
          simp only [List.forIn_nil]
          refine seg_bind_wrap (wpAny_pure ?_)
          simp only [if_true]
          have hy : ∀ v, yieldOut ce v = yieldValue v := fun v => by simp only [yieldOut, cCo, Bool.false_eq_true, if_false]
          simp only [hy]
          rw [Sem.bind_eq_wrap', Sem.bind_eq_wrap']
          rw [Sem.wrap_wrap, Sem.wrap_wrap]
          refine seg_wrap ?_
          rw [hAg]
          refine GenW.wpAny_gsz hz8 (thnF (pe.run _ s8 σ8 H8 _ J8 q8) fun z s9 ⟨yv, H9, J9, r9, b, eb, qb⟩ hz9 => ?_)
          subst eb
          obtain rfl : z = Value.bool b := r9
          obtain ⟨n', rfl⟩ : ∃ n', n = n' + 1 := ⟨n - 1, by omega⟩
          refine seg_at (seg_yield rfl rfl rfl ⟨b, rfl, gen J9, J9.nolimit, J9.bare, hz9, fun e => ?_, fun e s' r => ?_⟩)
          · subst e
            exact ⟨H9, back J9, qb⟩
          · have e : b = true := by
              cases b with
              | true => rfl
              | false => exact absurd rfl e
            subst e
            rw [if_pos rfl] at qb
            obtain ⟨m', hm', w'⟩ := hNx H9 qb
            have pin' : ∀ b ∈ fp, ∀ o, s7.heap.get? b = some o → s9.heap.get? b = some o ∧ H9 b = none := fun b hb o e =>
              let z := J9.pin (b, o) (List.mem_append_right _ (List.mem_append_right _ (mem_pinsAt hb e)))
              ⟨z.1, z.2.1⟩
            have hl : (wipe σ (own.map (·.2))).length = σ8.length := by rw [← hw8, wipe_length]
            have K9 : Inv (gX X s3 H3 Ag ce fp) [(h'.objs.size, go)] (wipe σ (own.map (·.2))) H9 s9 := J9.unpinned.weak hl fun j v e => by
              rw [← hw8] at e
              exact (wipe_some e).1
            refine seg_again rfl (ih m' hm' n' (i + 1) s' s' H9 (by omega) w' (r.inv K9) ?_ (fun b hb => ?_) (Nat.le_trans hz9 r.size))
            · rw [r.heap]
              exact T.keep _ _ _ st7 fun b hb o e => (pin' b hb o e).1
            · obtain ⟨o, e, _⟩ := T.obj _ _ st7 b hb
              exact (pin' b hb o e).2
    have mono : ∀ (b : Bool) (s s' : Shared), (∃ H', Inv X pins σ H' s ∧ Q (.bl b) H') → s'.os = s.os → AllBare s'.gens → (∀ b o, s.heap.get? b = some o → s'.heap.get? b = some o) → ∃ H', Inv X pins σ H' s' ∧ Q (.bl b) H' := fun b s s' ⟨H', J, q⟩ h1 h2 h3 =>
      ⟨H', inv_gens (J.kept (t' := s'.toks) h3) rfl h1 h2, q⟩
    generalize hs5 : ({ s3 with heap := h'.push go, gens := s3.gens.push (.fresh (.compStart (.GeneratorExp elt [⟨tg, iter, [], 0⟩] scope gpos) 0 (.ref it) .none ce)), toks := s3.toks + 1 + 1 + 1 } : Shared) = s5 at I5
    have hg5 : s5.gens[s3.gens.size]? = some (.fresh (.compStart (.GeneratorExp elt [⟨tg, iter, [], 0⟩] scope gpos) 0 (.ref it) .none ce)) := by
      rw [← hs5]
      exact Array.getElem?_push_size ..
    have hz5 : s3.gens.size + 1 ≤ s5.gens.size := by
      rw [← hs5]
      exact Nat.le_of_eq (Array.size_push ..).symm
    have ht5 : tn 0 s5.heap := by rw [← hs5]; exact st5
    have wt : Waits X.prog X.w X.A.in1 s3.gens.size h'.objs.size false (fun s => ∃ H', Inv X pins σ H' s ∧ Q (.bl true) H') (fun s => ∃ H', Inv X pins σ H' s ∧ Q (.bl false) H') (m0 + 1) s5 := by
      refine ⟨gen (pl := []) I5, I5.nolimit, I5.bare, _, hg5, fun s' r => ⟨rfl, ?_⟩⟩
      have lp := loop m0 (m0 + 1) 0 s' s' H3 (Nat.lt_succ_self _) hw0 (r.inv I5) (by rw [r.heap]; exact ht5) nfp (Nat.le_trans hz5 r.size)
      show Seg (model X.prog X.w) _ _ _ _ s' _ ((compStart (.GeneratorExp elt [⟨tg, iter, [], 0⟩] scope gpos) 0 (.ref it) .none ce).onRaise (leaving ce)) [] s'
      unfold compStart
      rw [Sem.onRaise_eq_wrap]
      show Seg (model X.prog X.w) _ _ _ _ s' _ ((ask >>= _).wrap _ _ _ _) [] s'
      refine seg_bind_wrap (wpAny_askSetting ?_)
      have ts : tn 0 s'.heap := by rw [r.heap]; exact ht5
      split
      · exact seg_again rfl lp
      · first
          | exact seg_bind_wrap (wpAny_rule (seg_bind_wrap (wpAny_standAt (seg_bind_wrap (T.self _ 0 s' _ _ ts (seg_again rfl lp))))))
          | (refine seg_bind_wrap (wpAny_rule ?_); show Seg (model X.prog X.w) _ _ _ _ s' _ ((standAt iter.pos >>= _).wrap _ _ _ _) [] s'; exact seg_bind_wrap (wpAny_standAt (seg_bind_wrap (T.self _ 0 s' _ _ ts (seg_again rfl lp)))))
    refine call_function_tree PySem.F.kind_all PySem.F.plain_all PySem.F.entry_all (PySem.F.args_all1 _) ?_
    unfold Builtin.«all»
    refine wpAny_bind (m := oneArg "all" _) (wpAny_pure ?_)
    refine wpAny_bind (wpAny_pyIter_gen (gen (pl := []) I5) ?_)
    refine wpAny_pure ⟨plainId_quiet PySem.F.plain_all_loop _, codeAny_mono (all_loop hh hr.depth (mono true) (mono false) (m0 + 1) s5 wt) fun r s' hq => ?_⟩
    rcases hq with ⟨rfl, H', J, q⟩ | ⟨rfl, H', J, q⟩
    · exact ⟨.bl true, H', J, rfl, q⟩
    · exact ⟨.bl false, H', J, rfl, q⟩
  cases hf : codeAmong gpos ps.toList with
  | none =>
    refine wpAny_genexprCodeX hcode (cd.code hPs ht) (cd.tab hPs) hf fun c' h' tk hx hge hlt hco' _ htab' _ => ?_
    obtain ⟨o1, vs, f1, tf, fl, tg1, inF, tx, tt, op, _, _, _, _, _, _, _, _, _, htr, _⟩ := hco'
    exact cont _ h' tk _ (Nat.le_trans hge (Nat.le_of_lt hlt)) (fun b o hb e => hx b o hb e) htab'.2 htr
  | some cv =>
    refine wpAny_genexprCode_hit hcode (cd.code hPs ht) hf ?_
    have := cont cv s2.heap s2.toks #[] (Nat.le_refl _) (fun _ _ _ e => e) (by rw [hPs]; simp) (by simpa using ht)
    exact this
end
/-! ### sum(..) of a generator, told by what each turn does -/
def HoldsZ (S : Addr) (s : Shared) (z : Int) : Prop := ∃ t c, s.heap.get? S = some { cls := .type "list", dict := none, data := .seq #[.int z t] c, slots := #[] }
theorem HoldsZ.inj {S : Addr} {s : Shared} {y z : Int} (h : HoldsZ S s y) (g : HoldsZ S s z) : y = z := by
  obtain ⟨t, c, h⟩ := h
  obtain ⟨t', c', g⟩ := g
  rw [h] at g
  have e := Option.some.inj g
  have e2 : (#[Value.int y t] : Array Value) = #[Value.int z t'] := by
    injection e with _ _ e3 _
    injection e3
  have e4 := congrArg (fun a : Array Value => a[0]?) e2
  simp at e4
  exact e4.1
/-- between a yield and the next turn: the total is told anew -/
structure RsS (S : Addr) (s s' : Shared) : Prop where
  keep : ∀ b o, b ≠ S → s.heap.get? b = some o → s'.heap.get? b = some o
  os : s'.os = s.os
  bare : AllBare s'.gens
  size : s.gens.size ≤ s'.gens.size
theorem RsS.inv {X : Cx} {pins : List (Addr × Obj)} {σ : L2.St} {H : Hp} {s s' : Shared} {S : Addr} (r : RsS S s s') (I : Inv X pins σ H s) (f : FpOk X pins H S) : Inv X pins σ H s' := by
  have J := I.turnedL (h' := s'.heap) (t' := s'.toks) (ch := [S]) (fun b o hb e => r.keep b o (fun z => hb (by rw [z]; simp)) e) (fun b hb => by rw [List.mem_singleton.mp hb]; exact f)
  exact inv_gens J rfl r.os r.bare
def gYs (gi : Nat) (a S : Addr) : Protocol := fun _ s₀ v s kap =>
  ∃ y t, v = .int y t ∧ s.heap.get? S = s₀.heap.get? S ∧ AllBare s.gens ∧ gi < s.gens.size ∧ (∀ z s', HoldsZ S s₀ z → RsS S s s' → HoldsZ S s' (z + y) → s'.heap.NoLimit ∧ s'.heap.IsGen a gi ∧ kap (.send .none) s')
def gRs (S : Addr) (Fin : Int → Shared → Prop) : Nat → Shared → Shared → Prop := fun _ s₀ s => AllBare s.gens ∧ ∀ z, HoldsZ S s₀ z → Fin z s
/-- the generator waits -/
def WaitsS (prog : Program) (w : World) (A : Around) (gi : Nat) (a S : Addr) (Fin : Int → Shared → Prop) (n : Nat) (s : Shared) : Prop :=
  s.heap.IsGen a gi ∧ s.heap.NoLimit ∧ AllBare s.gens ∧ ∃ gs, s.gens[gi]? = some gs ∧
    ∀ s', Rs s s' → gs.Goes (model prog w) A.in1 (fun n s₀ r s₁ => r = .ok .next ∧ gRs S Fin n s₀ s₁) (gYs gi a S) n (.send .none) s'
section
variable {prog : Program} {w : World} {A : Around} {gi : Nat} {a S : Addr} {Fin : Int → Shared → Prop}
theorem HoldsZ.of {s s' : Shared} {z : Int} (h : HoldsZ S s z) (e : s'.heap = s.heap) : HoldsZ S s' z := by
  obtain ⟨t, c, h⟩ := h
  exact ⟨t, c, by rw [e]; exact h⟩
theorem waitsS_next {n : Nat} {s : Shared} {Q : Option Value → Shared → Prop} {E : Value → Shared → Prop} (hh : A.handled = none) (hroom : A.depth < recursionLimit)
    (hF : ∀ z, ∀ s s' : Shared, Fin z s → s'.os = s.os → AllBare s'.gens → (∀ b o, s.heap.get? b = some o → s'.heap.get? b = some o) → Fin z s')
    (hz0 : ∃ z, HoldsZ S s z) (W : WaitsS prog w A gi a S Fin n s) (hN : ∀ s', (∀ z, HoldsZ S s z → Fin z s') → Q none s')
    (hG : ∀ s' y t m, m < n → s'.heap.get? S = s.heap.get? S → AllBare s'.gens → (∀ z s'', HoldsZ S s z → RsS S s' s'' → s''.gens = s'.gens → HoldsZ S s'' (z + y) → WaitsS prog w A gi a S Fin m s'') → Q (some (.int y t)) s') : wpAny (model prog w) A (pyNext (.ref a)) Q E s := by
  obtain ⟨hg, hl, hb, gs, hgs, hgo⟩ := W
  refine wpAny_pyNext_genexpQ (P := gRs S Fin) (Y := gYs gi a S) hh hl hroom hg hgs (hgo _ (Rs.set hb rfl)) (fun v s₁ gs' hb' hv => ?_) fun s₁ hp h' hk => ?_
  · obtain ⟨y, t, rfl, hS, b1, z1, k1⟩ := hv
    cases n with
    | zero =>
      obtain ⟨z, tt, c, hz⟩ := hz0
      have hz1 : s₁.heap.get? S = _ := hS.trans hz
      exact False.elim (k1 z { s₁ with heap := s₁.heap.update S (Obj.mapSeq fun _ => #[.int (z + y) 0]) } ⟨tt, c, hz⟩ ⟨fun b o hb e => (Heap.get?_update_other _ _ (Ne.symm hb)).trans e, rfl, b1, Nat.le_refl _⟩ ⟨_, _, Heap.get?_update_self _ hz1 rfl⟩).2.2
    | succ m =>
      refine hG _ y t m (Nat.lt_succ_self m) hS (bare_set b1 hb') fun z s'' hz r eg hz' => ?_
      have r1 : RsS S s₁ s'' := ⟨r.keep, r.os, r.bare, Nat.le_trans (Nat.le_of_eq (GenW.setGen_size s₁ gi gs').symm) r.size⟩
      obtain ⟨l2, g2, _⟩ := k1 z s'' (hz.of rfl) r1 hz'
      refine ⟨g2, l2, r.bare, gs', ?_, fun s3 r3 => (k1 z s3 (hz.of rfl) ⟨fun b o hb e => by rw [r3.heap]; exact r.keep b o hb e, r3.os.trans r.os, r3.bare, Nat.le_trans r1.size r3.size⟩ (hz'.of r3.heap)).2.2⟩
      rw [eg]
      show (s₁.gens.setIfInBounds gi gs')[gi]? = some gs'
      rw [Array.getElem?_setIfInBounds_self_of_lt z1]
  · obtain ⟨b1, e1⟩ := hp
    exact hN _ fun z hz => hF z _ _ (e1 z (hz.of rfl)) rfl (bare_set b1 rfl) fun b o q => hk b o q
theorem sum_loopS (hh : A.handled = none) (hroom : A.depth < recursionLimit)
    (hF : ∀ z, ∀ s s' : Shared, Fin z s → s'.os = s.os → AllBare s'.gens → (∀ b o, s.heap.get? b = some o → s'.heap.get? b = some o) → Fin z s') :
    ∀ (n : Nat) (s : Shared) (st z : Int), (st = 0 ∨ st = 2) → HoldsZ S s z → WaitsS prog w A.in1 gi a S Fin n s →
      codeAny (model prog w) A (.builtin "sum.loop" ⟨[.ref a, .ref S, rawInt st, rawInt 0], []⟩) (fun r s' => ∃ z t, r = .ok (.ret (.int z t)) ∧ Fin z s') s := by
  intro n
  induction n using Nat.strongRecOn with
  | ind n ih =>
    intro s st z hst hz W
    have hz0 := hz
    obtain ⟨tA, c, hS⟩ := hz
    refine codeAny_builtin PySem.F.entry_sum_loop ?_
    rw [Around.under_plainId PySem.F.plain_sum_loop _]
    show wpAny _ A.in1 (seqItems? (.ref S) >>= _) _ _ s
    refine wpAny_bind (wpAny_seqItems hS rfl ?_)
    show wpAny _ A.in1 (tryCatch (pyNext (.ref a)) _ >>= _) _ _ s
    refine wpAny_bind (wpAny_tryCatch (waitsS_next (A := A.in1) hh hroom hF ⟨z, hz0⟩ W (fun s' e => ?_) fun s' y t m hm eS bS W' => ?_))
    · exact wpAny_pure ⟨z, tA, rfl, e z hz0⟩
    have hS' := eS.trans hS
    rcases hst with rfl | rfl
    · show wpAny _ A.in1 (if (_ : Bool) = true then (mkInt (z + y) >>= _) else _) _ _ _
      split
      · refine wpAny_bind (wpAny_mkInt ?_)
        show wpAny _ A.in1 (updateSeq S (fun _ => #[.int (z + y) s'.toks]) >>= _) _ _ _
        refine wpAny_bind ?_
        have hS2 := Heap.get?_update_self (Obj.mapSeq fun _ => #[Value.int (z + y) s'.toks]) hS' rfl
        refine wpAny_updateSeq hS' rfl (wpAny_pure ⟨plainId_quiet PySem.F.plain_sum_loop _, ih m hm _ 0 (z + y) (.inl rfl) ⟨_, _, hS2⟩ (W' z _ hz0 ⟨fun b o hb e => (Heap.get?_update_other _ _ (Ne.symm hb)).trans e, rfl, bS, Nat.le_refl _⟩ rfl ⟨_, _, hS2⟩)⟩)
      · refine wpAny_bind (wpAny_rule ?_)
        refine wpAny_bind (wpAny_attempt (wpAny_holding (wpAny_add_int ?_)))
        show wpAny _ A.in1 (updateSeq S (fun _ => #[.int (z + y) s'.toks]) >>= _) _ _ _
        refine wpAny_bind (wpAny_updateSeq hS' rfl ?_)
        have hS₂ := Heap.get?_update_self (Obj.mapSeq fun _ => #[Value.int (z + y) s'.toks]) hS' rfl
        refine wpAny_bind (wpAny_letGo ?_)
        have hS₃ := Heap.get?_update_self (Obj.mapSeq fun _ => #[Value.int (z + y) s'.toks]) hS₂ rfl
        refine wpAny_bind (wpAny_updateSeq hS₂ rfl (wpAny_pure ⟨plainId_quiet PySem.F.plain_sum_loop _, ih m hm _ 2 (z + y) (.inr rfl) ⟨_, _, hS₃⟩ (W' z _ hz0 ⟨fun b o hb e => (Heap.get?_update_other _ _ (Ne.symm hb)).trans ((Heap.get?_update_other _ _ (Ne.symm hb)).trans e), rfl, bS, Nat.le_refl _⟩ rfl ⟨_, _, hS₃⟩)⟩))
    · show wpAny _ A.in1 ((holding [Value.int y t] (binaryOp .Add (.int z tA) (.int y t))).attempt >>= _) _ _ _
      refine wpAny_bind (wpAny_attempt (wpAny_holding (wpAny_add_int ?_)))
      show wpAny _ A.in1 (updateSeq S (fun _ => #[.int (z + y) s'.toks]) >>= _) _ _ _
      refine wpAny_bind (wpAny_updateSeq hS' rfl ?_)
      have hS₂ := Heap.get?_update_self (Obj.mapSeq fun _ => #[Value.int (z + y) s'.toks]) hS' rfl
      refine wpAny_bind (wpAny_letGo ?_)
      have hS₃ := Heap.get?_update_self (Obj.mapSeq fun _ => #[Value.int (z + y) s'.toks]) hS₂ rfl
      refine wpAny_bind (wpAny_updateSeq hS₂ rfl (wpAny_pure ⟨plainId_quiet PySem.F.plain_sum_loop _, ih m hm _ 2 (z + y) (.inr rfl) ⟨_, _, hS₃⟩ (W' z _ hz0 ⟨fun b o hb e => (Heap.get?_update_other _ _ (Ne.symm hb)).trans ((Heap.get?_update_other _ _ (Ne.symm hb)).trans e), rfl, bS, Nat.le_refl _⟩ rfl ⟨_, _, hS₃⟩)⟩))
end
/-! ### sum(elt for target in iter) -/
/-- the reading: W by the turn, a measure and the total; P: the def's table, which may grow -/
def tSum (P : Addr) (wi : TI) (g : TG) (te : TE) (vs : List Nat) : TE := fun σ H Q => wi σ H fun J H1 => GxR.TabG H1 P ∧ ∃ W : Nat → Nat → Int → Hp → Prop, (∀ H2, GxR.Tabbed P H1 H2 → ∃ m, W 0 m 0 H2) ∧ ∀ i m z H, W i m z H →
  (J.stop i H ∧ Q (.int z) H) ∨ (J.go i H ∧ ∃ Nx : Int → Hp → Prop, (∀ y H', Nx y H' → ∃ m', m' < m ∧ W (i + 1) m' (z + y) H') ∧ ∀ x H', J.yld i H x H' → g x (wipe σ vs) H' fun σ2 H2 => wipe σ2 vs = wipe σ vs ∧
    te σ2 H2 fun v H3 => ∃ y, v = .int y ∧ Nx y H3)
section
variable {X : Cx}
theorem pe_sum {k : Nat} {c P : Addr} {elt tg iter : Expr} {scope : Scope} {own : List (Str × Nat)} {p pos gpos : Pos} {wi : TI} {g : TG} {te : TE}
    (hr : Room (k + 1) X.A) (TB : GxR.TabB X.base X.mg c P) (hcode : X.env.code = .ref c) (hc : X.calm = true) (hN : X.N.Nodup) (hG : Gl X "sum") (hM : X.mg "sum" = none) (hi : PI X tg iter wi) (ok : BlkOk X.N X.env.scope scope own) (gk : GnOk scope) (hdN : (".0" : Str) ∉ X.N)
    (hg : ∀ (s : Shared) (H : Hp) (A' : Around) (C : Addr) (cl : List (Str × Addr)) (code : Value) (fp : List Addr), PG (gX X s H A' (genEnv scope cl C code builtinsNs X.env) fp) tg g)
    (he : ∀ (s : Shared) (H : Hp) (A' : Around) (C : Addr) (cl : List (Str × Addr)) (code : Value) (fp : List Addr), Room k A' → PE (gX X s H A' (genEnv scope cl C code builtinsNs X.env) fp) elt te)
    (hs : ∀ v, genFold iter X.env v = pure v := by intro _; rfl)
    (hst : starEach [.GeneratorExp elt [⟨tg, iter, [], 0⟩] scope gpos] X.env = (false, eval (.GeneratorExp elt [⟨tg, iter, [], 0⟩] scope gpos) X.env) :: starEach [] X.env := by rfl) :
    PE X (.Call (.Name "sum" p) [.GeneratorExp elt [⟨tg, iter, [], 0⟩] scope gpos] [] pos) (tSum P wi g te (own.map (·.2))) := by
  refine ⟨fun pins s σ H Q I h => ?_⟩
  have hh : X.A.handled = none := hr.hd
  refine wpAny_Call_Name_kw (ld_blt I hG hM PyProof.Rows.boot_sum ?_)
  refine PyProof.Rows.callWith_builtin1 ?_ hst (by rfl)
  rw [hst]
  show wpAny _ _ (spliced ((false, eval (.GeneratorExp elt [⟨tg, iter, [], 0⟩] scope gpos) X.env) :: backTo pos (starEach [] X.env))) _ _ s
  have hfree : ∀ y ∈ scope.names, y.2 = .free → ∃ c, X.env.cells.lookup y.1 = some c := fun y hy e =>
    (ok.free y hy e).elim (fun k => I.ok.has _ (.inl k)) fun k => I.ok.has _ (.inr k)
  refine Calls.spliced_cons (wpAny_GeneratorExp_make gk.co (closure_ok hfree) gk.nocell gk.dot ok.kind (by have := hr.dp; omega) (thn (hi.run pins s σ H _ I h) fun xv s1 hx => thn hx fun itv s2 h2 => ?_) hs)
  obtain ⟨it, fp, tn, J, H2, e, I2, T, st2, f2, ⟨ps, hP, ht⟩, W, w0, turn⟩ := h2
  subst e
  refine ⟨I2.nolimit, ?_⟩
  have hPs : s2.heap.get? P = some { cls := .none, data := .fields ps } := I2.hok P _ hP
  have cd : PySem.W.CodeHd s2.heap c P := TB.code.keeps fun b u e => I2.bk b u e
  have sz2 : ∀ b ∈ fp, b < s2.heap.objs.size := fun b hb => by
    obtain ⟨o, e, _⟩ := T.obj _ _ st2 b hb
    exact Heap.lt_size e
  have nfP : ∀ b ∈ fp, b ≠ P := fun b hb z => by
    have q := (f2 b hb).1
    rw [z, hP] at q
    cases q
  -- behind the table
  have cont : ∀ (code : Value) (h3 : Heap) (tk : Nat) (more : Array Value), s2.heap.objs.size ≤ h3.objs.size → (∀ b o, b ≠ P → s2.heap.get? b = some o → h3.get? b = some o) → h3.get? P = some { cls := .none, data := .fields (ps ++ more) } → TriplesOk (ps ++ more).toList →
      wpAny (model X.prog X.w) X.A (builtinsFor X.env.globals X.env.builtins) (fun bi s4 => ∀ h', h'.Ns s4.heap.objs.size (fun y => if y = ".0" then some (.ref it) else none) → Heap.SameBut s4.heap.objs.size (s4.heap.push { cls := .type "frame", data := .dict #[] }) h' →
        wpAny (model X.prog X.w) X.A (spliced (backTo pos (starEach [] X.env))) (fun vs s5 => wpAny (model X.prog X.w) X.A (call (.builtin "sum") (.ref h'.objs.size :: vs)) (EP X pins σ Q) X.xe s5) X.xe { s4 with
            gens := s4.gens.push (.fresh (.compStart (.GeneratorExp elt [⟨tg, iter, [], 0⟩] scope gpos) 0 (.ref it) .none (genEnv scope (cloFrom X.env.cells scope.names []) s4.heap.objs.size code bi X.env))), toks := s4.toks + 1 + 1 + 1,
            heap := h'.push { cls := .type "generator", data := .fields #[.int s4.gens.size 0, .str "<genexpr>" (s4.toks + 1), .str (X.env.qual ++ "<genexpr>") (s4.toks + 1 + 1)] } }) X.xe { s2 with heap := h3, toks := tk } := by
    intro code h3 tk more hle3 hk3 hP3 ht3
    have I3 : Inv X pins σ (upd H2 P (.tbl (ps ++ more))) { s2 with heap := h3, gens := s2.gens, drawn := s2.drawn, toks := tk } := GxR.inv_tab I2 hP hk3 hP3 I2.bare
    have tab3 : GxR.Tabbed P H2 (upd H2 P (.tbl (ps ++ more))) := ⟨⟨_, upd_same, ht3⟩, fun b hb => upd_ne hb⟩
    have st3 : tn 0 h3 := T.keep _ _ _ st2 fun b hb o e => hk3 b o (nfP b hb) e
    have f3 : ∀ b ∈ fp, FpOk X pins (upd H2 P (.tbl (ps ++ more))) b := fun b hb => ⟨by rw [upd_ne (nfP b hb)]; exact (f2 b hb).1, (f2 b hb).2⟩
    generalize upd H2 P (.tbl (ps ++ more)) = H3 at I3 tab3 f3
    obtain ⟨m0, hw0⟩ := w0 H3 tab3
    have sz3 : ∀ b ∈ fp, b < h3.objs.size := fun b hb => Nat.lt_of_lt_of_le (sz2 b hb) hle3
    have hs3 : ({ s2 with heap := h3, gens := s2.gens, drawn := s2.drawn, toks := tk } : Shared) = { s2 with heap := h3, toks := tk } := rfl
    rw [hs3] at I3
    generalize hsh : ({ s2 with heap := h3, toks := tk } : Shared) = s3 at I3 ⊢
    have eh : h3 = s3.heap := by rw [← hsh]
    rw [eh] at st3 sz3
    clear hsh hs3 eh hP3 hk3 hle3
    obtain ⟨bm, ob, e1, e2, e3, e4, e5, e6, e7, e8⟩ := TB.bm
    refine wpAny_builtinsFor (m := X.mg) (by rw [I3.ok.glob]; exact I3.mod.glob.keeps I3.bk) e1 e2 (I3.bk _ _ e5) e6 e7 e8 ?_
    intro h' hn' hs'
    refine Calls.spliced_nil ?_
    have hsz : h'.objs.size = s3.heap.objs.size + 1 := by rw [hs'.1, Heap.size_push]
    generalize hgo : ({ cls := .type "generator", data := .fields #[.int s3.gens.size 0, .str "<genexpr>" (s3.toks + 1), .str (X.env.qual ++ "<genexpr>") (s3.toks + 1 + 1)] } : Obj) = go
    have kp5 : ∀ b o, s3.heap.get? b = some o → (h'.push go).get? b = some o := fun b o e => Heap.get?_push_of_some _ (hs'.extBut b o (Nat.ne_of_lt (Heap.lt_size e)) (Heap.get?_push_of_some _ e))
    generalize hce : genEnv scope (cloFrom X.env.cells scope.names []) s3.heap.objs.size code builtinsNs X.env = ce
    have hhA : (X.A.in1.in1.over (.compLoop (.GeneratorExp elt [⟨tg, iter, [], 0⟩] scope gpos) 0 (.ref it) .none ce) []).handled = none := hh
    have hFr : (X.A.in1.in1.over (.compLoop (.GeneratorExp elt [⟨tg, iter, [], 0⟩] scope gpos) 0 (.ref it) .none ce) []).frames = some (ce :: X.stack) := by
      show pushEnvs [ce] (pushEnvs [] X.A.frames) = _
      rw [I3.ok.frames]
      rfl
    have hRm : Room k (X.A.in1.in1.over (.compLoop (.GeneratorExp elt [⟨tg, iter, [], 0⟩] scope gpos) 0 (.ref it) .none ce) []) := by
      have z1 := hr.dp
      have z2 := hr.un
      refine ⟨hhA, ?_, ?_⟩
      · show X.A.depth + 0 + 1 + 3 * k + 5 < recursionLimit
        omega
      · show X.A.units + 1 + 1 + 0 + 3 + 16 * k + 200 < cLine
        omega
    generalize hAg : X.A.in1.in1.over (.compLoop (.GeneratorExp elt [⟨tg, iter, [], 0⟩] scope gpos) 0 (.ref it) .none ce) [] = Ag at hhA hFr hRm
    have I5 : Inv (gX X s3 H3 Ag ce fp) [(h'.objs.size, go)] (wipe σ (own.map (·.2))) H3 { s3 with heap := h'.push go, gens := s3.gens.push (.fresh (.compStart (.GeneratorExp elt [⟨tg, iter, [], 0⟩] scope gpos) 0 (.ref it) .none ce)), toks := s3.toks + 1 + 1 + 1 } := by
      have q := gen_start (code := code) (A' := Ag) (h5 := h'.push go) (g5 := s3.gens.push (.fresh (.compStart (.GeneratorExp elt [⟨tg, iter, [], 0⟩] scope gpos) 0 (.ref it) .none ce))) (t5 := s3.toks + 1 + 1 + 1) (go := go) I3 ok gk hN (fun b hb => ⟨f3 b hb, sz3 b hb⟩) hhA (by rw [hce]; exact hFr) kp5 (hn'.push _)
        (fun x hx => if_neg hx) hdN (I3.bare.push rfl) (a := h'.objs.size) (by omega) (Heap.get?_push_size _ (by rw [← hgo]; rfl)) (by rw [← hgo]; intro v z; cases z)
      rw [hce] at q
      exact q
    have st5 : tn 0 (h'.push go) := T.keep _ _ _ st3 fun b _ o e => kp5 b o e
    have nfp : ∀ b ∈ fp, H3 b = none := fun b hb => (f3 b hb).1
    have pg := hg s3 H3 Ag s3.heap.objs.size (cloFrom X.env.cells scope.names []) code fp
    have pe := he s3 H3 Ag s3.heap.objs.size (cloFrom X.env.cells scope.names []) code fp hRm
    rw [hce] at pg pe
    have cCo : ce.scope.isCoroutine = false := by rw [← hce]; exact gk.co
    clear hn' hs' kp5 w0 hce
    -- back in the def's context
    have back : ∀ {σ' : L2.St} {H' : Hp} {s' : Shared} {pl : List (Addr × Obj)}, Inv (gX X s3 H3 Ag ce fp) pl σ' H' s' → Inv X pins σ H' s' := fun {σ' H' s' pl} J => I3.call' (ch := fp) J.os J.base J.hok J.bare fun b hb =>
      ⟨(f3 b hb).2.2.2.1, (f3 b hb).2.1, (f3 b hb).2.2.2.2.1, (f3 b hb).2.2.2.2.2⟩
    -- the list of the total
    have nSz : ∀ b ∈ fp, b ≠ h'.objs.size + 1 := fun b hb => Nat.ne_of_lt (Nat.lt_of_lt_of_le (sz3 b hb) (by omega))
    have stat : ∀ {σ' : L2.St} {H' : Hp} {s' : Shared} {oS : Obj}, Inv (gX X s3 H3 Ag ce fp) [(h'.objs.size, go), (h'.objs.size + 1, oS)] σ' H' s' → (∀ b ∈ fp, H' b = none) → ∀ b ∈ fp, FpOk (gX X s3 H3 Ag ce fp) [(h'.objs.size, go), (h'.objs.size + 1, oS)] H' b := fun {σ' H' s' oS} J hn b hb =>
      ⟨hn b hb, (J.ok.exf b hb).1, J.ok.exfs b hb, .inl hb, fun x c e => (J.ok.exf b hb).2 x c e, fun p hp => by
        have hp : p = (h'.objs.size, go) ∨ p = (h'.objs.size + 1, oS) := by simpa using hp
        rcases hp with hp | hp
        · rw [hp]
          exact Nat.ne_of_gt (Nat.lt_trans (sz3 b hb) (by rw [hsz]; exact Nat.lt_succ_self _))
        · rw [hp]
          exact Ne.symm (nSz b hb)⟩
    have gen : ∀ {σ' : L2.St} {H' : Hp} {s' : Shared} {pl : List (Addr × Obj)}, Inv (gX X s3 H3 Ag ce fp) ([(h'.objs.size, go)] ++ pl) σ' H' s' → s'.heap.IsGen h'.objs.size s3.gens.size := fun {σ' H' s' pl} J => by
      have q := (J.pin (h'.objs.size, go) (by simp)).1
      exact ⟨go, _, _, q, by rw [← hgo], by rw [← hgo], by rw [← hgo]⟩
    have fS : ∀ {H' : Hp}, H' (h'.objs.size + 1) = none → FpOk (gX X s3 H3 Ag ce fp) [(h'.objs.size, go)] H' (h'.objs.size + 1) := fun {H'} hn => I5.fpOk (by show (h'.push go).objs.size ≤ _; rw [Heap.size_push]; exact Nat.le_refl _) hn
    -- the turns
    have loop : ∀ (m n i : Nat) (z : Int) (s₀ s : Shared) (H : Hp) (oS : Obj), m < n → W i m z H → Inv (gX X s3 H3 Ag ce fp) [(h'.objs.size, go), (h'.objs.size + 1, oS)] (wipe σ (own.map (·.2))) H s → HoldsZ (h'.objs.size + 1) s z → s.heap.get? (h'.objs.size + 1) = s₀.heap.get? (h'.objs.size + 1) → tn i s.heap → (∀ b ∈ fp, H b = none) → s3.gens.size + 1 ≤ s.gens.size →
        Seg (model X.prog X.w) X.A.in1.in1 (fun n s₀ r s₁ => r = .ok .next ∧ gRs (h'.objs.size + 1) (fun z s => ∃ H', Inv X pins σ H' s ∧ Q (.int z) H') n s₀ s₁) (gYs s3.gens.size h'.objs.size (h'.objs.size + 1)) n s₀
          (.compLoop (.GeneratorExp elt [⟨tg, iter, [], 0⟩] scope gpos) 0 (.ref it) .none ce) ((model X.prog X.w).den (.compLoop (.GeneratorExp elt [⟨tg, iter, [], 0⟩] scope gpos) 0 (.ref it) .none ce)) [] s := by
      intro m
      induction m using Nat.strongRecOn with
      | ind m ih =>
        intro n i z s₀ s H oS hmn w J hz0 hs0 st nf hz
        show Seg (model X.prog X.w) _ _ _ n s₀ _ ((compTurn (.GeneratorExp elt [⟨tg, iter, [], 0⟩] scope gpos) 0 (.ref it) .none ce).onRaise (leaving ce)) [] s
        rw [compTurn_gen]
        rw [Sem.onRaise_eq_wrap]
        refine seg_bind_wrap (wpAny_standAt (seg_bind_wrap ?_))
        rw [hAg]
        have same0 : ∀ z', HoldsZ (h'.objs.size + 1) s₀ z' → z' = z := fun z' ⟨t', c', e'⟩ => HoldsZ.inj ⟨t', c', hs0.trans e'⟩ hz0
        have oSs : s.heap.get? (h'.objs.size + 1) = some oS := (J.pin (h'.objs.size + 1, oS) (by simp)).1
        rcases turn i m z H w with ⟨stp, qq⟩ | ⟨go', Nx, hNx, step⟩
        · refine thnF (T.done (gX X s3 H3 Ag ce fp) rfl rfl rfl hc i _ s _ H (fun _ _ => False) J (stat J nf) st stp) fun r s6 ⟨hr6, J6⟩ => ?_
          subst hr6
          exact seg_end (.ok .next) ⟨rfl, J6.bare, fun z' hz' => by rw [same0 z' hz']; exact ⟨H, back J6, qq⟩⟩
        · refine GenW.wpAny_gsz hz (thnF (T.item (gX X s3 H3 Ag ce fp) rfl rfl rfl hc i _ s _ H (fun _ _ => False) J (stat J nf) st go') fun r s6 ⟨u, hr6, h6⟩ hz6 => ?_)
          subst hr6
          refine seg_bind_wrap ?_
          rw [hAg]
          refine GenW.wpAny_gsz hz6 (thnF h6 fun _ s7 ⟨x, H7, J7, r7, y7, st7, n7⟩ hz7 => ?_)
          have J7' := J7.pinned (stat J7 n7) (T.obj _ _ st7)
          refine seg_bind_wrap ?_
          rw [hAg]
          refine GenW.wpAny_gsz hz7 (thnF (pg.run _ s7 _ H7 x u _ J7' r7 (step x H7 y7)) fun _ s8 ⟨σ8, H8, J8, hw8, q8⟩ hz8 => ?_)
          simp only [List.forIn_nil]
          refine seg_bind_wrap (wpAny_pure ?_)
          simp only [if_true]
          have hy : ∀ v, yieldOut ce v = yieldValue v := fun v => by simp only [yieldOut, cCo, Bool.false_eq_true, if_false]
          simp only [hy]
          rw [Sem.bind_eq_wrap', Sem.bind_eq_wrap']
          rw [Sem.wrap_wrap, Sem.wrap_wrap]
          refine seg_wrap ?_
          rw [hAg]
          refine GenW.wpAny_gsz hz8 (thnF (pe.run _ s8 σ8 H8 _ J8 q8) fun zv s9 ⟨yv, H9, J9, r9, y, eb, qb⟩ hz9 => ?_)
          subst eb
          obtain ⟨ty, rfl⟩ : ∃ t, zv = Value.int y t := r9
          obtain ⟨n', rfl⟩ : ∃ n', n = n' + 1 := ⟨n - 1, by omega⟩
          have hl : (wipe σ (own.map (·.2))).length = σ8.length := by rw [← hw8, wipe_length]
          have K9 : Inv (gX X s3 H3 Ag ce fp) [(h'.objs.size, go), (h'.objs.size + 1, oS)] (wipe σ (own.map (·.2))) H9 s9 := J9.unpinned.weak hl fun j v e => by
            rw [← hw8] at e
            exact (wipe_some e).1
          have pinS := K9.pin (h'.objs.size + 1, oS) (by simp)
          have pinG := K9.pin (h'.objs.size, go) (by simp)
          have K9' : Inv (gX X s3 H3 Ag ce fp) [(h'.objs.size, go)] (wipe σ (own.map (·.2))) H9 s9 := K9.pins_of fun p hp => by
            rw [List.mem_singleton.mp hp]
            exact pinG
          refine seg_at (seg_yield rfl rfl rfl ⟨y, ty, rfl, by rw [pinS.1, ← oSs]; exact hs0, J9.bare, hz9, fun z' s' hz' r hzs => ?_⟩)
          have L9 := r.inv K9' (fS pinS.2.1)
          refine ⟨L9.nolimit, gen (pl := []) L9, ?_⟩
          rw [same0 z' hz'] at hzs
          have hzs' := hzs
          obtain ⟨tS, cS, eS⟩ := hzs
          have L9' : Inv (gX X s3 H3 Ag ce fp) [(h'.objs.size, go), (h'.objs.size + 1, { cls := .type "list", dict := none, data := .seq #[.int (z + y) tS] cS, slots := #[] })] (wipe σ (own.map (·.2))) H9 s' := L9.pins_of fun p hp => by
            simp only [List.mem_cons, List.not_mem_nil, or_false] at hp
            rcases hp with hp | hp
            · rw [hp]
              exact L9.pin (h'.objs.size, go) (by simp)
            · rw [hp]
              exact ⟨eS, pinS.2.1, pinS.2.2.1, pinS.2.2.2.1, fun v e => by cases e⟩
          obtain ⟨m', hm', w'⟩ := hNx y H9 qb
          have pin' : ∀ b ∈ fp, ∀ o, s7.heap.get? b = some o → s9.heap.get? b = some o ∧ H9 b = none := fun b hb o e =>
            let z := J9.pin (b, o) (List.mem_append_right _ (List.mem_append_right _ (mem_pinsAt hb e)))
            ⟨z.1, z.2.1⟩
          refine seg_again rfl (ih m' hm' n' (i + 1) (z + y) s' s' H9 _ (by omega) w' L9' hzs' rfl ?_ (fun b hb => ?_) (Nat.le_trans hz9 r.size))
          · exact T.keep _ _ _ st7 fun b hb o e => r.keep b o (nSz b hb) (pin' b hb o e).1
          · obtain ⟨o, e, _⟩ := T.obj _ _ st7 b hb
            exact (pin' b hb o e).2
    have mono : ∀ (z : Int) (s s' : Shared), (∃ H', Inv X pins σ H' s ∧ Q (.int z) H') → s'.os = s.os → AllBare s'.gens → (∀ b o, s.heap.get? b = some o → s'.heap.get? b = some o) → ∃ H', Inv X pins σ H' s' ∧ Q (.int z) H' := fun z s s' ⟨H', J, q⟩ h1 h2 h3 =>
      ⟨H', inv_gens (J.kept (t' := s'.toks) h3) rfl h1 h2, q⟩
    generalize hs5 : ({ s3 with heap := h'.push go, gens := s3.gens.push (.fresh (.compStart (.GeneratorExp elt [⟨tg, iter, [], 0⟩] scope gpos) 0 (.ref it) .none ce)), toks := s3.toks + 1 + 1 + 1 } : Shared) = s5 at I5
    have hg5 : s5.gens[s3.gens.size]? = some (.fresh (.compStart (.GeneratorExp elt [⟨tg, iter, [], 0⟩] scope gpos) 0 (.ref it) .none ce)) := by
      rw [← hs5]
      exact Array.getElem?_push_size ..
    have hz5 : s3.gens.size + 1 ≤ s5.gens.size := by
      rw [← hs5]
      exact Nat.le_of_eq (Array.size_push ..).symm
    have ht5 : tn 0 s5.heap := by rw [← hs5]; exact st5
    have eS5 : s5.heap.objs.size = h'.objs.size + 1 := by rw [← hs5]; exact Heap.size_push ..
    have wt : ∀ (s6 : Shared) (z0 : Int), (∀ b o, s5.heap.get? b = some o → s6.heap.get? b = some o) → s6.os = s5.os → s6.gens = s5.gens → HoldsZ (h'.objs.size + 1) s6 z0 → z0 = 0 → WaitsS X.prog X.w X.A.in1 s3.gens.size h'.objs.size (h'.objs.size + 1) (fun z s => ∃ H', Inv X pins σ H' s ∧ Q (.int z) H') (m0 + 1) s6 := by
      intro s6 z0 k6 o6 g6 hz6 ez
      subst ez
      have I6 : Inv (gX X s3 H3 Ag ce fp) [(h'.objs.size, go)] (wipe σ (own.map (·.2))) H3 s6 := inv_gens (I5.kept (h' := s6.heap) (t' := s6.toks) k6) rfl o6 (by rw [g6]; exact I5.bare)
      have hz6' := hz6
      obtain ⟨tS, cS, eS⟩ := hz6
      have nS : H3 (h'.objs.size + 1) = none := I5.hok.fresh (by rw [eS5]; exact Nat.le_refl _)
      have f6 := fS nS
      have I6' : Inv (gX X s3 H3 Ag ce fp) [(h'.objs.size, go), (h'.objs.size + 1, { cls := .type "list", dict := none, data := .seq #[.int 0 tS] cS, slots := #[] })] (wipe σ (own.map (·.2))) H3 s6 := I6.pins_of fun p hp => by
        simp only [List.mem_cons, List.not_mem_nil, or_false] at hp
        rcases hp with hp | hp
        · rw [hp]
          exact I6.pin (h'.objs.size, go) (by simp)
        · rw [hp]
          exact ⟨eS, nS, f6.2.1, f6.2.2.1, fun v e => by cases e⟩
      have hg6 := hg5
      rw [← g6] at hg6
      refine ⟨gen (pl := []) I6, I6.nolimit, I6.bare, _, hg6, fun s' r => ⟨rfl, ?_⟩⟩
      have lp := loop m0 (m0 + 1) 0 0 s' s' H3 _ (Nat.lt_succ_self _) hw0 (r.inv I6') (hz6'.of r.heap) rfl (by rw [r.heap]; exact T.keep _ _ _ ht5 fun b _ o e => k6 b o e) nfp (Nat.le_trans (by rw [g6]; exact hz5) r.size)
      show Seg (model X.prog X.w) _ _ _ _ s' _ ((compStart (.GeneratorExp elt [⟨tg, iter, [], 0⟩] scope gpos) 0 (.ref it) .none ce).onRaise (leaving ce)) [] s'
      unfold compStart
      rw [Sem.onRaise_eq_wrap]
      show Seg (model X.prog X.w) _ _ _ _ s' _ ((ask >>= _).wrap _ _ _ _) [] s'
      refine seg_bind_wrap (wpAny_askSetting ?_)
      have ts : tn 0 s'.heap := by rw [r.heap]; exact T.keep _ _ _ ht5 fun b _ o e => k6 b o e
      split
      · exact seg_again rfl lp
      · first
          | exact seg_bind_wrap (wpAny_rule (seg_bind_wrap (wpAny_standAt (seg_bind_wrap (T.self _ 0 s' _ _ ts (seg_again rfl lp))))))
          | (refine seg_bind_wrap (wpAny_rule ?_); show Seg (model X.prog X.w) _ _ _ _ s' _ ((standAt iter.pos >>= _).wrap _ _ _ _) [] s'; exact seg_bind_wrap (wpAny_standAt (seg_bind_wrap (T.self _ 0 s' _ _ ts (seg_again rfl lp)))))
    refine call_function_tree PySem.F.kind_sum PySem.F.plain_sum PySem.F.entry_sum (PySem.F.args_sum1 _) ?_
    unfold Builtin.«sum»
    simp only [List.length_cons, List.length_nil]
    rw [if_neg (by decide)]
    refine wpAny_bind (wpAny_of_eq (show Builtin.Builtins.bindParams "sum" ["start"] 0 { } = pure [none] from rfl) ?_)
    refine wpAny_bind (wpAny_pyIter_gen (gen (pl := []) I5) ?_)
    refine wpAny_bind (wpAny_mkInt ?_)
    refine wpAny_bind (wpAny_pure ?_)
    simp only [List.forIn_cons, List.forIn_nil]
    refine wpAny_bind (wpAny_bind (wpAny_bind (wpAny_isInstance (T := "int") (b := false) (typeIs_int _ _ _) PySem.sub_int_str ?_)))
    simp only [Bool.false_eq_true, if_false]
    refine wpAny_pure (wpAny_bind (wpAny_bind (wpAny_isInstance (T := "int") (b := false) (typeIs_int _ _ _) PySem.sub_int_bytes ?_)))
    simp only [Bool.false_eq_true, if_false]
    refine wpAny_pure (wpAny_bind (wpAny_bind (wpAny_isInstance (T := "int") (b := false) (typeIs_int _ _ _) PySem.sub_int_bytearray ?_)))
    simp only [Bool.false_eq_true, if_false]
    refine wpAny_pure (wpAny_pure ?_)
    refine wpAny_bind (wpAny_newObj_type ?_)
    rw [eS5]
    have hH : HoldsZ (h'.objs.size + 1) { s5 with heap := s5.heap.push { cls := .type "list", dict := none, data := .seq #[.int 0 s5.toks], slots := #[] }, toks := s5.toks + 1 } 0 := ⟨_, _, by rw [← eS5]; exact Heap.get?_push_size _ rfl⟩
    refine wpAny_pure ⟨plainId_quiet PySem.F.plain_sum_loop _, codeAny_mono (sum_loopS hh hr.depth mono (m0 + 1) _ 0 0 (.inl rfl) hH (wt _ 0 (fun b o e => Heap.get?_push_of_some _ e) rfl rfl hH rfl)) fun r s' hq => ?_⟩
    obtain ⟨z, t, rfl, H', J, q⟩ := hq
    exact ⟨.int z, H', J, ⟨t, rfl⟩, q⟩
  cases hf : codeAmong gpos ps.toList with
  | none =>
    refine wpAny_genexprCodeX hcode (cd.code hPs ht) (cd.tab hPs) hf fun c' h' tk hx hge hlt hco' _ htab' _ => ?_
    obtain ⟨o1, vs, f1, tf, fl, tg1, inF, tx, tt, op, _, _, _, _, _, _, _, _, _, htr, _⟩ := hco'
    exact cont _ h' tk _ (Nat.le_trans hge (Nat.le_of_lt hlt)) (fun b o hb e => hx b o hb e) htab'.2 htr
  | some cv =>
    refine wpAny_genexprCode_hit hcode (cd.code hPs ht) hf ?_
    have := cont cv s2.heap s2.toks #[] (Nat.le_refl _) (fun _ _ _ e => e) (by rw [hPs]; simp) (by simpa using ht)
    exact this
end
def topS (i : Nat) : Stmt := PySem.Challenge.pw_friendfoe_k74_whole_moving_over.main.body.getD i (.Pass ⟨0, 0, 0, 0⟩)
abbrev s_breaks : Stmt := topS 4
abbrev N_breaks : List Str := ["sides", "tie", "one", "other", "kind"]
theorem sc_breaks : FnScope N_breaks ["sides", "tie"] (defScope s_breaks) := ⟨rfl, rfl, rfl, by decide +kernel, rfl, by decide +kernel, by decide +kernel⟩
abbrev s_broken_by : Stmt := topS 5
abbrev N_broken_by : List Str := ["web", "sides", "number", "tie"]
theorem sc_broken_by : FnScope N_broken_by ["web", "sides"] (defScope s_broken_by) := ⟨rfl, rfl, rfl, by decide +kernel, rfl, by decide +kernel, by decide +kernel⟩
abbrev s_weight_of : Stmt := topS 7
abbrev N_weight_of : List Str := ["weights", "tie"]
theorem sc_weight_of : FnScope N_weight_of ["weights", "tie"] (defScope s_weight_of) := ⟨rfl, rfl, rfl, by decide +kernel, rfl, by decide +kernel, by decide +kernel⟩
abbrev s_mend_weight : Stmt := topS 9
abbrev N_mend_weight : List Str := ["weights", "ties", "tie"]
theorem sc_mend_weight : FnScope N_mend_weight ["weights", "ties"] (defScope s_mend_weight) := ⟨rfl, rfl, rfl, by decide +kernel, rfl, by decide +kernel, by decide +kernel⟩
abbrev s_broken_weight : Stmt := topS 12
abbrev N_broken_weight : List Str := ["web", "weights", "sides"]
theorem sc_broken_weight : FnScope N_broken_weight ["web", "weights", "sides"] (defScope s_broken_weight) := ⟨rfl, rfl, rfl, by decide +kernel, rfl, by decide +kernel, by decide +kernel⟩
abbrev s_leans : Stmt := topS 13
abbrev N_leans : List Str := ["web", "weights", "sides", "told", "number", "tie", "weight", "lean"]
theorem sc_leans : FnScope N_leans ["web", "weights", "sides"] (defScope s_leans) := ⟨rfl, rfl, rfl, by decide +kernel, rfl, by decide +kernel, by decide +kernel⟩
abbrev s_moved_over : Stmt := topS 14
abbrev N_moved_over : List Str := ["sides", "place"]
theorem sc_moved_over : FnScope N_moved_over ["sides", "place"] (defScope s_moved_over) := ⟨rfl, rfl, rfl, by decide +kernel, rfl, by decide +kernel, by decide +kernel⟩
abbrev s_settled : Stmt := topS 15
abbrev N_settled : List Str := ["web", "weights", "sides", "told", "moved", "place"]
theorem sc_settled : FnScope N_settled ["web", "weights", "sides"] (defScope s_settled) := ⟨rfl, rfl, rfl, by decide +kernel, rfl, by decide +kernel, by decide +kernel⟩
abbrev s_l_well : Stmt := topS 17
abbrev N_l_well : List Str := ["_law_script", "_law_k", "_law_cell", "_law_great"]
theorem sc_l_well : FnScope N_l_well ["_law_script", "_law_k"] (defScope s_l_well) := ⟨rfl, rfl, rfl, by decide +kernel, rfl, by decide +kernel, by decide +kernel⟩
abbrev s_l_draw : Stmt := topS 18
abbrev N_l_draw : List Str := ["_law_well_here", "_law_most", "_law_digit", "_law_number"]
theorem sc_l_draw : FnScope N_l_draw ["_law_well_here", "_law_most"] (defScope s_l_draw) := ⟨rfl, rfl, rfl, by decide +kernel, rfl, by decide +kernel, by decide +kernel⟩
abbrev s_l_web : Stmt := topS 19
abbrev N_l_web : List Str := ["_law_well_here", "_law_great", "_law_many", "_law_ties", "_law_k", "_law_one", "_law_other", "_law_kind"]
theorem sc_l_web : FnScope N_l_web ["_law_well_here"] (defScope s_l_web) := ⟨rfl, rfl, rfl, by decide +kernel, rfl, by decide +kernel, by decide +kernel⟩
abbrev s_l_places : Stmt := topS 20
abbrev N_l_places : List Str := ["_law_well_here", "_law_many", "_law_way", "_law_place"]
theorem sc_l_places : FnScope N_l_places ["_law_well_here", "_law_many"] (defScope s_l_places) := ⟨rfl, rfl, rfl, by decide +kernel, rfl, by decide +kernel, by decide +kernel⟩
abbrev s_l_about : Stmt := topS 21
abbrev N_l_about : List Str := ["_law_web_here", "_law_places_here", "_law_other", "_law_ties", "_law_tie"]
theorem sc_l_about : FnScope N_l_about ["_law_web_here", "_law_places_here"] (defScope s_l_about) := ⟨rfl, rfl, rfl, by decide +kernel, rfl, by decide +kernel, by decide +kernel⟩
abbrev s_l_weights : Stmt := topS 22
abbrev N_l_weights : List Str := ["_law_well_here", "_law_web_here", "_law_found", "_law_tie", "_law_way", "_law_weight_here"]
theorem sc_l_weights : FnScope N_l_weights ["_law_well_here", "_law_web_here"] (defScope s_l_weights) := ⟨rfl, rfl, rfl, by decide +kernel, rfl, by decide +kernel, by decide +kernel⟩
abbrev s_l_weight : Stmt := topS 23
abbrev N_l_weight : List Str := ["_law_weights_here", "_law_tie"]
theorem sc_l_weight : FnScope N_l_weight ["_law_weights_here", "_law_tie"] (defScope s_l_weight) := ⟨rfl, rfl, rfl, by decide +kernel, rfl, by decide +kernel, by decide +kernel⟩
abbrev s_l_sides : Stmt := topS 24
abbrev N_l_sides : List Str := ["_law_well_here", "_law_many", "_law_way", "_law_place"]
theorem sc_l_sides : FnScope N_l_sides ["_law_well_here", "_law_many"] (defScope s_l_sides) := ⟨rfl, rfl, rfl, by decide +kernel, rfl, by decide +kernel, by decide +kernel⟩
abbrev s_l_broken : Stmt := topS 25
abbrev N_l_broken : List Str := ["_law_web_here", "_law_sides_here", "_law_tie", "_law_one", "_law_other", "_law_kind"]
theorem sc_l_broken : FnScope N_l_broken ["_law_web_here", "_law_sides_here", "_law_tie"] (defScope s_l_broken) := ⟨rfl, rfl, rfl, by decide +kernel, rfl, by decide +kernel, by decide +kernel⟩
abbrev s_l_lean : Stmt := topS 26
abbrev N_l_lean : List Str := ["_law_web_here", "_law_weights_here", "_law_sides_here", "_law_place", "_law_found", "_law_tie", "_law_weight_here"]
theorem sc_l_lean : FnScope N_l_lean ["_law_web_here", "_law_weights_here", "_law_sides_here", "_law_place"] (defScope s_l_lean) := ⟨rfl, rfl, rfl, by decide +kernel, rfl, by decide +kernel, by decide +kernel⟩
abbrev s_l_told : Stmt := topS 27
abbrev N_l_told : List Str := ["_law_web_here", "_law_weights_here", "_law_sides_here", "_law_refused", "_law_told_here"]
theorem sc_l_told : FnScope N_l_told ["_law_web_here", "_law_weights_here", "_law_sides_here"] (defScope s_l_told) := ⟨rfl, rfl, rfl, by decide +kernel, rfl, by decide +kernel, by decide +kernel⟩
abbrev s_l_over : Stmt := topS 28
abbrev N_l_over : List Str := ["_law_sides_here", "_law_places_here", "_law_place", "_law_side"]
theorem sc_l_over : FnScope N_l_over ["_law_sides_here", "_law_places_here"] (defScope s_l_over) := ⟨rfl, rfl, rfl, by decide +kernel, rfl, by decide +kernel, by decide +kernel⟩
abbrev s_l_gone : Stmt := topS 29
abbrev N_l_gone : List Str := ["_law_web_here", "_law_weights_here", "_law_sides_here", "_law_places_here", "_law_ahead", "_law_place", "_law_some", "_law_there", "_law_behind"]
theorem sc_l_gone : FnScope N_l_gone ["_law_web_here", "_law_weights_here", "_law_sides_here", "_law_places_here"] (defScope s_l_gone) := ⟨rfl, rfl, rfl, by decide +kernel, rfl, by decide +kernel, by decide +kernel⟩
abbrev s_l_least_alone : Stmt := topS 30
abbrev N_l_least_alone : List Str := ["_law_web_here", "_law_weights_here", "_law_sides_here", "_law_here", "_law_place"]
theorem sc_l_least_alone : FnScope N_l_least_alone ["_law_web_here", "_law_weights_here", "_law_sides_here"] (defScope s_l_least_alone) := ⟨rfl, rfl, rfl, by decide +kernel, rfl, by decide +kernel, by decide +kernel⟩
abbrev s_law : Stmt := topS 31
abbrev N_law : List Str := ["_law_script", "_law_k", "_law_well_here", "_law_web_here", "_law_weights_here", "_law_sides_here", "_law_some", "_law_times", "_law_plainly", "_law_tie", "_law_heavy", "_law_weight_here", "_law_found", "_law_others", "_law_every", "_law_refused", "_law_told_here", "_law_places_here", "_law_end", "_law_due"]
theorem sc_law : FnScope N_law ["_law_script"] (defScope s_law) := ⟨rfl, rfl, rfl, by decide +kernel, rfl, by decide +kernel, by decide +kernel⟩
/-! ### own rules: a list against [] -/
section
variable {X : Cx}
def rEqE (K : PySem.W.Frag) : R2 := fun x y H Q => ∃ (a b : Addr) (xs : List V), x = .ref a ∧ y = .ref b ∧ SqL K H a xs ∧ SqL K H b [] ∧ Q (.bl xs.isEmpty) H
def rNeE (K : PySem.W.Frag) : R2 := fun x y H Q => ∃ (a b : Addr) (xs : List V), x = .ref a ∧ y = .ref b ∧ SqL K H a xs ∧ SqL K H b [] ∧ Q (.bl (!xs.isEmpty)) H
theorem op_eqE (hu : X.A.units < cLine) : OpR X (compareOp .Eq) (rEqE X.K) := by
  intro pins s σ H x y v u Q I rx ry h
  obtain ⟨a, b, xs, rfl, rfl, ha, hb, q⟩ := h
  obtain rfl : v = Value.ref a := rx
  obtain rfl : u = Value.ref b := ry
  obtain ⟨its, r1, p1, _⟩ := I.list ha
  obtain ⟨its2, r2, p2, _⟩ := I.list hb
  cases r2
  cases xs with
  | nil =>
    cases r1
    exact SeqAt.eq_listAt (e := fun _ => true) p1.isList p2.isList rfl hu (fun j h1 _ => absurd h1 (by simp)) ⟨.bl true, H, I, rfl, q⟩
  | cons z zs =>
    cases r1 with
    | cons r t => exact SeqAt.eq_list_lengthsAt p1.isList p2.isList (by simp) hu ⟨.bl false, H, I, rfl, q⟩
theorem op_neE (hu : X.A.units < cLine) : OpR X (compareOp .NotEq) (rNeE X.K) := by
  intro pins s σ H x y v u Q I rx ry h
  obtain ⟨a, b, xs, rfl, rfl, ha, hb, q⟩ := h
  obtain rfl : v = Value.ref a := rx
  obtain rfl : u = Value.ref b := ry
  obtain ⟨its, r1, p1, _⟩ := I.list ha
  obtain ⟨its2, r2, p2, _⟩ := I.list hb
  cases r2
  cases xs with
  | nil =>
    cases r1
    exact SeqAt.RcNeAt.lists (e := fun _ => true) p1.isList p2.isList rfl hu (fun j h1 _ => absurd h1 (by simp)) _ _ _ _ ⟨.bl false, H, I, rfl, q⟩
  | cons z zs =>
    cases r1 with
    | cons r t => exact SeqAt.RcNeAt.lists_lengths p1.isList p2.isList (by simp) hu _ _ _ _ ⟨.bl true, H, I, rfl, q⟩
end
section
variable {P : Program} {w : World} {K : PySem.W.Frag} {mg : Str → Option Value} {base : Heap}
/-! ### webs -/
structure Tie where
  one : Int
  other : Int
  foe : Bool
def kindS : Bool → Str
  | true => "foe"
  | false => "friend"
def TieV (H : Hp) (v : V) (t : Tie) : Prop := ∃ a, v = .ref a ∧ H a = some (.tup [.int t.one, .int t.other, .str (kindS t.foe)])
def TieOk (n : Int) (t : Tie) : Prop := 0 ≤ t.one ∧ t.one < n ∧ 0 ≤ t.other ∧ t.other < n ∧ t.one ≠ t.other
def WebAt (H : Hp) (v : V) (n : Int) (ts : List Tie) : Prop := ∃ a b vs, v = .ref a ∧ H a = some (.tup [.int n, .ref b]) ∧ H b = some (.tup vs) ∧ Paired (TieV H) vs ts
structure WebOk (n : Int) (ts : List Tie) : Prop where
  lo : 1 ≤ n
  hi : n ≤ 40
  few : ts.length ≤ 120
  ok : ∀ t ∈ ts, TieOk n t
/-- tuples stay -/
def Tk (H H' : Hp) : Prop := ∀ b xs, H b = some (.tup xs) → H' b = some (.tup xs)
theorem Tk.trans {H H1 H2 : Hp} (a : Tk H H1) (b : Tk H1 H2) : Tk H H2 := fun x xs h => b x xs (a x xs h)
theorem Same.tk {H H' : Hp} (s : Same H H') : Tk H H' := fun b xs h => s b _ h
theorem tk_lst {H : Hp} {l : Addr} {xs ys : List V} (h : H l = some (.lst xs)) : Tk H (upd H l (.lst ys)) := fun b zs e => by
  rw [upd_ne (ne_of e h (by intro z; cases z))]
  exact e
theorem TieV.tk {H H' : Hp} (k : Tk H H') {v : V} {t : Tie} (h : TieV H v t) : TieV H' v t := by
  obtain ⟨a, rfl, e⟩ := h
  exact ⟨a, rfl, k _ _ e⟩
theorem ties_tk {H H' : Hp} (k : Tk H H') {vs : List V} {ts : List Tie} (h : Paired (TieV H) vs ts) : Paired (TieV H') vs ts := Paired.mono (fun _ _ x => x.tk k) h
theorem WebAt.tk {H H' : Hp} (k : Tk H H') {v : V} {n : Int} {ts : List Tie} (h : WebAt H v n ts) : WebAt H' v n ts := by
  obtain ⟨a, b, vs, rfl, h1, h2, h3⟩ := h
  exact ⟨a, b, vs, rfl, k _ _ h1, k _ _ h2, ties_tk k h3⟩
theorem Kp.tk {d : Addr} {b : Nat} {H H' : Hp} (k : Kp d d H H') (D : Well H d b) : Tk H H' := fun c xs e => by
  obtain ⟨g, st, n, h1, h2⟩ := D
  have ne := ne_of e h1 (by intro z; cases z)
  exact k c _ ne ne e
theorem Kp.mut {d c l : Addr} {H H' : Hp} {o : HO} (k : Kp d c H H') (h : H l = none) : Kp d c H (upd H' l o) := fun b u h1 h2 e => by
  rw [upd_ne (ne_of_none e h)]
  exact k b u h1 h2 e
theorem Paired.at {α β : Type} {F : α → β → Prop} : ∀ {l : List α} {m : List β} {i : Nat} {a : α}, Paired F l m → l[i]? = some a → ∃ b, m[i]? = some b ∧ F a b
  | _, _, _, _, .nil, e => by simp at e
  | _, _, 0, _, .cons r _, e => by simp at e; subst e; exact ⟨_, rfl, r⟩
  | _, _, i + 1, a, .cons _ t, e => by
    obtain ⟨u, h1, h2⟩ := Paired.at (i := i) (a := a) t (by simpa using e)
    exact ⟨u, by simpa using h1, h2⟩
theorem Paired.at' {α β : Type} {F : α → β → Prop} : ∀ {l : List α} {m : List β} {i : Nat} {b : β}, Paired F l m → m[i]? = some b → ∃ a, l[i]? = some a ∧ F a b
  | _, _, _, _, .nil, e => by simp at e
  | _, _, 0, _, .cons r _, e => by simp at e; subst e; exact ⟨_, rfl, r⟩
  | _, _, i + 1, b, .cons _ t, e => by
    obtain ⟨u, h1, h2⟩ := Paired.at' (i := i) (b := b) t (by simpa using e)
    exact ⟨u, by simpa using h1, h2⟩
theorem getI {α : Type} {xs : List α} {i : Int} (h0 : 0 ≤ i) (h1 : i < (xs.length : Int)) : ∃ v, atI xs i = some v ∧ xs[i.toNat]? = some v := by
  obtain ⟨j, rfl⟩ : ∃ j : Nat, i = (j : Int) := ⟨i.toNat, by omega⟩
  have h2 : j < xs.length := by omega
  exact ⟨xs[j], atI_nat (List.getElem?_eq_getElem h2), by rw [Int.toNat_natCast]; exact List.getElem?_eq_getElem h2⟩
theorem other_ne {n a b : Int} (h0 : 0 ≤ a) (h1 : a < n) (g0 : 0 ≤ b) (g1 : b < n - 1) : a ≠ (a + 1 + b) % n := by
  by_cases h : a + 1 + b < n
  · rw [Int.emod_eq_of_lt (by omega) h]
    omega
  · have e : a + 1 + b = (a + 1 + b - n) + 1 * n := by omega
    rw [e, Int.add_mul_emod_self_right, Int.emod_eq_of_lt (by omega) (by omega)]
    omega
theorem pick2 {α : Type} (a b : α) (k : Bool) : atI [a, b] (if k then 1 else 0) = some (if k then b else a) := by
  cases k <;> rfl
def spWeb : Sp := fun vs H Q _ => ∃ (d : Addr) (b : Nat), vs = [.ref d] ∧ Well H d b ∧ b < 2 ^ 50 ∧
  ∀ v n ts H', WebAt H' v n ts → WebOk n ts → Well H' d (b + 1000) → Kp d d H H' → Q v H'
theorem Kp.free {d c l : Addr} {H H' : Hp} (k : Kp d c H H') (h : H' l = none) (h1 : l ≠ d) (h2 : l ≠ c) : H l = none := by
  cases e : H l with
  | none => rfl
  | some o =>
    rw [k l o h1 h2 e] at h
    cases h
theorem atI_of {xs : List V} {i : Int} {v : V} (h0 : 0 ≤ i) (e : xs[i.toNat]? = some v) : atI xs i = some v := by
  obtain ⟨j, rfl⟩ : ∃ j : Nat, i = (j : Int) := ⟨i.toNat, by omega⟩
  exact atI_nat (by rw [Int.toNat_natCast] at e; exact e)
theorem atI_ints {xs : List Int} {i : Int} (h0 : 0 ≤ i) (h1 : i < xs.length) : ∃ x ∈ xs, xs[i.toNat]? = some x ∧ atI (xs.map V.int) i = some (.int x) := by
  have h : i.toNat < xs.length := by omega
  exact ⟨xs[i.toNat], List.getElem_mem h, List.getElem?_eq_getElem h, atI_of h0 (by rw [List.getElem?_map, List.getElem?_eq_getElem h]; rfl)⟩
theorem at0 {α : Type} (x : α) (xs : List α) : atI (x :: xs) 0 = some x := atI_nat (j := 0) rfl
theorem ix0 (n : Nat) : ixN (n + 1) 0 = some 0 := by
  unfold ixN
  rw [if_pos (by decide), if_pos (by omega)]
  rfl
/-! ### a draw -/
theorem ok_l_draw {f : Addr} {fd : FuncData} (F : Fun K "_law_draw" "_law_draw" s_l_draw f fd) : FnOk P w K mg base CX0 1 f fd ["_law_well_here", "_law_most"] spDraw := by
  refine F.ok sc_l_draw (fun vs H Q E h => ?_) (fun cdv A outer s H vs Q E hr h => ?_)
  · obtain ⟨d, b, m, rfl, _⟩ := h
    rfl
  · obtain ⟨d, b, m, rfl, hD, hB, hm, hb, q⟩ := h
    obtain ⟨g, st, n, hd, hn⟩ := hD
    refine ⟨_, (pss_cons (ps_if (pt_cmpR op_gt (pe_ix ix_list (pv 0) pe_int (fun _ _ => rfl)) pe_int (nomark _))
        (pss_cons (ps_set (i := 2) sc_l_draw.nd rfl (.inl rfl) (pe_op op_mod (pe_ix ix_list (pv 0) pe_int (fun _ _ => rfl)) (pv 1)))
        (pss_cons (ps_asg (pe_op op_fdivW (pe_ix ix_list (pv 0) pe_int (fun _ _ => rfl)) (pv 1)) (pg_sub (pv 0) pe_int set_list))
        (pss_one (ps_ret (pv 2)))))
        pss_nil)
      (pss_cons (ps_asg (pe_op op_add (pe_ix ix_list (pv 0) pe_int (fun _ _ => rfl)) pe_int) (pg_sub (pv 0) pe_int set_list))
      (Evl.pss_cut (ps_set (i := 3) sc_l_draw.nd rfl (.inl rfl) (pe_op op_mod (pe_op op_mul (pe_op op_add (pe_ix ix_list (pv 0) pe_int (fun _ _ => rfl)) (pe_op op_mul (pe_op op_mul pe_int (pe_ix ix_list (pv 0) pe_int (fun _ _ => rfl))) (pe_ix ix_list (pv 0) pe_int (fun _ _ => rfl)))) pe_int) pe_int))
      (Evl.pss_cut (ps_set (i := 3) sc_l_draw.nd rfl (.inl rfl) (pe_op op_mod (pe_op op_add (pe_op op_add (pe_op op_mul (pv 3) (pv 3)) (pe_op op_mul pe_int (pv 3))) pe_int) pe_int))
      (pss_one (ps_ret (pe_op op_mod (pe_op op_fdiv (pe_op op_mod (pe_op op_add (pe_op op_mul (pv 3) (pv 3)) pe_int) pe_int) pe_int) (pv 1)))))))), ?_⟩
    refine ⟨.ref d, rfl, d, _, 0, .int g, rfl, rfl, SqL.of hd, rfl, g, 0, rfl, rfl, _, rfl, ite2 (fun _ => ?_) (fun _ => ?_)⟩
    · refine ⟨.ref d, rfl, d, _, 0, .int g, rfl, rfl, SqL.of hd, rfl, .int m, rfl, g, m, rfl, rfl, hm, ?_⟩
      refine ⟨.ref d, rfl, d, _, 0, .int g, rfl, rfl, SqL.of hd, rfl, .int m, rfl, g, m, rfl, rfl, wide_div hm hb (by decide) (by decide), .ref d, rfl, d, _, 0, 0, rfl, rfl, hd, rfl, ?_⟩
      exact ⟨.int (g % m), rfl, q _ _ (mod_rng hm).1 (mod_rng hm).2 ⟨g / m, st, n, by rw [upd_same]; rfl, by omega⟩ Kp.at_d⟩
    · refine ⟨.ref d, rfl, d, _, 2, .int n, rfl, rfl, SqL.of hd, rfl, n, 1, rfl, rfl, .ref d, rfl, d, _, 2, 2, rfl, rfl, hd, rfl, ?_⟩
      have hd2 : (upd H d (.lst ([V.int g, V.int st, V.int n].set 2 (.int (n + 1))))) d = some (.lst [.int g, .int st, .int ((n + 1 : Nat) : Int)]) := by rw [upd_same]; rfl
      have k2 : Kp d d H (upd H d (.lst ([V.int g, V.int st, V.int n].set 2 (.int (n + 1))))) := Kp.at_d
      generalize upd H d (.lst ([V.int g, V.int st, V.int n].set 2 (.int (n + 1)))) = H2 at hd2 k2
      refine ⟨fun σ' H5 => ∃ N : Int, σ' = [some (.ref d), some (.int m), none, some (.int N)] ∧ 0 ≤ N ∧ N < 2147483647 ∧ H5 = H2, ?_, ?_⟩
      · exact ⟨.ref d, rfl, d, _, 1, .int st, rfl, rfl, SqL.of hd2, rfl, .ref d, rfl, d, _, 2, _, rfl, rfl, SqL.of hd2, rfl, 7919, _, rfl, rfl, .inl ⟨by decide, by decide⟩, .ref d, rfl, d, _, 2, _, rfl, rfl, SqL.of hd2, rfl, _, _, rfl, rfl, .inr ⟨by omega, by omega⟩, _, _, rfl, rfl, _, 48271, rfl, rfl, .inr ⟨by decide, by decide⟩, _, 2147483647, rfl, rfl, show (0 : Int) < 2147483647 by decide, _, rfl, (mod_rng (by decide)).1, (mod_rng (by decide)).2, rfl⟩
      rintro σ' H5 ⟨N, rfl, hN0, hN1, rfl⟩
      refine ⟨fun σ' H6 => ∃ M : Int, σ' = [some (.ref d), some (.int m), none, some (.int M)] ∧ 0 ≤ M ∧ M < 2147483629 ∧ H6 = H5, ?_, ?_⟩
      · exact ⟨.int N, rfl, .int N, rfl, N, N, rfl, rfl, .inl ⟨by omega, by omega⟩, .int N, rfl, 69621, N, rfl, rfl, .inl ⟨by decide, by decide⟩, _, _, rfl, rfl, _, 7, rfl, rfl, _, 2147483629, rfl, rfl, show (0 : Int) < 2147483629 by decide, _, rfl, (mod_rng (by decide)).1, (mod_rng (by decide)).2, rfl⟩
      rintro σ' H6 ⟨M, rfl, hM0, hM1, rfl⟩
      refine ⟨.int M, rfl, .int M, rfl, M, M, rfl, rfl, .inl ⟨by omega, by omega⟩, _, 16807, rfl, rfl, _, 2147483587, rfl, rfl, show (0 : Int) < 2147483587 by decide, _, 64, rfl, rfl, ⟨by decide, by decide⟩, .int m, rfl, _, m, rfl, rfl, hm, ?_⟩
      exact q _ _ (mod_rng hm).1 (mod_rng hm).2 ⟨g, st, n + 1, hd2, by omega⟩ k2
/-! ### the well is laid -/
theorem cutV_len (xs : List V) : (cutV xs none (some 63)).length ≤ xs.length := by
  unfold cutV
  rw [List.length_take, List.length_drop]
  omega
def spWell (K : PySem.W.Frag) : Sp := fun vs H Q _ => ∃ (a : Addr) (ns : List Int) (k : Nat), vs = [.ref a, .int k] ∧ SqL K H a (ns.map V.int) ∧ k < 1000 ∧
  ∀ d H', Same H H' → H d = none → Well H' d 3 → Q (.ref d) H'
theorem ok_l_well {f : Addr} {fd : FuncData} (F : Fun K "_law_well" "_law_well" s_l_well f fd) (M : Free mg) : FnOk P w K mg base CX0 1 f fd ["_law_script", "_law_k"] (spWell K) := by
  refine F.ok sc_l_well (fun vs H Q E h => ?_) (fun cdv A outer s H vs Q E hr h => ?_)
  · obtain ⟨a, ns, k, rfl, _⟩ := h
    rfl
  · obtain ⟨a, ns, k, rfl, hS, hk, q⟩ := h
    refine ⟨_, (pss_cons (ps_set (i := 2) sc_l_well.nd rfl (.inl rfl) pe_int)
      (Evl.pss_cut (ps_if (pt_cmpR op_lt (pv 1) (pe_callB call_len_seq (by rfl) M.len PySem.boot_len (pa_cons (pe_slice sl_list (pv 0) po_none (po_some pe_int)) pa_nil)) (nomark _))
        (pss_one (ps_set (i := 2) sc_l_well.nd rfl (.inl rfl) (pe_ix ix_list (pv 0) (pv 1) (fun _ _ => rfl))))
        pss_nil)
      (pss_cons (ps_set (i := 3) sc_l_well.nd rfl (.inl rfl) pe_int)
      (Evl.pss_cut (ps_if (pt_cmpR op_ge (pv 2) (pe_op op_pow pe_int pe_int) (nomark _))
        (pss_one (ps_set (i := 3) sc_l_well.nd rfl (.inl rfl) (pv 2)))
        pss_nil)
      (pss_one (ps_ret (pe_lst (pa_cons (pv 3) (pa_cons (pe_op op_mod (pe_op op_add (pe_op op_add (pv 2) (pe_op op_mul (pe_op op_mul pe_int (pv 1)) (pv 1))) pe_int) pe_int) (pa_cons pe_int pa_nil)))))))))), ?_⟩
    refine ⟨fun σ' H' => ∃ x : Int, σ' = [some (.ref a), some (.int k), some (.int x), none] ∧ Same H H', ?_, ?_⟩
    · refine ⟨.int k, rfl, .ref a, rfl, 63, rfl, a, _, rfl, hS, fun p np => ⟨p, _, rfl, .inl (SqL.of upd_same), k, _, rfl, rfl, _, rfl, ite2 (fun e => ?_) (fun e => ?_)⟩⟩
      · have hlt := of_decide_eq_true e
        have h2 := cutV_len (ns.map V.int)
        rw [List.length_map] at h2
        obtain ⟨x, _, _, hx⟩ := atI_ints (xs := ns) (i := k) (by omega) (by omega)
        exact ⟨.ref a, rfl, .int k, rfl, a, _, k, _, rfl, rfl, (same_new np).seq hS, hx, x, rfl, same_new np⟩
      · exact ⟨0, rfl, same_new np⟩
    rintro σ' H1 ⟨x, rfl, s1⟩
    refine ⟨fun σ' H' => ∃ y : Int, σ' = [some (.ref a), some (.int k), some (.int x), some (.int y)] ∧ H' = H1, ?_, ?_⟩
    · refine ⟨.int x, rfl, 10, 18, rfl, rfl, ⟨by decide, by decide, by decide⟩, x, _, rfl, rfl, _, rfl, ite2 (fun _ => ?_) (fun _ => ?_)⟩
      · exact ⟨.int x, rfl, x, rfl, rfl⟩
      · exact ⟨0, rfl, rfl⟩
    rintro σ' H2 ⟨y, rfl, rfl⟩
    refine ⟨.int y, rfl, .int x, rfl, .int k, rfl, 7919, k, rfl, rfl, .inl ⟨by decide, by decide⟩, .int k, rfl, _, k, rfl, rfl, .inr ⟨by omega, by omega⟩, _, _, rfl, rfl, _, 48271, rfl, rfl, _, 2147483629, rfl, rfl, show (0 : Int) < 2147483629 by decide, by show 3 ≤ sizeLine; decide, fun d nd => ?_⟩
    exact q d _ (s1.trans (same_new nd)) (s1.free nd) ⟨y, _, 3, upd_same, Nat.le_refl _⟩
theorem ok_l_web {f : Addr} {fd : FuncData} (F : Fun K "_law_web" "_law_web" s_l_web f fd) (M : Free mg) (Dd : Df P w K mg base 1 "_law_draw" ["_law_well_here", "_law_most"] spDraw) : FnOk P w K mg base CX0 2 f fd ["_law_well_here"] spWeb := by
  obtain ⟨fD, fdD, GD, gD, kD, bD⟩ := Dd
  refine F.ok sc_l_web (fun vs H Q E h => ?_) (fun cdv A outer s H vs Q E hr h => ?_)
  · obtain ⟨d, b, rfl, _⟩ := h
    rfl
  · obtain ⟨d, b, rfl, hD, hB, q⟩ := h
    refine ⟨_, (Evl.pss_cut (ps_set (i := 1) sc_l_web.nd rfl (.inl rfl) (pe_callTy call_int1 (by rfl) M.int (by decide +kernel) (pa_cons (pe_cmpR op_eq (pe_call GD hr (by rfl) gD kD bD .nil pass0 (pa_cons (pv 0) (pa_cons pe_int pa_nil))) pe_int (nomark _)) pa_nil)))
      (Evl.pss_cut (ps_set (i := 2) sc_l_web.nd rfl (.inl rfl) (pe_op op_add pe_int (pe_call GD hr (by rfl) gD kD bD .nil pass0 (pa_cons (pv 0) (pa_cons (pe_ix ix_list (pe_lst (pa_cons pe_int (pa_cons pe_int pa_nil))) (pv 1) (fun _ _ => rfl)) pa_nil)))))
      (pss_cons (ps_set (i := 3) sc_l_web.nd rfl (.inl rfl) (pe_lst pa_nil))
      (pss_cons (ps_for PassesOwn.never rfl (pi_range1 (by rfl) M.range (pa_cons (pe_op op_mul (pe_call GD hr (by rfl) gD kD bD .nil pass0 (pa_cons (pv 0) (pa_cons (pe_ix ix_list (pe_lst (pa_cons pe_int (pa_cons pe_int pa_nil))) (pv 1) (fun _ _ => rfl)) pa_nil))) (pe_callTy call_int1 (by rfl) M.int (by decide +kernel) (pa_cons (pe_cmpR op_gt (pv 2) pe_int (nomark _)) pa_nil))) pa_nil)) (pg_name (i := 4) sc_l_web.nd rfl (.inl rfl))
        (pss_cons (ps_set (i := 5) sc_l_web.nd rfl (.inl rfl) (pe_call GD hr (by rfl) gD kD bD .nil pass0 (pa_cons (pv 0) (pa_cons (pv 2) pa_nil))))
        (pss_cons (ps_set (i := 6) sc_l_web.nd rfl (.inl rfl) (pe_op op_mod (pe_op op_add (pe_op op_add (pv 5) pe_int) (pe_call GD hr (by rfl) gD kD bD .nil pass0 (pa_cons (pv 0) (pa_cons (pe_op op_sub (pv 2) pe_int) pa_nil)))) (pv 2)))
        (Evl.pss_cut (ps_if (PW.pt (pw_and (pt_cmpR (op_neE hr.units0) (pv 3) (pe_lst pa_nil) (nomark _)) (pw_and1 (pt_cmpR op_eq (pe_call GD hr (by rfl) gD kD bD .nil pass0 (pa_cons (pv 0) (pa_cons pe_int pa_nil))) pe_int (nomark _)))))
          (pss_cons (ps_asg (pe_ix ix_list (pv 3) (pe_call GD hr (by rfl) gD kD bD .nil pass0 (pa_cons (pv 0) (pa_cons (pe_callB call_len_seq (by rfl) M.len PySem.boot_len (pa_cons (pv 3) pa_nil)) pa_nil))) (fun _ _ => rfl)) (pg_tup rfl (pgs_cons (pg_name (i := 5) sc_l_web.nd rfl (.inl rfl)) (pgs_cons (pg_name (i := 6) sc_l_web.nd rfl (.inl rfl)) (pgs_cons (pg_name (i := 7) sc_l_web.nd rfl (.inl rfl)) pgs_nil)))))
          (pss_one (ps_if (pt_cmpR op_eq (pe_call GD hr (by rfl) gD kD bD .nil pass0 (pa_cons (pv 0) (pa_cons pe_int pa_nil))) pe_int (nomark _))
            (pss_one (ps_par (i := 5) (j := 6) rfl sc_l_web.nd rfl rfl (by decide) rfl rfl (pa_cons (pv 6) (pa_cons (pv 5) pa_nil)) rfl))
            pss_nil)))
          pss_nil)
        (pss_one (ps_expr (pe_bm PySem.F.plainAttrs_list PySem.F.slot_list_append PySem.F.type_list_append mt_append (pv 3) (pa_cons (pe_tup (pa_cons (pv 5) (pa_cons (pv 6) (pa_cons (pe_ix ix_list (pe_lst (pa_cons pe_str (pa_cons pe_str pa_nil))) (pe_call GD hr (by rfl) gD kD bD .nil pass0 (pa_cons (pv 0) (pa_cons pe_int pa_nil))) (fun _ _ => rfl)) pa_nil)))) pa_nil))))))))
      (pss_one (ps_ret (pe_tup (pa_cons (pv 2) (pa_cons (pe_callTy call_tuple_of (by rfl) M.tuple (by decide +kernel) (pa_cons (pv 3) pa_nil)) pa_nil))))))))), ?_⟩
    -- great
    refine ⟨fun σ' H' => ∃ g : Bool, σ' = [some (.ref d), some (.int (if g = true then 1 else 0)), none, none, none, none, none, none] ∧ Well H' d (b + 1) ∧ Kp d d H H', ⟨.ref d, rfl, d, b, 8, rfl, hD, by omega, by decide, by decide, fun v1 H1 a1 b1 D1 K1 => ⟨rfl, .inr ⟨_, rfl, _, rfl, D1, K1⟩⟩⟩, ?_⟩
    rintro σ' H1 ⟨g, rfl, D1, K1⟩
    -- many
    refine ⟨fun σ' H' => ∃ n : Int, σ' = [some (.ref d), some (.int (if g = true then 1 else 0)), some (.int n), none, none, none, none, none] ∧ 1 ≤ n ∧ n ≤ 40 ∧ Well H' d (b + 2) ∧ Kp d d H H', ?_, ?_⟩
    · refine ⟨.ref d, rfl, by show 2 ≤ sizeLine; decide, fun p np => ?_⟩
      cases g
      · exact ⟨.int 0, rfl, p, _, 0, .int 6, rfl, rfl, SqL.of upd_same, rfl, d, b + 1, 6, rfl, D1.new np, by omega, by decide, by decide, fun v H2 a b D2 K2 => ⟨1, v, rfl, rfl, _, rfl, by omega, by omega, D2, (K1.trans (Kp.new np)).trans K2⟩⟩
      · exact ⟨.int 1, rfl, p, _, 1, .int 40, rfl, rfl, SqL.of upd_same, rfl, d, b + 1, 40, rfl, D1.new np, by omega, by decide, by decide, fun v H2 a b D2 K2 => ⟨1, v, rfl, rfl, _, rfl, by omega, by omega, D2, (K1.trans (Kp.new np)).trans K2⟩⟩
    clear D1 K1 H1
    rintro σ' H1 ⟨n, rfl, hn1, hn2, D1, K1⟩
    obtain ⟨k, rfl⟩ : ∃ k : Nat, n = k := ⟨n.toNat, by omega⟩
    -- ties = []
    refine ⟨Nat.zero_le _, fun L nL => ?_⟩
    have hLd := D1.ned nL
    have nL0 := K1.free nL hLd hLd
    have s1 : Same H1 (upd H1 L (.lst [])) := same_new nL
    have hL1 : (upd H1 L (.lst [])) L = some (.lst []) := upd_same
    have K1' : Kp d d H (upd H1 L (.lst [])) := K1.trans (Kp.new nL)
    have D1' := D1.same s1
    generalize upd H1 L (.lst []) = H2 at s1 hL1 K1' D1'
    -- how many
    refine ⟨.ref d, rfl, by show 2 ≤ sizeLine; decide, fun p np => ?_⟩
    have cnt : ∃ m : Int, atI [V.int 13, V.int 121] (if g = true then 1 else 0) = some (.int m) ∧ 0 < m ∧ m ≤ 121 := by
      cases g
      · exact ⟨13, rfl, by decide, by decide⟩
      · exact ⟨121, rfl, by decide, by decide⟩
    obtain ⟨m, em, hm0, hm1⟩ := cnt
    refine ⟨_, rfl, p, _, _, _, rfl, rfl, SqL.of upd_same, em, d, b + 2, m, rfl, D1'.new np, by omega, hm0, by omega, fun v H3 a3 b3 D3 K3 => ?_⟩
    refine ⟨.int k, rfl, k, 1, rfl, rfl, .inr ⟨_, rfl, v, _, rfl, rfl, .inl ⟨by omega, by omega⟩, _, rfl, ?_, ?_, ?_⟩⟩
    · by_cases hb : decide ((1 : Int) < k) = true
      · rw [hb]
        show -(2 ^ 62) ≤ v * 1
        omega
      · rw [Bool.not_eq_true] at hb
        rw [hb]
        show -(2 ^ 62) ≤ v * 0
        omega
    · by_cases hb : decide ((1 : Int) < k) = true
      · rw [hb]
        show v * 1 < 2 ^ 62
        omega
      · rw [Bool.not_eq_true] at hb
        rw [hb]
        show v * 0 < 2 ^ 62
        omega
    generalize hN : (v * (if decide ((1 : Int) < k) = true then 1 else 0)).toNat = N
    have hN2 : N ≤ 120 ∧ (0 < N → (1 : Int) < k) := by
      by_cases hb : (1 : Int) < k
      · rw [if_pos (decide_eq_true hb)] at hN
        exact ⟨by omega, fun _ => hb⟩
      · rw [if_neg (by simpa using hb)] at hN
        exact ⟨by omega, fun z => by omega⟩
    have K3' : Kp d d H H3 := (K1'.trans (Kp.new np)).trans K3
    have hL3 : H3 L = some (.lst []) := K3 _ _ hLd hLd (same_new np _ _ hL1)
    refine for_range (lo := 0) (n := N) (fun i σ' H' => ∃ (y4 y5 y6 y7 : Option V) (vs : List V) (ts : List Tie), σ' = [some (.ref d), some (.int (if g = true then 1 else 0)), some (.int k), some (.ref L), y4, y5, y6, y7] ∧ H' L = some (.lst vs) ∧ Paired (TieV H') vs ts ∧ ts.length = i ∧ (∀ t ∈ ts, TieOk k t) ∧ Well H' d (b + 3 + 6 * i) ∧ Kp d d H H') ?_ ?_ ?_
    · exact ⟨none, none, none, none, [], [], rfl, hL3, .nil, rfl, fun t ht => by simp at ht, D3, K3'⟩
    · clear K3' hL3 D3 K3
      rintro i σ' H4 hi ⟨y4, y5, y6, y7, vs, ts, rfl, hL, hP, hlen, hok, D4, K4⟩
      have hn := hN2.2 (by omega)
      refine ⟨.ref d, rfl, .int k, rfl, d, b + 3 + 6 * i, k, rfl, D4, by omega, by omega, by omega, fun v1 H5 a1 b1 D5 K5 => ?_⟩
      refine ⟨.int v1, rfl, v1, 1, rfl, rfl, .ref d, rfl, .int k, rfl, k, 1, rfl, rfl, d, b + 3 + 6 * i + 1, k - 1, rfl, D5, by omega, by omega, by omega, fun v2 H6 a2 b2 D6 K6 => ⟨v1 + 1, v2, rfl, rfl, .int k, rfl, _, k, rfl, rfl, show (0 : Int) < k by omega, ?_⟩⟩
      have hL6 : H6 L = some (.lst vs) := K6 _ _ hLd hLd (K5 _ _ hLd hLd hL)
      have hP6 : Paired (TieV H6) vs ts := ties_tk ((K5.tk D4).trans (K6.tk D5)) hP
      have K46 : Kp d d H H6 := (K4.trans K5).trans K6
      -- as one ahead, either way about
      refine ⟨fun σ' H' => ∃ (y4 y7 : Option V) (t' : Tie), σ' = [some (.ref d), some (.int (if g = true then 1 else 0)), some (.int k), some (.ref L), y4, some (.int t'.one), some (.int t'.other), y7] ∧ TieOk k t' ∧ H' L = some (.lst vs) ∧ Paired (TieV H') vs ts ∧ Well H' d (b + 3 + 6 * i + 5) ∧ Kp d d H H', ?_, ?_⟩
      · have ok1 : TieOk k ⟨v1, (v1 + 1 + v2) % k, false⟩ := ⟨a1, b1, (mod_rng (by omega)).1, (mod_rng (by omega)).2, other_ne a1 b1 a2 b2⟩
        refine ⟨.ref L, rfl, Nat.zero_le _, fun p np => ⟨L, p, vs, rfl, rfl, SqL.of (same_new np _ _ hL6), SqL.of upd_same, _, rfl, ?_⟩⟩
        by_cases hvs : vs = []
        · subst hvs
          exact ⟨_, _, ⟨v1, (v1 + 1 + v2) % k, false⟩, rfl, ok1, same_new np _ _ hL6, ties_tk (Same.tk (same_new np)) hP6, (D6.new np).mono (by omega), K46.trans (Kp.new np)⟩
        · have hpos : 0 < vs.length := List.length_pos_iff.mpr hvs
          have hb : (!vs.isEmpty) = true := by
            cases vs with
            | nil => exact absurd rfl hvs
            | cons z zs => rfl
          rw [hb]
          refine ⟨.ref d, rfl, d, _, 4, rfl, D6.new np, by omega, by decide, by decide, fun v3 H7 a3 b3 D7 K7 => ⟨rfl, _, rfl, ?_⟩⟩
          have hL7 : H7 L = some (.lst vs) := K7 _ _ hLd hLd (same_new np _ _ hL6)
          have hP7 : Paired (TieV H7) vs ts := ties_tk (K7.tk (D6.new np)) (ties_tk (Same.tk (same_new np)) hP6)
          have K17 : Kp d d H H7 := (K46.trans (Kp.new np)).trans K7
          refine ite2 (fun _ => ?_) (fun _ => ?_)
          · have hlv : vs.length = ts.length := Paired.length hP7
            refine ⟨.ref L, rfl, .ref d, rfl, .ref L, rfl, L, vs, rfl, .inl (SqL.of hL7), d, _, vs.length, rfl, D7, by omega, by omega, by omega, fun v4 H8 a4 b4 D8 K8 => ?_⟩
            have hL8 : H8 L = some (.lst vs) := K8 _ _ hLd hLd hL7
            have hP8 : Paired (TieV H8) vs ts := ties_tk (K8.tk D7) hP7
            obtain ⟨v, e1, e2⟩ := getI a4 b4
            obtain ⟨t', e3, a, rfl, e4⟩ := Paired.at hP8 e2
            have okt : TieOk k t' := hok t' (List.mem_of_getElem? e3)
            refine ⟨L, vs, v4, _, rfl, rfl, SqL.of hL8, e1, a, _, rfl, SqT.of e4, rfl, _, _, rfl, _, _, rfl, _, _, rfl, rfl, ?_⟩
            refine ⟨.ref d, rfl, d, _, 2, rfl, D8, by omega, by decide, by decide, fun v5 H9 a5 b5 D9 K9 => ⟨rfl, _, rfl, ?_⟩⟩
            have hL9 : H9 L = some (.lst vs) := K9 _ _ hLd hLd hL8
            have hP9 : Paired (TieV H9) vs ts := ties_tk (K9.tk D8) hP8
            have K19 : Kp d d H H9 := (K17.trans K8).trans K9
            refine ite2 (fun _ => ?_) (fun _ => ?_)
            · exact ⟨.int t'.other, rfl, .int t'.one, rfl, _, _, rfl, _, _, ⟨t'.other, t'.one, false⟩, rfl, ⟨okt.2.2.1, okt.2.2.2.1, okt.1, okt.2.1, Ne.symm okt.2.2.2.2⟩, hL9, hP9, D9, K19⟩
            · exact ⟨_, _, t', rfl, okt, hL9, hP9, D9, K19⟩
          · exact ⟨_, _, ⟨v1, (v1 + 1 + v2) % k, false⟩, rfl, ok1, hL7, hP7, D7.mono (by omega), K17⟩
      clear hL6 hP6 K46 D6 K6 K5 D5
      rintro σ' H6 ⟨y4', y7', t', rfl, okt, hL6, hP6, D6, K6⟩
      -- append
      refine ⟨.ref L, rfl, .inl ⟨rfl, _, SqL.of hL6⟩, .int t'.one, rfl, .int t'.other, rfl, by show 2 ≤ sizeLine; decide, fun p np => ?_⟩
      refine ⟨.ref d, rfl, d, _, 2, rfl, D6.new np, by omega, by decide, by decide, fun v7 H7 a7 b7 D7 K7 => ?_⟩
      have hp : p ≠ d := D6.ned np
      have fo : ∃ fo : Bool, atI [V.str "friend", V.str "foe"] v7 = some (.str (kindS fo)) := by
        have h01 : v7 = 0 ∨ v7 = 1 := by omega
        rcases h01 with e | e <;> subst e
        · exact ⟨false, rfl⟩
        · exact ⟨true, rfl⟩
      obtain ⟨fo, e5⟩ := fo
      refine ⟨p, _, v7, _, rfl, rfl, SqL.of (K7 _ _ hp hp upd_same), e5, by show 3 ≤ sizeLine; decide, fun q2 nq => ?_⟩
      have hL7 := same_new (o := .tup [.int t'.one, .int t'.other, .str (kindS fo)]) nq _ _ (K7 _ _ hLd hLd (same_new np _ _ hL6))
      have hP7 := ties_tk (Same.tk (same_new (o := .tup [.int t'.one, .int t'.other, .str (kindS fo)]) nq)) (ties_tk (K7.tk (D6.new np)) (ties_tk (Same.tk (same_new (o := .lst [.str "friend", .str "foe"]) np)) hP6))
      have hlv : vs.length = ts.length := Paired.length hP6
      refine ⟨L, vs, _, rfl, rfl, hL7, small1000 (by omega), ?_⟩
      refine ⟨_, _, _, _, vs ++ [.ref q2], ts ++ [⟨t'.one, t'.other, fo⟩], rfl, upd_same, Paired.snoc (ties_tk (tk_lst hL7) hP7) ⟨q2, rfl, tk_lst hL7 _ _ upd_same⟩, by rw [List.length_append, hlen]; rfl, fun t2 ht => ?_, ((D7.new nq).mut hLd).mono (by omega), (((K6.trans (Kp.new np)).trans K7).trans (Kp.new nq)).mut nL0⟩
      rcases List.mem_append.mp ht with h | h
      · exact hok t2 h
      · rw [List.mem_singleton.mp h]
        exact okt
    · rintro σ' H4 ⟨y4, y5, y6, y7, vs, ts, rfl, hL, hP, hlen, hok, D4, K4⟩
      refine ⟨.int k, rfl, .ref L, rfl, L, vs, rfl, .inl ⟨SqL.of hL, fun b nb => ⟨by show 2 ≤ sizeLine; decide, fun a na => ?_⟩⟩⟩
      have s2 := (same_new (o := .tup vs) nb).trans (same_new (o := .tup [.int k, .ref b]) na)
      exact q _ k ts _ ⟨a, b, vs, rfl, upd_same, same_new na _ _ upd_same, ties_tk (Same.tk s2) hP⟩ ⟨hn1, hn2, by omega, hok⟩ ((D4.same s2).mono (by omega)) (K4.trans (Same.kp s2))
end
/-! ### tuples cut and put together -/
section
variable {X : Cx}
theorem cutV_whole {xs : List V} {lo hi : Option Int} (h : HT.sIx xs.length 0 lo = 0 ∧ HT.sIx xs.length xs.length hi = xs.length) : cutV xs lo hi = xs := by
  unfold cutV
  rw [h.1, h.2]
  simp
def rSlU : V → Option Int → Option Int → Hp → VK → Prop := fun x lo hi H Q => ∃ a xs, x = .ref a ∧ H a = some (.tup xs) ∧ ∀ r H', Same H H' → H' r = some (.tup (cutV xs lo hi)) → Q (.ref r) H'
theorem sl_tupU : SlR X rSlU := by
  intro pins s σ H x v vl vu lo hi sl Q I rx hs pl pu h
  obtain ⟨a, xs, rfl, hx, q⟩ := h
  refine sl_tupA pins s σ H _ v vl vu lo hi sl Q I rx hs pl pu ⟨a, xs, rfl, SqT.of hx, fun hw => ?_, fun _ p np => ?_⟩
  · exact q a H (Same.refl H) (by rw [cutV_whole hw]; exact hx)
  · exact q p _ (same_new np) upd_same
def rCatU : R2 := fun x y H Q => ∃ a b xs ys, x = .ref a ∧ y = .ref b ∧ H a = some (.tup xs) ∧ H b = some (.tup ys) ∧ xs.length + ys.length ≤ 100000 ∧ ∀ r H', Same H H' → H' r = some (.tup (xs ++ ys)) → Q (.ref r) H'
theorem op_catU : OpR X (binaryOp .Add) rCatU := by
  intro pins s σ H x y v u Q I rx ry h
  obtain ⟨a, b, xs, ys, rfl, rfl, ha, hb, hz, q⟩ := h
  refine op_catA pins s σ H _ _ v u Q I rx ry ⟨a, b, xs, ys, rfl, rfl, SqT.of ha, SqT.of hb, Evl.sz_of hz, fun e => ?_, fun _ e => ?_, fun _ _ p np => ?_⟩
  · subst e
    exact q b H (Same.refl H) hb
  · subst e
    exact q a H (Same.refl H) (by rw [List.append_nil]; exact ha)
  · exact q p _ (same_new np) upd_same
end
/-! ### things of any kind -/
/-- its kind is known -/
def Kn (H : Hp) : V → Prop
  | .non => True
  | .bl _ => True
  | .int _ => True
  | .str _ => True
  | .ref a => (∃ xs, H a = some (.lst xs)) ∨ (∃ xs, H a = some (.tup xs)) ∨ ∃ kvs, H a = some (.dK kvs)
  | _ => False
def isI : V → Bool
  | .int _ => true
  | .bl _ => true
  | _ => false
def isB : V → Bool
  | .bl _ => true
  | _ => false
def isW : V → Bool
  | .int _ => true
  | _ => false
def isT (H : Hp) : V → Bool
  | .ref a => match H a with
    | some (.tup _) => true
    | _ => false
  | _ => false
section
variable {K : PySem.W.Frag} {H : Hp}
theorem kn_int {v : V} (h : Kn H v) : ∃ t, TyX K H v t ∧ PySem.W.kitOne K t (.type "int") = some (isI v) := by
  cases v with
  | non => exact ⟨_, .base .non, kit_ty (r := false) (by decide +kernel)⟩
  | bl b => exact ⟨_, .base (.bl b), kit_ty (r := true) (by decide +kernel)⟩
  | int i => exact ⟨_, .base (.int i), kit_ty (r := true) (by decide +kernel)⟩
  | str x => exact ⟨_, .base (.str x), kit_ty (r := false) (by decide +kernel)⟩
  | ref a =>
    rcases h with ⟨xs, h⟩ | ⟨xs, h⟩ | ⟨xs, h⟩
    · exact ⟨_, .base (.lst h), kit_ty (r := false) (by decide +kernel)⟩
    · exact ⟨_, .base (.tup h), kit_ty (r := false) (by decide +kernel)⟩
    · exact ⟨_, .base (.dK h), kit_ty (r := false) (by decide +kernel)⟩
  | byt b => exact h.elim
  | flt b => exact h.elim
  | ty n => exact h.elim
theorem kn_bool {v : V} (h : Kn H v) : ∃ t, TyX K H v t ∧ PySem.W.kitOne K t (.type "bool") = some (isB v) := by
  cases v with
  | non => exact ⟨_, .base .non, kit_ty (r := false) (by decide +kernel)⟩
  | bl b => exact ⟨_, .base (.bl b), kit_ty (r := true) (by decide +kernel)⟩
  | int i => exact ⟨_, .base (.int i), kit_ty (r := false) (by decide +kernel)⟩
  | str x => exact ⟨_, .base (.str x), kit_ty (r := false) (by decide +kernel)⟩
  | ref a =>
    rcases h with ⟨xs, h⟩ | ⟨xs, h⟩ | ⟨xs, h⟩
    · exact ⟨_, .base (.lst h), kit_ty (r := false) (by decide +kernel)⟩
    · exact ⟨_, .base (.tup h), kit_ty (r := false) (by decide +kernel)⟩
    · exact ⟨_, .base (.dK h), kit_ty (r := false) (by decide +kernel)⟩
  | byt b => exact h.elim
  | flt b => exact h.elim
  | ty n => exact h.elim
theorem kn_tup {v : V} (h : Kn H v) : ∃ t, TyX K H v t ∧ PySem.W.kitOne K t (.type "tuple") = some (isT H v) := by
  cases v with
  | non => exact ⟨_, .base .non, kit_ty (r := false) (by decide +kernel)⟩
  | bl b => exact ⟨_, .base (.bl b), kit_ty (r := false) (by decide +kernel)⟩
  | int i => exact ⟨_, .base (.int i), kit_ty (r := false) (by decide +kernel)⟩
  | str x => exact ⟨_, .base (.str x), kit_ty (r := false) (by decide +kernel)⟩
  | ref a =>
    unfold isT
    rcases h with ⟨xs, h⟩ | ⟨xs, h⟩ | ⟨xs, h⟩
    · exact ⟨_, .base (.lst h), by simp only [h]; exact kit_ty (r := false) (by decide +kernel)⟩
    · exact ⟨_, .base (.tup h), by simp only [h]; exact kit_ty (r := true) (by decide +kernel)⟩
    · exact ⟨_, .base (.dK h), by simp only [h]; exact kit_ty (r := false) (by decide +kernel)⟩
  | byt b => exact h.elim
  | flt b => exact h.elim
  | ty n => exact h.elim
theorem isT_at {v : V} (h : isT H v = true) : ∃ a xs, v = .ref a ∧ H a = some (.tup xs) := by
  cases v with
  | ref a =>
    unfold isT at h
    cases e : H a with
    | none => simp only [e] at h; cases h
    | some o =>
      cases o with
      | tup xs => exact ⟨a, xs, rfl, e⟩
      | _ => simp only [e] at h; cases h
  | _ => cases h
theorem isT_of {a : Addr} {xs : List V} (h : H a = some (.tup xs)) : isT H (.ref a) = true := by
  unfold isT
  simp only [h]
end
section
variable {P : Program} {w : World} {K : PySem.W.Frag} {mg : Str → Option Value} {base : Heap}
def spWhole : Sp := fun vs H Q _ => ∃ v, vs = [v] ∧ Kn H v ∧ Q (.bl (isW v)) H
theorem and_whole {v : V} : (isI v && !isB v) = isW v := by cases v <;> rfl
/-! ### a def whose code object stands at c: its own table is at Pt -/
structure FunC (K : PySem.W.Frag) (x qual : Str) (st : Stmt) (f : Addr) (fd : FuncData) (c : Addr) : Prop where
  ex : ∃ (oc : Value) (od : Option Addr) (kV doc pm : Value) (an : Option Addr) (ct : Value) (osl : Array (Option Value)),
    fd = PySem.W.fnOf x qual (defArgs st) (defBody st) (defScope st) .none kV doc pm an (.ref c) ct ∧ K.lookup f = some ⟨oc, od, .func fd, osl⟩ ∧ PySem.W.codeIn K (.ref c) qual = true
  kp : PySem.W.keepIn K (.ref f) = true
theorem FunC.ok {x qual : Str} {st : Stmt} {f c : Addr} {fd : FuncData} {N ps : List Str} {k : Nat} {sp : Sp} (F : FunC K x qual st f fd c) (S : FnScope N ps (defScope st)) (len : ∀ vs H Q E, sp vs H Q E → vs.length = ps.length)
    (hbody : ∀ (A : Around) (outer : List Env) (s : Shared) (H : Hp) (vs : List V) (Q : VK) (E : XK), Room k (A.deeper (envOfC qual (defScope st) s.heap.objs.size f (.ref c))) → sp vs H Q E →
      ∃ t, PSs (cxOf CX0 P w K mg base N qual (defScope st) f (.ref c) A outer s H E).nox (defBody st) t ∧ t { nx := fun _ H' => Q .non H', rt := Q } (start N vs) H) : FnOk P w K mg base CX0 (k + 1) f fd ps sp := by
  obtain ⟨oc, od, kV, doc, pm, an, ct, osl, rfl, lk, hcd⟩ := F.ex
  refine fn_of lk hcd S len fun A outer s H vs Q E hr hsp => ?_
  obtain ⟨t, h, q⟩ := hbody A outer s H vs Q E hr hsp
  exact ⟨t, h.nox, q⟩
theorem FunC.fn {x qual : Str} {st : Stmt} {f c : Addr} {fd : FuncData} (F : FunC K x qual st f fd c) : Fun K x qual st f fd := by
  obtain ⟨oc, od, kV, doc, pm, an, ct, osl, rfl, lk, hcd⟩ := F.ex
  exact ⟨⟨oc, od, kV, doc, pm, an, _, ct, osl, rfl, lk, hcd⟩, F.kp⟩
end
/-! ### all but the tables is kept -/
structure Kt (Ps : List Addr) (H H' : Hp) : Prop where
  tab : ∀ P ∈ Ps, GxR.TabG H' P
  keep : ∀ b o, b ∉ Ps → H b = some o → H' b = some o
def Tabs (Ps : List Addr) (H : Hp) : Prop := ∀ P ∈ Ps, GxR.TabG H P
theorem Kt.refl {Ps : List Addr} {H : Hp} (h : Tabs Ps H) : Kt Ps H H := ⟨h, fun _ _ _ e => e⟩
theorem Kt.trans {Ps : List Addr} {H H1 H2 : Hp} (a : Kt Ps H H1) (b : Kt Ps H1 H2) : Kt Ps H H2 := ⟨b.tab, fun x o h e => b.keep x o h (a.keep x o h e)⟩
theorem Kt.same {Ps : List Addr} {H H' : Hp} (h : Tabs Ps H) (s : Same H H') : Kt Ps H H' := ⟨fun P hP => by obtain ⟨ps, e, t⟩ := h P hP; exact ⟨ps, s _ _ e, t⟩, fun b o _ e => s b o e⟩
theorem Kt.tabbed {Ps : List Addr} {P : Addr} {H H' : Hp} (h : Tabs Ps H) (hP : P ∈ Ps) (t : GxR.Tabbed P H H') : Kt Ps H H' := by
  refine ⟨fun Q hQ => ?_, fun b o hb e => ?_⟩
  · by_cases e : Q = P
    · rw [e]
      exact t.1
    · obtain ⟨ps, e1, t1⟩ := h Q hQ
      exact ⟨ps, by rw [t.2 Q e]; exact e1, t1⟩
  · rw [t.2 b (fun z => hb (by rw [z]; exact hP))]
    exact e
theorem Tabs.out {Ps : List Addr} {H : Hp} {a : Addr} {o : HO} (t : Tabs Ps H) (h : H a = some o) (no : ∀ ps, o ≠ .tbl ps) : a ∉ Ps := fun z => by
  obtain ⟨ps, e, _⟩ := t a z
  rw [e] at h
  cases h
  exact no _ rfl
theorem Kt.tup {Ps : List Addr} {a : Addr} {H H' : Hp} {xs : List V} (k : Kt Ps H H') (t : Tabs Ps H) (h : H a = some (.tup xs)) : H' a = some (.tup xs) := k.keep a _ (t.out h fun _ z => by cases z) h
theorem Kt.lst {Ps : List Addr} {a : Addr} {H H' : Hp} {xs : List V} (k : Kt Ps H H') (t : Tabs Ps H) (h : H a = some (.lst xs)) : H' a = some (.lst xs) := k.keep a _ (t.out h fun _ z => by cases z) h
theorem Kt.dct {Ps : List Addr} {a : Addr} {H H' : Hp} {xs : List (Key × V)} (k : Kt Ps H H') (t : Tabs Ps H) (h : H a = some (.dK xs)) : H' a = some (.dK xs) := k.keep a _ (t.out h fun _ z => by cases z) h
theorem Kt.tk {Ps : List Addr} {H H' : Hp} (k : Kt Ps H H') (t : Tabs Ps H) : Tk H H' := fun _ _ e => k.tup t e
theorem Kt.kn {Ps : List Addr} {H H' : Hp} (k : Kt Ps H H') (t : Tabs Ps H) {v : V} (h : Kn H v) : Kn H' v := by
  cases v with
  | ref a =>
    rcases h with ⟨xs, h⟩ | ⟨xs, h⟩ | ⟨xs, h⟩
    · exact .inl ⟨xs, k.lst t h⟩
    · exact .inr (.inl ⟨xs, k.tup t h⟩)
    · exact .inr (.inr ⟨xs, k.dct t h⟩)
  | _ => exact h
theorem Kt.well {Ps : List Addr} {d : Addr} {b : Nat} {H H' : Hp} (k : Kt Ps H H') (t : Tabs Ps H) (D : Well H d b) : Well H' d b := by
  obtain ⟨g, st, n, e1, e2⟩ := D
  exact ⟨g, st, n, k.lst t e1, e2⟩
theorem Tabs.kp {Ps : List Addr} {d : Addr} {b : Nat} {H H' : Hp} (t : Tabs Ps H) (k : Kp d d H H') (D : Well H d b) : Tabs Ps H' := fun P hP => by
  obtain ⟨ps, e, x⟩ := t P hP
  obtain ⟨g, st, n, e1, e2⟩ := D
  have ne : P ≠ d := ne_of e e1 (by intro z; cases z)
  exact ⟨ps, k _ _ ne ne e, x⟩
theorem Tabs.same {Ps : List Addr} {H H' : Hp} (t : Tabs Ps H) (s : Same H H') : Tabs Ps H' := (Kt.same t s).tab
theorem Tabs.new {Ps : List Addr} {H : Hp} {a : Addr} {o : HO} (t : Tabs Ps H) (h : H a = none) : Tabs Ps (upd H a o) := t.same (same_new h)
/-! ### x in t of data of any depth -/
def rInT (K : PySem.W.Frag) : R2 := fun x y H Q => ∃ d ds, Dp K H x d ∧ Dp K H y (.tuple ds) ∧ SeqAt.shaped d = true ∧ SeqAt.shaped (.tuple ds) = true ∧ Q (.bl (ds.any fun z => PyData.eqv z d)) H
theorem op_inTup {X : Cx} (hu : X.A.units + 65 < cLine) : OpR X (compareOp .In) (rInT X.K) := by
  intro pins s σ H x y v u Q I rx ry want
  obtain ⟨d, ds, hd, he, sd, se, q⟩ := want
  obtain ⟨as, r1⟩ := Dp.reads I d x v hd rx
  obtain ⟨bs, r2⟩ := Dp.reads I (.tuple ds) y u he ry
  have lay : PyData.canLayAll0 ds = true := by
    have z := SeqAt.canLay_of_shaped se
    rw [PyData.canLay0] at z
    exact z
  have deep := SeqAt.depth_of_shaped sd
  exact SeqAt.in_tuple_reads r2 r1 lay (SeqAt.canLay_of_shaped sd) (by omega) ⟨.bl _, H, I, rfl, q⟩
/-! ### ties, walks, parts: the mathematics -/
def Adj (ts : List Tie) (a b : Int) (foe : Bool) : Prop := ∃ t ∈ ts, t.foe = foe ∧ ((t.one = a ∧ t.other = b) ∨ (t.one = b ∧ t.other = a))
theorem Adj.symm {ts : List Tie} {a b : Int} {k : Bool} (h : Adj ts a b k) : Adj ts b a k := by
  obtain ⟨t, ht, e, h⟩ := h
  exact ⟨t, ht, e, h.symm⟩
/-- a walk with so many foes, even or odd -/
inductive RP (ts : List Tie) (a : Int) : Int → Bool → Prop
  | nil : RP ts a a false
  | step {b c : Int} {p k : Bool} : RP ts a b p → Adj ts b c k → RP ts a c (p ^^ k)
def Rch (ts : List Tie) (a b : Int) : Prop := ∃ p, RP ts a b p
theorem RP.trans {ts : List Tie} {a b c : Int} {p q : Bool} (h : RP ts a b p) (g : RP ts b c q) : RP ts a c (p ^^ q) := by
  induction g with
  | nil =>
    rw [Bool.xor_false]
    exact h
  | step _ k ih =>
    rw [← Bool.xor_assoc]
    exact ih.step k
theorem RP.one {ts : List Tie} {a b : Int} {k : Bool} (h : Adj ts a b k) : RP ts a b k := by
  have q := RP.nil.step h
  rw [Bool.false_xor] at q
  exact q
theorem RP.symm {ts : List Tie} {a b : Int} {p : Bool} (h : RP ts a b p) : RP ts b a p := by
  induction h with
  | nil => exact .nil
  | step _ k ih =>
    have q := (RP.one k.symm).trans ih
    rw [Bool.xor_comm] at q
    exact q
theorem Rch.refl {ts : List Tie} {a : Int} : Rch ts a a := ⟨_, .nil⟩
theorem Rch.symm {ts : List Tie} {a b : Int} (h : Rch ts a b) : Rch ts b a := by
  obtain ⟨p, h⟩ := h
  exact ⟨p, h.symm⟩
theorem Rch.trans {ts : List Tie} {a b c : Int} (h : Rch ts a b) (g : Rch ts b c) : Rch ts a c := by
  obtain ⟨p, h⟩ := h
  obtain ⟨q, g⟩ := g
  exact ⟨_, h.trans g⟩
theorem Rch.adj {ts : List Tie} {a b : Int} {k : Bool} (h : Adj ts a b k) : Rch ts a b := ⟨_, RP.one h⟩
theorem Rch.ind {ts : List Tie} {a b : Int} (C : Int → Prop) (h : Rch ts a b) (h0 : C a) (hs : ∀ x y k, C x → Adj ts x y k → C y) : C b := by
  obtain ⟨p, h⟩ := h
  induction h with
  | nil => exact h0
  | step _ k ih => exact hs _ _ _ ih k
theorem Adj.rng {ts : List Tie} {n a b : Int} {k : Bool} (ok : ∀ t ∈ ts, TieOk n t) (h : Adj ts a b k) : 0 ≤ b ∧ b < n := by
  obtain ⟨t, ht, _, h⟩ := h
  obtain ⟨h1, h2, h3, h4, _⟩ := ok t ht
  rcases h with ⟨e1, e2⟩ | ⟨e1, e2⟩
  · omega
  · omega
theorem Rch.rng {ts : List Tie} {n a b : Int} (ok : ∀ t ∈ ts, TieOk n t) (ha : 0 ≤ a ∧ a < n) (h : Rch ts a b) : 0 ≤ b ∧ b < n := h.ind (fun x => 0 ≤ x ∧ x < n) ha fun _ _ _ _ k => k.rng ok
def leader (ts : List Tie) (s : Int) : Prop := ∀ q, Rch ts s q → s ≤ q
/-- rising lists of the same numbers are one -/
theorem rising_ext : ∀ {xs ys : List Int}, xs.Pairwise (· < ·) → ys.Pairwise (· < ·) → (∀ z, z ∈ xs ↔ z ∈ ys) → xs = ys
  | [], [], _, _, _ => rfl
  | [], y :: ys, _, _, h => by have := (h y).mpr (by simp); simp at this
  | x :: xs, [], _, _, h => by have := (h x).mp (by simp); simp at this
  | x :: xs, y :: ys, hx, hy, h => by
    rw [List.pairwise_cons] at hx hy
    have e : x = y := by
      have h1 := (h x).mp (by simp)
      have h2 := (h y).mpr (by simp)
      rcases List.mem_cons.mp h1 with e | e
      · exact e
      · rcases List.mem_cons.mp h2 with e' | e'
        · exact e'.symm
        · have := hx.1 y e'
          have := hy.1 x e
          omega
    subst e
    rw [rising_ext hx.2 hy.2 fun z => ?_]
    constructor
    · intro hz
      rcases List.mem_cons.mp ((h z).mp (List.mem_cons_of_mem _ hz)) with e | e
      · have := hx.1 z hz
        omega
      · exact e
    · intro hz
      rcases List.mem_cons.mp ((h z).mpr (List.mem_cons_of_mem _ hz)) with e | e
      · have := hy.1 z hz
        omega
      · exact e
/-- 0, 1, .., n - 1 -/
def rng (n : Nat) : List Int := (List.range n).map fun (i : Nat) => (i : Int)
theorem mem_rng {n : Nat} {z : Int} : z ∈ rng n ↔ 0 ≤ z ∧ z < n := by
  unfold rng
  rw [List.mem_map]
  constructor
  · rintro ⟨i, hi, rfl⟩
    have := List.mem_range.mp hi
    omega
  · rintro ⟨h1, h2⟩
    exact ⟨z.toNat, List.mem_range.mpr (by omega), by omega⟩
theorem rng_rising (n : Nat) : (rng n).Pairwise (· < ·) := by
  unfold rng
  rw [List.pairwise_map]
  exact List.pairwise_lt_range.imp (by intro a b h; omega)
theorem rng_succ (n : Nat) : rng (n + 1) = rng n ++ [(n : Int)] := by
  unfold rng
  rw [List.range_succ, List.map_append]
  rfl
theorem rng_length (n : Nat) : (rng n).length = n := by
  unfold rng
  rw [List.length_map, List.length_range]
open Classical in
/-- the part of s -/
noncomputable def partOf (ts : List Tie) (n : Nat) (s : Int) : List Int := (rng n).filter fun p => decide (Rch ts s p)
open Classical in
/-- the parts by their first places, below i -/
noncomputable def partsTo (ts : List Tie) (n i : Nat) : List (List Int) := ((rng i).filter fun s => decide (leader ts s)).map (partOf ts n)
open Classical in
theorem partsTo_succ (ts : List Tie) (n i : Nat) : partsTo ts n (i + 1) = partsTo ts n i ++ (if leader ts i then [partOf ts n i] else []) := by
  unfold partsTo
  rw [rng_succ, List.filter_append, List.map_append]
  congr 1
  by_cases h : leader ts (i : Int)
  · rw [if_pos h, List.filter_cons, if_pos (decide_eq_true h)]
    rfl
  · rw [if_neg h, List.filter_cons, if_neg (by simpa using h)]
    rfl
theorem part_rising (ts : List Tie) (n : Nat) (s : Int) : (partOf ts n s).Pairwise (· < ·) := (rng_rising n).filter _
theorem mem_part {ts : List Tie} {n : Nat} {s z : Int} : z ∈ partOf ts n s ↔ (0 ≤ z ∧ z < n) ∧ Rch ts s z := by
  unfold partOf
  rw [List.mem_filter, mem_rng]
  simp
/-! ### the least place that each comes to, gone over again and again -/
def relax (f : Int → Int) (t : Tie) : Int → Int := fun x => if x = t.one ∨ x = t.other then min (f t.one) (f t.other) else f x
def rounds (ts : List Tie) : Nat → Int → Int
  | 0 => fun x => x
  | r + 1 => ts.foldl relax (rounds ts r)
theorem relax_le (f : Int → Int) (t : Tie) (x : Int) : relax f t x ≤ f x := by
  unfold relax
  split
  · rename_i h
    rcases h with rfl | rfl <;> omega
  · exact Int.le_refl _
theorem fold_le : ∀ (l : List Tie) (f : Int → Int) (x : Int), l.foldl relax f x ≤ f x
  | [], _, _ => Int.le_refl _
  | t :: l, f, x => Int.le_trans (fold_le l (relax f t) x) (relax_le f t x)
theorem fold_tie : ∀ (l : List Tie) (f : Int → Int) (t : Tie), t ∈ l → l.foldl relax f t.one ≤ min (f t.one) (f t.other) ∧ l.foldl relax f t.other ≤ min (f t.one) (f t.other)
  | t' :: l, f, t, h => by
    rcases List.mem_cons.mp h with e | e
    · subst e
      have h1 := fold_le l (relax f t) t.one
      have h2 := fold_le l (relax f t) t.other
      have e1 : relax f t t.one = min (f t.one) (f t.other) := by unfold relax; rw [if_pos (.inl rfl)]
      have e2 : relax f t t.other = min (f t.one) (f t.other) := by unfold relax; rw [if_pos (.inr rfl)]
      rw [e1] at h1
      rw [e2] at h2
      exact ⟨h1, h2⟩
    · have ih := fold_tie l (relax f t') t e
      have h1 := relax_le f t' t.one
      have h2 := relax_le f t' t.other
      exact ⟨Int.le_trans ih.1 (by omega), Int.le_trans ih.2 (by omega)⟩
theorem fold_rch {ts : List Tie} : ∀ (l : List Tie) (f : Int → Int), (∀ t ∈ l, t ∈ ts) → (∀ x, Rch ts x (f x)) → ∀ x, Rch ts x (l.foldl relax f x)
  | [], _, _, h => h
  | t :: l, f, hl, h => fold_rch l (relax f t) (fun t' ht => hl t' (List.mem_cons_of_mem _ ht)) fun x => by
    have ad : Rch ts t.one t.other := Rch.adj (k := t.foe) ⟨t, hl t (by simp), rfl, .inl ⟨rfl, rfl⟩⟩
    unfold relax
    split
    · rename_i hx
      have key : Rch ts x t.one ∧ Rch ts x t.other := by
        rcases hx with e | e <;> subst e
        · exact ⟨Rch.refl, ad⟩
        · exact ⟨ad.symm, Rch.refl⟩
      rcases Int.le_total (f t.one) (f t.other) with q | q
      · rw [Int.min_eq_left q]
        exact key.1.trans (h _)
      · rw [Int.min_eq_right q]
        exact key.2.trans (h _)
    · exact h x
theorem rounds_rch (ts : List Tie) : ∀ (r : Nat) (x : Int), Rch ts x (rounds ts r x)
  | 0, _ => Rch.refl
  | r + 1, x => fold_rch ts _ (fun _ h => h) (rounds_rch ts r) x
theorem filter_lt {p q : Int → Bool} : ∀ {l : List Int}, (∀ x ∈ l, q x = true → p x = true) → (∃ x ∈ l, p x = true ∧ q x = false) → (l.filter q).length < (l.filter p).length
  | [], _, ⟨x, hx, _⟩ => by simp at hx
  | y :: l, hi, ⟨x, hx, hp, hq⟩ => by
    have mono : (l.filter q).length ≤ (l.filter p).length := by
      have hi' : ∀ x ∈ l, q x = true → p x = true := fun x h => hi x (List.mem_cons_of_mem _ h)
      clear hi hx hp hq
      induction l with
      | nil => exact Nat.le_refl _
      | cons z l ih =>
        have ih := ih fun x h => hi' x (List.mem_cons_of_mem _ h)
        rw [List.filter_cons, List.filter_cons]
        have hz := hi' z (by simp)
        cases h1 : q z <;> cases h2 : p z <;> simp_all <;> omega
    rw [List.filter_cons, List.filter_cons]
    rcases List.mem_cons.mp hx with e | e
    · subst e
      rw [hq, hp]
      simp
      omega
    · have ih := filter_lt (l := l) (fun x h => hi x (List.mem_cons_of_mem _ h)) ⟨x, e, hp, hq⟩
      have hy := hi y (by simp)
      cases h1 : q y <;> cases h2 : p y <;> simp_all <;> omega
open Classical in
/-- behind as many rounds as there are places each has its part's least place -/
theorem rounds_least {ts : List Tie} {n : Nat} (ok : ∀ t ∈ ts, TieOk n t) {m p : Int} (hm : leader ts m) (h0 : 0 ≤ m ∧ m < n) (hp : Rch ts m p) : rounds ts n p = m := by
  have ge : ∀ r x, Rch ts m x → m ≤ rounds ts r x := fun r x hx => hm _ (hx.trans (rounds_rch ts r x))
  have mono : ∀ r x, rounds ts (r + 1) x ≤ rounds ts r x := fun r x => fold_le ts _ x
  have atm : ∀ r, rounds ts r m = m := fun r => by
    have h1 := ge r m Rch.refl
    have h2 : rounds ts r m ≤ m := by
      induction r with
      | zero => exact Int.le_refl _
      | succ r ih => exact Int.le_trans (mono r m) (ih (ge r m Rch.refl))
    omega
  have cnt : ∀ r, ((rng n).filter fun x => decide (Rch ts m x ∧ rounds ts r x ≠ m)).length ≤ n - r := fun r => by
    induction r with
    | zero =>
      refine Nat.le_trans (List.length_filter_le _ _) ?_
      rw [rng_length]
      omega
    | succ r ih =>
      by_cases hex : ∃ x, Rch ts m x ∧ rounds ts r x ≠ m
      · obtain ⟨x, hx, hne⟩ := hex
        -- an edge over which it comes
        have edge : ∃ a b k, Rch ts m a ∧ rounds ts r a = m ∧ Adj ts a b k ∧ rounds ts r b ≠ m := by
          by_cases hn : ∃ a b k, Rch ts m a ∧ rounds ts r a = m ∧ Adj ts a b k ∧ rounds ts r b ≠ m
          · exact hn
          · exfalso
            refine hne (hx.ind (fun y => Rch ts m y ∧ rounds ts r y = m) ⟨Rch.refl, atm r⟩ fun a b k ha k' => ⟨ha.1.trans (Rch.adj k'), ?_⟩).2
            by_cases hb : rounds ts r b = m
            · exact hb
            · exact absurd ⟨a, b, k, ha.1, ha.2, k', hb⟩ hn
        obtain ⟨a, b, k, ha, ha2, hab, hb⟩ := edge
        have hmb : Rch ts m b := ha.trans (Rch.adj hab)
        have hb' : rounds ts (r + 1) b = m := by
          have h1 := ge (r + 1) b hmb
          obtain ⟨t, ht, _, h⟩ := hab
          have ft := fold_tie ts (rounds ts r) t ht
          have h2 : rounds ts (r + 1) b ≤ m := by
            rcases h with ⟨e1, e2⟩ | ⟨e1, e2⟩
            · have q := ft.2
              rw [e1, e2, ha2] at q
              exact Int.le_trans q (by omega)
            · have q := ft.1
              rw [e1, e2, ha2] at q
              exact Int.le_trans q (by omega)
          omega
        have lt := filter_lt (p := fun x => decide (Rch ts m x ∧ rounds ts r x ≠ m)) (q := fun x => decide (Rch ts m x ∧ rounds ts (r + 1) x ≠ m)) (l := rng n) (fun x _ hq => by
          have hq := of_decide_eq_true hq
          refine decide_eq_true ⟨hq.1, fun z => hq.2 ?_⟩
          have h1 := ge (r + 1) x hq.1
          have h2 := mono r x
          omega) ⟨b, mem_rng.mpr (hmb.rng ok h0), decide_eq_true ⟨hmb, hb⟩, decide_eq_false fun z => z.2 hb'⟩
        omega
      · have e : (rng n).filter (fun x => decide (Rch ts m x ∧ rounds ts (r + 1) x ≠ m)) = [] := by
          rw [List.filter_eq_nil_iff]
          intro x _ hq
          have hq := of_decide_eq_true hq
          refine hex ⟨x, hq.1, fun z => hq.2 ?_⟩
          have h1 := ge (r + 1) x hq.1
          have h2 := mono r x
          omega
        rw [e]
        exact Nat.zero_le _
  have c := cnt n
  rw [Nat.sub_self] at c
  have e := List.eq_nil_of_length_eq_zero (Nat.le_zero.mp c)
  by_cases hne : rounds ts n p = m
  · exact hne
  · rw [List.filter_eq_nil_iff] at e
    exact absurd (decide_eq_true ⟨hp, hne⟩) (e p (mem_rng.mpr (hp.rng ok h0)))
open Classical in
/-- each has a least place -/
theorem has_leader {ts : List Tie} {n : Nat} (ok : ∀ t ∈ ts, TieOk n t) {p : Int} (h0 : 0 ≤ p ∧ p < n) : ∃ m, leader ts m ∧ (0 ≤ m ∧ m < n) ∧ Rch ts m p := by
  have key : ∀ (k : Nat) (x : Int), x = k → Rch ts p x → ∃ m, leader ts m ∧ (0 ≤ m ∧ m < n) ∧ Rch ts m p := by
    intro k
    induction k using Nat.strongRecOn with
    | ind k ih =>
      intro x hx hr
      have hxr := hr.rng ok h0
      by_cases hl : leader ts x
      · exact ⟨x, hl, hxr, hr.symm⟩
      · have hl' : ∃ q, Rch ts x q ∧ q < x := by
          by_cases h : ∃ q, Rch ts x q ∧ q < x
          · exact h
          · exfalso
            refine hl fun q hq => ?_
            by_cases h' : q < x
            · exact absurd ⟨q, hq, h'⟩ h
            · omega
        obtain ⟨q, hq, hlt⟩ := hl'
        have hqr := hq.rng ok hxr
        exact ih q.toNat (by omega) q (by omega) (hr.trans hq)
  exact key p.toNat p (by omega) Rch.refl
/-! ### tuples that are known to have no dict: their methods -/
def NoD (H : Hp) (p : Addr) (xs : List V) : Prop := ∃ o : Obj, o.dict = none ∧ H p = some (.frz o (.tup xs))
theorem NoD.same {H H' : Hp} {p : Addr} {xs : List V} (h : NoD H p xs) (s : Same H H') : NoD H' p xs := by
  obtain ⟨o, h1, h2⟩ := h
  exact ⟨o, h1, s _ _ h2⟩
theorem NoD.sq {K : PySem.W.Frag} {H : Hp} {p : Addr} {xs : List V} (h : NoD H p xs) : SqT K H p xs := by
  obtain ⟨o, h1, h2⟩ := h
  exact .inl (.inr ⟨o, h2⟩)
theorem NoD.kp {H H' : Hp} {d p : Addr} {b : Nat} {xs : List V} (h : NoD H p xs) (k : Kp d d H H') (D : Well H d b) : NoD H' p xs := by
  obtain ⟨o, h1, h2⟩ := h
  obtain ⟨g, st, n, e1, _⟩ := D
  have ne : p ≠ d := ne_of h2 e1 (by intro z; cases z)
  exact ⟨o, h1, k _ _ ne ne h2⟩
section
variable {X : Cx}
theorem call_tuple_ofZ : CallR X (.type "tuple") (fun xs H Q => ∃ p ys, xs = [.ref p] ∧ SqL X.K H p ys ∧ ∀ l o, o.dict = none → H l = none → Q (.ref l) (upd H l (.frz o (.tup ys)))) := by
  intro pins s σ H xs us Q I r h
  obtain ⟨p, ys, rfl, hq, q⟩ := h
  obtain ⟨u, rfl, rx⟩ := vals1 r
  cases rx
  obtain ⟨its, r', pl, hz⟩ := I.list hq
  have hlen := r'.length
  refine call_tuple_list pl.isList (fun h' kp => ?_) (by simp only [List.size_toArray] <;> omega)
  have I1 : Inv X pins σ H { s with heap := h' } := I.kept (t' := s.toks) kp
  have I2 : Inv X pins σ (upd H h'.objs.size (.frz { cls := .type "tuple", data := .seq its.toArray } (.tup ys))) { s with heap := h'.push { cls := .type "tuple", data := .seq its.toArray } } :=
    I1.laid (t' := s.toks) (fun b o e => Heap.get?_push_of_some _ e) (Nat.le_refl _) (show ObjOk X.prog X.w _ _ _ (.frz { cls := .type "tuple", data := .seq its.toArray } (.tup ys)) from ⟨Heap.get?_push_size _ rfl, hz, its, r', IsTup.new _ _⟩)
  exact ⟨.ref h'.objs.size, _, I2, rfl, q _ _ rfl (I1.hok.fresh (Nat.le_refl _))⟩
def tTupRgZ (te : L2.St → Hp → (Int → Int → Hp → Prop) → Prop) : TE := fun σ H Q => te σ H fun a b H1 => RgOk a b ∧ ∀ q o, o.dict = none → H1 q = none → Q (.ref q) (upd H1 q (.frz o (.tup (rgV a b))))
theorem pe_tupRgZ {e : Expr} {te : L2.St → Hp → (Int → Int → Hp → Prop) → Prop} {p pos : Pos} (hc : X.calm = true) (hg : Gl X "tuple") (hm : X.mg "tuple" = none) (he : PRg X e te) (na : starEach [e] X.env = (false, eval e X.env) :: starEach [] X.env := by rfl) : PE X (.Call (.Name "tuple" p) [e] [] pos) (tTupRgZ te) := by
  refine ⟨fun pins s σ H Q I h => ?_⟩
  refine Call_ (ld_blt I hg hm boot_tuple (PyProof.Rows.callWith_type1 (args_cons (thn (he pins s σ H _ I h) fun x s1 ⟨r, a, b, t, u, v, H1, ex, hr, I1, ok, q⟩ => args_nil ?_) na) na))
  subst ex
  obtain ⟨b1, b2, b3, b4, b5⟩ := ok
  refine call_tuple_range (n := (b - a).toNat) (I1.ok.hd hc) hr (small_one b1 b2 b3 b4) (rangeSize_nat a b) b5 fun h' tk acc hk hi => ?_
  have I2 : Inv X pins σ H1 { s1 with heap := h', toks := tk } := I1.kept hk
  refine ⟨.ref h'.objs.size, upd H1 h'.objs.size (.frz { cls := .type "tuple", data := .seq acc } (.tup (rgV a b))), I2.laid (t' := tk) (fun c o e => Heap.get?_push_of_some _ e) (Nat.le_refl _) (show ObjOk X.prog X.w _ _ _ (.frz { cls := .type "tuple", data := .seq acc } (.tup (rgV a b))) from ⟨Heap.get?_push_size _ rfl, ?_, acc.toList, vals_rg hi, ?_⟩), rfl, q _ _ rfl (I2.hok.fresh (Nat.le_refl _))⟩
  · rw [rgV_length, sizeLine_eq]; omega
  · rw [Array.toArray_toList]; exact IsTup.new _ _
/-- a method of such a tuple -/
def tBMT (r : V → List V → Hp → VK → Prop) (to : TE) (t : TA) : TE := fun σ H Q => to σ H fun x H1 => (∃ p xs, x = .ref p ∧ NoD H1 p xs) ∧ t σ H1 fun xs H2 => r x xs H2 Q
theorem pe_bmT {o e : Expr} {es : List Expr} {to : TE} {t : TA} {name : Str} {apos cpos : Pos} {id : String} {r : V → List V → Hp → VK → Prop} (slot : Slot "tuple" name id) (hty : typeOf (.builtin id) = pure (.type "method_descriptor")) (hm : MtR X id r) (ho : PE X o to) (ha : PA X (e :: es) t)
    (hbase : attributeBase o name X.env (eval o X.env) = eval o X.env := by rfl)
    (hfew : ((backTo cpos (starEach (e :: es) X.env)).all (fun x => !x.1) && (backToKw cpos (keywordEach [] X.env)).all (fun x => x.1.isSome)
      && decide ((e :: es).length + ([] : List Keyword).length + (if ([] : List Keyword).isEmpty then 0 else 1) < 30)) = true := by rfl)
    (hline : (apos.endLine == cpos.line) = true := by rfl) (hs : starEach (e :: es) X.env = (false, eval e X.env) :: starEach es X.env := by rfl) (hplain : (backTo cpos (starEach es X.env)).any (·.1) = false := by rfl) :
    PE X (.Call (.Attribute o name apos) (e :: es) [] cpos) (tBMT r to t) := by
  refine ⟨fun pins s σ H Q I h => ?_⟩
  refine wpAny_Call_method_late hbase hfew hline rfl (thn (ho.run pins s σ H _ I h) fun v s1 ⟨x, H1, I1, r1, ⟨p, xs, ex, ob, od, hp⟩, q1⟩ => ?_)
  subst ex
  obtain rfl : v = Value.ref p := r1
  obtain ⟨e1, hz, its, rv, o2, e2, c2, n2, d2⟩ := (show ObjOk X.prog X.w H1 s1.heap p (.frz ob (.tup xs)) from I1.hok p _ hp)
  rw [e1] at e2
  cases e2
  refine ⟨"tuple", id, PySem.F.plainAttrs_tuple, slot, hty, ⟨ob, e1, c2⟩, fun a ea => ?_, ?_⟩
  · cases ea
    exact ⟨ob, e1, od⟩
  have hA := ha.run cpos pins s1 σ H1 _ I1 q1
  rw [hs] at hA ⊢
  refine Calls.callWith_builtin (by show (false || (backTo cpos (starEach es X.env)).any (·.1)) = false; rw [hplain] <;> rfl) (Calls.evalArgs_plain ?_)
  exact thn hA fun us s2 ⟨vs, H2, I2, r2, q2⟩ => hm pins s2 σ H2 (.ref p) vs (.ref p) us Q I2 rfl r2 q2
def rCntT (K : PySem.W.Frag) : V → List V → Hp → VK → Prop := fun x xs H Q => ∃ (p : Addr) (ns : List Int) (k : Int), x = .ref p ∧ xs = [.int k] ∧ SqT K H p (ns.map V.int) ∧ Q (.int (ns.count k : Nat)) H
theorem mt_tcount : MtR X "tuple.count" (rCntT X.K) := by
  intro pins s σ H x xs v us Q I rx rxs h
  obtain ⟨p, ns, k, rfl, rfl, hs, q⟩ := h
  cases rx
  obtain ⟨u, rfl, ru⟩ := rxs.one
  obtain ⟨t, rfl⟩ := ru
  obtain ⟨its, rv, ⟨⟨cls, dd, data, sl⟩, ho, hc, n, hd⟩, hlen⟩ := I.tuple hs
  simp only at hc hd
  subst hc hd
  have hi := ints_of_vals rv
  refine call_meets PySem.F.slot_tuple_count ⟨_, ho, rfl⟩ PySem.F.entry_tuple_count (PySem.F.args_tuple_count_2 _ _)
    (SeqAt.tuple_countAt p its.toArray n dd sl (.int k t) (eqk k)) ⟨ho, fun y hy => (eqk_gives hi y (by simpa using hy)).at _ _, ?_⟩
  have ec : its.toArray.toList.countP (eqk k) = ns.count k := eqk_count hi
  refine ⟨.int (ns.count k : Nat), H, I.tok _, ⟨s.toks, ?_⟩, q⟩
  show Value.int ((its.toArray.toList.countP (eqk k) : Nat) : Int) s.toks = Value.int ((ns.count k : Nat) : Int) s.toks
  rw [ec]
end
/-! ### zip of two tuples -/
theorem walk_zipT {K : PySem.W.Frag} {a b : Addr} {xs ys : List V} {n : Nat} (hn : n = min xs.length ys.length) : Walk (RZ.ItzT K a b) n (fun H => SqT K H a xs ∧ SqT K H b ys) (YPair (fun i => xs[i]?) (fun i => ys[i]?)) := by
  subst hn
  refine ⟨fun i _ hi q => ?_, fun _ q => ⟨xs, ys, q.1, q.2, by omega⟩, fun i H v H' _ q y => ?_⟩
  · have h1 : i < xs.length := by omega
    have h2 : i < ys.length := by omega
    exact ⟨xs, ys, xs[i], ys[i], q.1, q.2, by simp [h1], by simp [h2]⟩
  · obtain ⟨T, x, z, h1, h2, h3, h4, h5⟩ := y
    exact ⟨T, x, z, h1, h2, h3, h4 xs q.1, h5 ys q.2⟩
/-! ### rows of numbers as data -/
def IntsV (H : Hp) (v : V) (xs : List Int) : Prop := ∃ b, v = .ref b ∧ H b = some (.tup (xs.map V.int))
theorem IntsV.tk {H H' : Hp} (k : Tk H H') {v : V} {xs : List Int} (h : IntsV H v xs) : IntsV H' v xs := by
  obtain ⟨a, rfl, e⟩ := h
  exact ⟨a, rfl, k _ _ e⟩
def intsD (xs : List Int) : PyData := .tuple (xs.map PyData.int)
section
variable {K : PySem.W.Frag} {H : Hp}
theorem dp_ints : ∀ (xs : List Int), DpAll K H (xs.map V.int) (xs.map PyData.int)
  | [] => .nil
  | x :: xs => .cons (.int x) (dp_ints xs)
theorem IntsV.dp {v : V} {xs : List Int} (h : IntsV H v xs) : Dp K H v (intsD xs) := by
  obtain ⟨b, rfl, e⟩ := h
  exact .tup (SqT.of e) (dp_ints xs)
end
theorem lay_ints : ∀ xs : List Int, PyData.canLayAll0 (xs.map PyData.int) = true
  | [] => by simp [PyData.canLayAll0]
  | x :: xs => by simp [PyData.canLayAll0, PyData.canLay0, lay_ints xs]
theorem deep_ints : ∀ xs : List Int, PyData.depthAll (xs.map PyData.int) = 0
  | [] => by simp [PyData.depthAll]
  | x :: xs => by simp [PyData.depthAll, PyData.depth, deep_ints xs]
theorem lay_intsD (xs : List Int) : (intsD xs).canLay0 = true := by
  unfold intsD
  rw [PyData.canLay0]
  exact lay_ints xs
theorem deep_intsD (xs : List Int) : (intsD xs).depth = 1 := by
  unfold intsD
  rw [PyData.depth, deep_ints]
theorem shaped_intsD (xs : List Int) : SeqAt.shaped (intsD xs) = true := by
  unfold SeqAt.shaped
  rw [lay_intsD, deep_intsD]
  rfl
theorem eqv_nil (xs : List Int) : PyData.eqv (intsD xs) (intsD []) = xs.isEmpty := by
  unfold intsD
  rw [PyData.eqv]
  cases xs <;> rfl

/-! ### webs turned -/
theorem Same.mut {H H' : Hp} {a : Addr} {o : HO} (s : Same H H') (h : H a = none) : Same H (upd H' a o) := fun b x e => by
  rw [upd_ne (ne_of_none e h)]
  exact s b x e
theorem Same.seqT {K : PySem.W.Frag} {H H' : Hp} {a : Addr} {xs : List V} (e : Same H H') (h : SqT K H a xs) : SqT K H' a xs := by
  rcases h with (h | ⟨o, h⟩) | h
  · exact .inl (.inl (e _ _ h))
  · exact .inl (.inr ⟨o, e _ _ h⟩)
  · exact .inr h
def inP (ps : List Int) (i : Int) : Bool := decide (i ∈ ps)
def flipT (t : Tie) : Tie := ⟨t.one, t.other, !t.foe⟩
def turnT (ps : List Int) (t : Tie) : Tie := if inP ps t.one = inP ps t.other then t else flipT t
def AmongAt (H : Hp) (D : Addr) (ps : List Int) : Prop := ∃ kvs : List (Key × V), H D = some (.dK kvs) ∧ ∀ k : Int, (valV kvs (Sum.inl k)).isSome = inP ps k
theorem AmongAt.same {H H' : Hp} {D : Addr} {ps : List Int} (h : AmongAt H D ps) (s : Same H H') : AmongAt H' D ps := by
  obtain ⟨kvs, h1, h2⟩ := h
  exact ⟨kvs, s _ _ h1, h2⟩
def spTurnedTie : Sp := fun vs H Q _ => ∃ (v : V) (D : Addr) (t : Tie) (ps : List Int), vs = [v, .ref D] ∧ TieV H v t ∧ AmongAt H D ps ∧ ∀ u H', Same H H' → TieV H' u (turnT ps t) → Q u H'
def spTurned (K : PySem.W.Frag) : Sp := fun vs H Q _ => ∃ (v : V) (p : Addr) (n : Int) (ts : List Tie) (ps : List Int), vs = [v, .ref p] ∧ WebAt H v n ts ∧ ts.length ≤ 120 ∧ SqT K H p (ps.map V.int) ∧ ps.length ≤ 40 ∧
  ∀ u H', Same H H' → WebAt H' u n (ts.map (turnT ps)) → Q u H'
theorem inP_take {ps : List Int} {i : Nat} {x : Int} (h : ps[i]? = some x) (k : Int) : inP (ps.take (i + 1)) k = (decide (k = x) || inP (ps.take i) k) := by
  unfold inP
  rw [List.take_add_one, h]
  by_cases e1 : k = x
  · subst e1
    simp
  · by_cases e2 : k ∈ ps.take i
    · rw [decide_eq_true e2, decide_eq_true (List.mem_append_left _ e2)]
      simp
    · rw [decide_eq_false e2, decide_eq_false e1, decide_eq_false]
      · rfl
      · intro h
        rcases List.mem_append.mp h with h | h
        · exact e2 h
        · simp at h
          exact e1 h
theorem map_take_succ {α β : Type} {f : α → β} {xs : List α} {i : Nat} {x : α} (h : xs[i]? = some x) : (xs.take (i + 1)).map f = (xs.take i).map f ++ [f x] := by
  rw [List.take_add_one, h, List.map_append]
  rfl
/-! ### the law's own turning -/
theorem cnt_in : ∀ {ps : List Int}, ps.Nodup → ∀ k : Int, ps.count k = if inP ps k = true then 1 else 0
  | [], _, k => rfl
  | x :: xs, nd, k => by
    have nd' := List.nodup_cons.mp nd
    rw [List.count_cons, cnt_in nd'.2 k]
    unfold inP
    by_cases e : x = k
    · subst e
      rw [decide_eq_false nd'.1]
      simp
    · by_cases h : k ∈ xs
      · rw [decide_eq_true h, decide_eq_true (List.mem_cons_of_mem _ h)]
        simp [e]
      · rw [decide_eq_false h, decide_eq_false (fun z => (List.mem_cons.mp z).elim (fun z => e z.symm) h)]
        simp [e]
def spAbout : Sp := fun vs H Q _ => ∃ (v : V) (p : Addr) (n : Int) (ts : List Tie) (ps : List Int), vs = [v, .ref p] ∧ WebAt H v n ts ∧ ts.length ≤ 120 ∧ NoD H p (ps.map V.int) ∧ ps.Nodup ∧
  ∀ u H', Same H H' → WebAt H' u n (ts.map (turnT ps)) → Q u H'
theorem flips (b : Bool) : valV (mergeK [] [((Sum.inr "friend" : Key), V.str "foe"), (Sum.inr "foe", V.str "friend")]) (Sum.inr (kindS b)) = some (.str (kindS (!b))) := by
  cases b <;> decide
section
variable {P : Program} {w : World} {K : PySem.W.Frag} {mg : Str → Option Value} {base : Heap}
theorem ok_l_about {f : Addr} {fd : FuncData} (F : Fun K "_law_about" "_law_about" s_l_about f fd) (M : Free mg) : FnOk P w K mg base CX0 1 f fd ["_law_web_here", "_law_places_here"] spAbout := by
  refine F.ok sc_l_about (fun vs H Q E h => ?_) (fun cdv A outer s H vs Q E hr h => ?_)
  · obtain ⟨v, p, n, ts, ps, rfl, _⟩ := h
    rfl
  · obtain ⟨v, p, n, ts, ps, rfl, ⟨wa, wb, us, rfl, hwa, hwb, hp⟩, few, hP, nd, q⟩ := h
    have hu := hu_of hr
    refine ⟨_, (pss_cons (ps_set (i := 2) sc_l_about.nd rfl (.inl rfl) (pe_disp (pps_cons pe_str pe_str (pps_cons pe_str pe_str pps_nil)) (by rfl) (by rfl) (fun z => by cases z) (by decide)))
      (pss_cons (ps_set (i := 3) sc_l_about.nd rfl (.inl rfl) (pe_lst pa_nil))
      (pss_cons (ps_for PassesOwn.never rfl (pi_tup (pe_ix ix_tup (pv 0) pe_int (fun _ _ => rfl))) (pg_name (i := 4) sc_l_about.nd rfl (.inl rfl))
        (Evl.pss_cut (ps_if (pt_cmpR op_eq (pe_op op_add (pe_bmT PySem.F.slot_tuple_count PySem.F.type_tuple_count mt_tcount (pv 1) (pa_cons (pe_ix ix_tup (pv 4) pe_int (fun _ _ => rfl)) pa_nil)) (pe_bmT PySem.F.slot_tuple_count PySem.F.type_tuple_count mt_tcount (pv 1) (pa_cons (pe_ix ix_tup (pv 4) pe_int (fun _ _ => rfl)) pa_nil))) pe_int (nomark _))
          (pss_one (ps_set (i := 4) sc_l_about.nd rfl (.inl rfl) (pe_op op_catU (pe_slice sl_tupU (pv 4) po_none (po_some pe_int)) (pe_tup (pa_cons (pe_dget hu (pv 2) (pe_ix ix_tup (pv 4) pe_int (fun _ _ => rfl)) (fun _ _ => rfl)) pa_nil)))))
          pss_nil)
        (pss_one (ps_expr (pe_bm PySem.F.plainAttrs_list PySem.F.slot_list_append PySem.F.type_list_append mt_append (pv 3) (pa_cons (pv 4) pa_nil))))))
      (pss_one (ps_ret (pe_tup (pa_cons (pe_ix ix_tup (pv 0) pe_int (fun _ _ => rfl)) (pa_cons (pe_callTy call_tuple_of (by rfl) M.tuple (by decide +kernel) (pa_cons (pv 3) pa_nil)) pa_nil)))))))), ?_⟩
    refine fun D nD => ⟨upd_same, [((Sum.inr "friend" : Key), V.str "foe"), (Sum.inr "foe", V.str "friend")], rfl, by decide, ?_⟩
    rw [upd_upd]
    generalize hkv : mergeK [] [((Sum.inr "friend" : Key), V.str "foe"), (Sum.inr "foe", V.str "friend")] = kvs
    have hk : ∀ b, valV kvs (Sum.inr (kindS b)) = some (.str (kindS (!b))) := fun b => by rw [← hkv]; exact flips b
    clear hkv
    have s1 : Same H (upd H D (.dK kvs)) := same_new nD
    have hD : (upd H D (.dK kvs)) D = some (.dK kvs) := upd_same
    generalize upd H D (.dK kvs) = H1 at s1 hD
    refine ⟨Nat.zero_le _, fun Z nZ => ?_⟩
    have s2 : Same H1 (upd H1 Z (.lst [])) := same_new nZ
    have hlen : us.length = ts.length := Paired.length hp
    refine ⟨.ref wa, rfl, wa, _, 1, .ref wb, rfl, rfl, SqT.of (s2 _ _ (s1 _ _ hwa)), rfl, wb, rfl, ⟨_, SqT.of (s2 _ _ (s1 _ _ hwb))⟩, ?_⟩
    refine for_tup (xs := us) (fun i σ' H' => ∃ (y4 : Option V) (vs : List V), σ' = [some (.ref wa), some (.ref p), some (.ref D), some (.ref Z), y4] ∧ H' Z = some (.lst vs) ∧ Paired (TieV H') vs ((ts.take i).map (turnT ps)) ∧ Same H1 H') ⟨none, [], rfl, upd_same, .nil, s2⟩ (fun i σ' H' _ h => by
      obtain ⟨y4, vs, _, _, _, s3⟩ := h
      exact SqT.of (s3 _ _ (s1 _ _ hwb))) ?_ ?_
    · rintro i x σ' H2 ex ⟨y4, vs, rfl, hZ, hv, s3⟩
      obtain ⟨t, et, a, rfl, hx⟩ := Paired.at hp ex
      have hi : i < us.length := (List.getElem?_eq_some_iff.mp ex).1
      have lv : vs.length = i := by
        rw [Paired.length hv, List.length_map, List.length_take]
        omega
      have s12 := s1.trans s3
      have hP2 := hP.same s12
      have hx2 := s12 _ _ hx
      refine ⟨fun σ' H' => ∃ u, σ' = [some (.ref wa), some (.ref p), some (.ref D), some (.ref Z), some u] ∧ TieV H' u (turnT ps t) ∧ Same H2 H', ?_, ?_⟩
      · refine ⟨.ref p, rfl, ⟨p, _, rfl, hP2⟩, .ref a, rfl, a, _, 0, _, rfl, rfl, SqT.of hx2, rfl, p, ps, t.one, rfl, rfl, hP2.sq, .ref p, rfl, ⟨p, _, rfl, hP2⟩, .ref a, rfl, a, _, 1, _, rfl, rfl, SqT.of hx2, rfl, p, ps, t.other, rfl, rfl, hP2.sq, _, _, rfl, rfl, rfl, _, rfl, ?_⟩
        rw [cnt_in nd, cnt_in nd]
        have e0 : ∀ x y : Bool, decide (V.int (((if x = true then 1 else 0 : Nat) : Int) + ((if y = true then 1 else 0 : Nat) : Int)) = V.int 1) = (x != y) := fun x y => by cases x <;> cases y <;> rfl
        rw [e0]
        by_cases e1 : inP ps t.one = inP ps t.other
        · rw [e1]
          have e2 : (inP ps t.other != inP ps t.other) = false := by cases inP ps t.other <;> rfl
          rw [e2]
          refine ⟨.ref a, rfl, ?_, Same.refl H2⟩
          unfold turnT
          rw [if_pos e1]
          exact ⟨a, rfl, hx2⟩
        · have e2 : (inP ps t.one != inP ps t.other) = true := by
            cases h1 : inP ps t.one <;> cases h2 : inP ps t.other <;> first | rfl | exact absurd (h1.trans h2.symm) e1
          rw [e2]
          refine ⟨.ref a, rfl, 2, rfl, a, _, rfl, hx2, fun r H3 s4 hr3 => ?_⟩
          have ec : cutV [V.int t.one, V.int t.other, V.str (kindS t.foe)] none (some 2) = [V.int t.one, V.int t.other] := rfl
          rw [ec] at hr3
          refine ⟨.ref D, rfl, .ref a, rfl, a, _, 2, _, rfl, rfl, SqT.of (s4 _ _ hx2), rfl, D, .str (kindS (!t.foe)), rfl, ?_, by show 1 ≤ sizeLine; decide, fun o no => ?_⟩
          · rw [← hk t.foe]
            exact DGet.k (k := Sum.inr (kindS t.foe)) (s4 _ _ (s3 _ _ hD))
          · refine ⟨r, o, _, _, rfl, rfl, same_new no _ _ hr3, upd_same, by show 3 ≤ 100000; decide, fun r5 H5 s5 h5 => ?_⟩
            refine ⟨_, rfl, ?_, (s4.trans (same_new no)).trans s5⟩
            unfold turnT
            rw [if_neg e1]
            exact ⟨r5, rfl, h5⟩
      · rintro σ' H3 ⟨u, rfl, hu3, s4⟩
        have hZ3 := s4 _ _ hZ
        refine ⟨.ref Z, rfl, .inl ⟨rfl, _, SqL.of hZ3⟩, u, rfl, Z, vs, _, rfl, rfl, hZ3, small1000 (by omega), ?_⟩
        refine ⟨_, vs ++ [u], rfl, upd_same, ?_, Same.mut (s3.trans s4) nZ⟩
        rw [map_take_succ et]
        exact Paired.snoc (ties_tk (tk_lst hZ3) (ties_tk (Same.tk s4) hv)) (hu3.tk (tk_lst hZ3))
    · rintro σ' H2 ⟨y4, vs, rfl, hZ, hv, s3⟩
      rw [hlen, List.take_length] at hv
      refine ⟨.ref wa, rfl, wa, _, 0, .int n, rfl, rfl, SqT.of (s3 _ _ (s1 _ _ hwa)), rfl, .ref Z, rfl, Z, vs, rfl, .inl ⟨SqL.of hZ, fun r nr => ⟨by show 2 ≤ sizeLine; decide, fun o no => ?_⟩⟩⟩
      have s4 : Same H2 _ := (same_new (o := .tup vs) nr).trans (same_new (o := .tup [.int n, .ref r]) no)
      exact q _ _ ((s1.trans s3).trans s4) ⟨o, r, vs, rfl, upd_same, same_new no _ _ upd_same, ties_tk (Same.tk s4) hv⟩
end
/-! ### enumerate of a tuple -/
set_option maxHeartbeats 1000000 in
theorem meets_enumOne {v : Value} {o : Obj} {S : Heap → Prop} (B : Begins v o S) : Meets (Builtin.«enumerate.__new__» ⟨[.type "enumerate", v], []⟩) (fun _ R s => S s.heap ∧
      R (.ok (.ret (.ref (s.heap.push o).objs.size))) { s with heap := (s.heap.push o).push { cls := .type "enumerate", data := .fields #[.none, .bool false, .ref s.heap.objs.size, rawInt 0, .none, .none] } }) :=
  .of_wp fun prog w A R s h => by
    obtain ⟨hp, g, d, tk, os⟩ := s
    obtain ⟨h1, h⟩ := h
    have sub0 := sub_enumerate
    have begun : ∀ {A' : PySem.Around} {E : Value → Shared → Prop} {Q : Value → Shared → Prop}, Q (.ref hp.objs.size) ⟨hp.push o, g, d, tk, os⟩ → wpAny (model prog w) A' (pyIter v) Q E ⟨hp, g, d, tk, os⟩ := fun q => B.iter prog w _ _ ⟨hp, g, d, tk, os⟩ _ h1 q
    wp_walk using begun
    refine wpAny_stack_any fun st => wpAny_pure ?_
    split
    · rename_i c _ _ _ _ _
      cases (c == Value.type "enumerate")
      all_goals
        wp_walk using begun
        exact ⟨_, rfl, h⟩
    · wp_walk using begun
      exact ⟨_, rfl, h⟩
theorem call_enumT {P : Program} {w : World} {A : PySem.Around} {E : Value → Shared → Prop} {s : Shared} {t : Addr} {items : Array Value} {Q : Value → Shared → Prop} (ht : s.heap.IsTuple t items)
    (h : ∀ h', IsEnum h' (s.heap.objs.size + 1) s.heap.objs.size 0 .none → h'.IsTupleIter s.heap.objs.size t 0 → (∀ b o, s.heap.get? b = some o → h'.get? b = some o) → Q (.ref (s.heap.objs.size + 1)) { s with heap := h' }) : wpAny (model P w) A (call (.type "enumerate") [.ref t]) Q E s := by
  refine callType_new PySem.F.called_enumerate (by decide) (PySem.F.typeCall_enumerate_1 _) (PySem.F.newCall_enumerate_1 _) (fun ob => PySem.F.args_object_init_2 ob _) PySem.F.entry_enumerate_new (meets_enumOne (begins_tuple t items)) ⟨ht, ?_⟩
  have size1 := Heap.size_push s.heap { cls := .type "tuple_iterator", data := .fields #[.ref t, .int 0 0] }
  have en := Heap.get?_push_size (s.heap.push { cls := .type "tuple_iterator", data := .fields #[.ref t, .int 0 0] }) (o := { cls := .type "enumerate", data := .fields #[.none, .bool false, .ref s.heap.objs.size, rawInt 0, .none, .none] }) rfl
  rw [size1] at en
  show _ ∧ _
  rw [size1]
  exact ⟨⟨_, en, rfl⟩, h _ en ⟨_, Heap.get?_push_of_some _ (Heap.get?_push_size _ rfl), rfl, rfl⟩ fun b o e => Heap.get?_push_of_some _ (Heap.get?_push_of_some _ e)⟩
/-- the turns: a new pair each, of the number and the part -/
def ItN (K : PySem.W.Frag) (a : Addr) : It where
  go := fun i H => ∃ (xs : List V) (x : V), SqT K H a xs ∧ xs[i]? = some x
  yld := fun i H v H' => ∃ T x, v = .ref T ∧ H T = none ∧ H' = upd H T (.tup [.int (i : Nat), x]) ∧ ∀ xs, SqT K H a xs → xs[i]? = some x
  stop := fun i H => ∃ xs : List V, SqT K H a xs ∧ xs.length ≤ i
theorem turn_enumT {P : Program} {w : World} {K : PySem.W.Frag} {elts : List Expr} {kk : Nat} {tpos : Pos} (a e it : Addr) (n1 : e ≠ it) (n2 : a ≠ it) (n3 : e ≠ a) :
    Turn P w K (.Tuple elts kk tpos) (ItN K a) [e, it] e (fun i h => (∃ old, IsEnum h e it ((i : Nat) : Int) old) ∧ h.IsTupleIter it a i) where
  mem := List.mem_cons_self
  obj := by
    rintro i h ⟨⟨old, he⟩, o, ho, hc, hd⟩ b hb
    rcases List.mem_cons.mp hb with rfl | hb
    · exact ⟨_, he, fun v q => nomatch q⟩
    · rw [List.mem_singleton.mp hb]
      exact ⟨o, ho, fun v q => by rw [hd] at q; cases q⟩
  keep := by
    rintro i h h' ⟨⟨old, he⟩, hit⟩ kp
    exact ⟨⟨old, kp e (by simp) _ he⟩, hit.at fun o q => kp it (by simp) o q⟩
  item := by
    intro X hP hw hK hc i pins s σ H E I hf st hg
    subst hP hw hK
    obtain ⟨⟨old, he⟩, hit⟩ := st
    obtain ⟨xs, x, hq, hx⟩ := hg
    obtain ⟨its, rv, tup, _⟩ := I.tuple hq
    obtain ⟨u, hu, ru⟩ := rv.get hx
    have le := Heap.lt_size he
    have li : it < s.heap.objs.size := let ⟨_, q, _⟩ := hit; Heap.lt_size q
    have lt : i < its.toArray.size := by simpa using (List.getElem?_eq_some_iff.mp hu).1
    refine wpAny_pyNext_enum_itemD (Draws.tuple (A := X.A.in1) (I.ok.hd hc) it a n2 its.toArray) he ⟨hit, tup⟩ lt n1 (by simp [n1, n3]) fun x' h' tk ex out st' new _ kp => ?_
    obtain rfl : u = x' := Option.some.inj (((by simpa using hu) : its.toArray[i]? = some u).symm.trans ex)
    refine ⟨_, rfl, wpAny_letOwnedTupleGo_enum (s := { s with heap := h', toks := tk + 1 }) out fun h2 he2 sb => ?_⟩
    have new2 : h2.get? s.heap.objs.size = some { cls := .type "tuple", data := .seq #[.int i tk, u] } := (sb.2 _ (Nat.ne_of_gt le)).trans new
    have objT : ObjOk X.prog X.w (upd H s.heap.objs.size (.tup [.int (i : Nat), x])) h2 s.heap.objs.size (.tup [.int (i : Nat), x]) := ⟨by show 2 ≤ sizeLine; decide, [.int i tk, u], .cons ⟨_, rfl⟩ (.cons ru .nil), ⟨_, new2, rfl, _, rfl⟩⟩
    have J : Inv X pins σ (upd H s.heap.objs.size (.tup [.int (i : Nat), x])) { s with heap := h2, toks := tk + 1 } := I.turnedNew (ch := [e, it]) (fun b ob hb q => by
      simp only [List.mem_cons, List.not_mem_nil, or_false, not_or] at hb
      exact (sb.2 b hb.1).trans (kp b ob hb.1 hb.2 q)) hf (Nat.le_refl _) objT
    refine ⟨.ref s.heap.objs.size, _, J, rfl, ⟨_, x, rfl, I.hok.fresh (Nat.le_refl _), rfl, fun ys hy => by rw [I.tuple_inj hy hq]; exact hx⟩, ⟨⟨u, ?_⟩, st'.1.at fun o q => (sb.2 it (Ne.symm n1)).trans q⟩, fun b hb => ?_⟩
    · rw [show ((i + 1 : Nat) : Int) = (i : Int) + 1 from by omega]
      exact he2
    · have lb : b < s.heap.objs.size := by
        rcases List.mem_cons.mp hb with rfl | hb
        · exact le
        · rw [List.mem_singleton.mp hb]
          exact li
      rw [upd_ne (Nat.ne_of_lt lb)]
      exact (hf b hb).1
  done := by
    intro X hP hw hK hc i pins s σ H E I hf st hg
    subst hP hw hK
    obtain ⟨⟨old, he⟩, hit⟩ := st
    obtain ⟨xs, hq, hx⟩ := hg
    obtain ⟨its, rv, tup, _⟩ := I.tuple hq
    have hl := rv.length
    obtain ⟨f0, f1, f2, f3, f4, f5⟩ := hf it (by simp)
    have D : Draws X.prog X.w X.A.in1 it [it, a] i (fun _ _ => False) (fun j h => j = i ∧ h.IsTupleIter it a i ∧ h.IsTuple a its.toArray) := {
      live := fun j h z => let ⟨_, ⟨o, q, _⟩, _⟩ := z; ⟨o, q⟩
      frame := fun j h h' z kp => ⟨z.1, z.2.1.at fun o q => kp it (by simp) o q, z.2.2.at fun o q => kp a (by simp) o q⟩
      item := fun j s' Q E' hj z => absurd z.1 (Nat.ne_of_lt hj)
      done := fun s' Q E' z fin => wpAny_nextOf_tuple_end (I.ok.hd hc) z.2.1 z.2.2 (by simp; omega) fin }
    exact wpAny_pyNext_enum_endD D he ⟨rfl, hit, tup⟩ fun h' eb => ⟨rfl, I.turned (t' := s.toks) (fun b o hb q => eb b o hb q) f0 f1 f3 f4 f5⟩
  self := fun A i s Q E st h => let ⟨⟨_, he⟩, _⟩ := st; wpAny_pyIter_enum he h
def iEnT (K : PySem.W.Frag) (ta : TA) : TI := fun σ H R => ta σ H fun vs H1 => ∃ a xs, vs = [.ref a] ∧ SqT K H1 a xs ∧ R (ItN K a) H1
theorem pi_enumT {X : Cx} {e : Expr} {ta : TA} {p pos tpos : Pos} {elts : List Expr} {kk : Nat} (hg : Gl X "enumerate") (hm : X.mg "enumerate" = none) (ha : PA X [e] ta) (hs : starEach [e] X.env = [(false, eval e X.env)] := by rfl) :
    PI X (.Tuple elts kk tpos) (.Call (.Name "enumerate" p) [e] [] pos) (iEnT X.K ta) := by
  refine ⟨fun pins s σ H R I want => Call_ (ld_blt I hg hm boot_enumerate (PyProof.Rows.callWith_type1 (thn (ha.run pos pins s σ H _ I want) fun us s1 got => ?_) hs rfl))⟩
  obtain ⟨vs, H1, J, rel, a, xs, ex, hq, q⟩ := got
  subst ex
  obtain ⟨u, eu, r1⟩ := vals1 rel
  subst eu
  obtain rfl : u = Value.ref a := r1
  obtain ⟨its, rv, tup, _⟩ := J.tuple hq
  have la : a < s1.heap.objs.size := let ⟨_, q, _⟩ := tup; Heap.lt_size q
  refine call_enumT (items := its.toArray) tup fun h' he hit kp => wpAny_pyIter_enum he ?_
  have J2 : Inv X pins σ H1 { s1 with heap := h' } := J.kept (t' := s1.toks) kp
  refine ⟨s1.heap.objs.size + 1, [s1.heap.objs.size + 1, s1.heap.objs.size], _, _, H1, rfl, J2, turn_enumT a (s1.heap.objs.size + 1) s1.heap.objs.size (Nat.succ_ne_self _) (Nat.ne_of_lt la) (Nat.ne_of_gt (Nat.lt_succ_of_lt la)), ⟨⟨.none, he⟩, hit⟩, fun b hb => ?_, q⟩
  have lb : s1.heap.objs.size ≤ b := by
    rcases List.mem_cons.mp hb with rfl | hb
    · exact Nat.le_succ _
    · rw [List.mem_singleton.mp hb]
      exact Nat.le_refl _
  exact J.fpOk lb (J.hok.fresh lb)
theorem walk_enumT {K : PySem.W.Frag} {a : Addr} {xs : List V} : Walk (ItN K a) xs.length (fun H => SqT K H a xs) (YPair (fun i => some (.int (i : Nat))) (fun i => xs[i]?)) :=
  ⟨fun i H hi h => ⟨xs, xs[i], h, List.getElem?_eq_getElem hi⟩, fun H h => ⟨xs, h, Nat.le_refl _⟩, fun i H x H' hi h y => by
    obtain ⟨T, z, e1, e2, e3, e4⟩ := y
    exact ⟨T, _, z, e1, e2, e3, rfl, e4 xs h⟩⟩
/-! ### the law: the least place that each comes to -/
def lf (f : Int → Int) (n : Nat) : List V := (rng n).map fun i => V.int (f i)
theorem lf_len (f : Int → Int) (n : Nat) : (lf f n).length = n := by unfold lf; rw [List.length_map, rng_length]
theorem lf_get? (f : Int → Int) {n j : Nat} (h : j < n) : (lf f n)[j]? = some (.int (f j)) := by
  unfold lf rng
  rw [List.map_map, List.getElem?_map, List.getElem?_range h]
  rfl
theorem lf_at (f : Int → Int) {n : Nat} {i : Int} (h0 : 0 ≤ i) (h1 : i < n) : atI (lf f n) i = some (.int (f i)) := by
  have e : ((i.toNat : Nat) : Int) = i := by omega
  refine atI_of h0 ?_
  rw [lf_get? f (by omega), e]
theorem lf_set (f : Int → Int) {n : Nat} {i y : Int} (h0 : 0 ≤ i) (h1 : i < n) : (lf f n).set i.toNat (.int y) = lf (fun x => if x = i then y else f x) n := by
  refine List.ext_getElem? fun j => ?_
  rw [List.getElem?_set]
  by_cases hj : j < n
  · by_cases e : i.toNat = j
    · rw [if_pos e, if_pos (by rw [lf_len]; omega), lf_get? _ hj, if_pos (by omega)]
    · rw [if_neg e, lf_get? _ hj, lf_get? _ hj, if_neg (by omega)]
  · have e : i.toNat ≠ j := by omega
    rw [if_neg e, List.getElem?_eq_none (by rw [lf_len]; omega), List.getElem?_eq_none (by rw [lf_len]; omega)]
theorem ixN_of {n : Nat} {i : Int} (h0 : 0 ≤ i) (h1 : i < n) : ixN n i = some i.toNat := by
  unfold ixN
  rw [if_pos (by omega), if_pos (by omega)]
/-! ### ties that sides break -/
def sd (ss : List Int) (i : Int) : Int := ss.getD i.toNat 0
def tieAt (ts : List Tie) (i : Int) : Tie := ts.getD i.toNat ⟨0, 0, false⟩
def brk (ss : List Int) (t : Tie) : Bool := decide (sd ss t.one = sd ss t.other) == t.foe
def badTo (ss : List Int) (ts : List Tie) (k : Nat) : List Int := (rng k).filter fun i => brk ss (tieAt ts i)
def bad (ss : List Int) (ts : List Tie) : List Int := badTo ss ts ts.length
theorem badTo_succ (ss : List Int) (ts : List Tie) (k : Nat) : badTo ss ts (k + 1) = badTo ss ts k ++ (if brk ss (tieAt ts k) = true then [(k : Int)] else []) := by
  unfold badTo
  rw [rng_succ, List.filter_append, List.filter_cons]
  rfl
theorem badTo_len (ss : List Int) (ts : List Tie) (k : Nat) : (badTo ss ts k).length ≤ k := by
  unfold badTo
  have := List.length_filter_le (fun i => brk ss (tieAt ts i)) (rng k)
  rw [rng_length] at this
  exact this
theorem atI_sd {ss : List Int} {i : Int} (h0 : 0 ≤ i) (h1 : i < ss.length) : atI (ss.map V.int) i = some (.int (sd ss i)) := by
  have h : i.toNat < ss.length := by omega
  refine atI_of h0 ?_
  unfold sd
  rw [List.getElem?_map, List.getElem?_eq_getElem h, List.getD_eq_getElem?_getD, List.getElem?_eq_getElem h]
  rfl
theorem tieAt_of {ts : List Tie} {i : Nat} {t : Tie} (h : ts[i]? = some t) : tieAt ts i = t := by
  unfold tieAt
  rw [Int.toNat_natCast, List.getD_eq_getElem?_getD, h]
  rfl
theorem eq_brk (x y : Int) (f : Bool) : decide (V.bl (decide (V.int x = V.int y)) = V.bl (decide (V.str (kindS f) = V.str "foe"))) = (decide (x = y) == f) := by
  have e : decide (V.int x = V.int y) = decide (x = y) := by
    by_cases h : x = y
    · rw [decide_eq_true h, decide_eq_true (by rw [h])]
    · rw [decide_eq_false h, decide_eq_false (fun z => h (V.int.inj z))]
  rw [e]
  cases decide (x = y) <;> cases f <;> rfl
theorem ne_brk (x y : Int) (f : Bool) : (!decide (V.bl (!decide (V.int x = V.int y)) = V.bl (decide (V.str (kindS f) = V.str "foe")))) = (decide (x = y) == f) := by
  have e : decide (V.int x = V.int y) = decide (x = y) := by
    by_cases h : x = y
    · rw [decide_eq_true h, decide_eq_true (by rw [h])]
    · rw [decide_eq_false h, decide_eq_false (fun z => h (V.int.inj z))]
  rw [e]
  cases decide (x = y) <;> cases f <;> rfl
def spBreaks : Sp := fun vs H Q _ => ∃ (a b : Addr) (ss : List Int) (t : Tie), vs = [.ref a, .ref b] ∧ H a = some (.tup (ss.map V.int)) ∧ H b = some (.tup [.int t.one, .int t.other, .str (kindS t.foe)]) ∧ TieOk ss.length t ∧ Q (.bl (brk ss t)) H
def spBroken : Sp := fun vs H Q _ => ∃ (v : V) (a : Addr) (n : Int) (ts : List Tie) (ss : List Int), vs = [v, .ref a] ∧ WebAt H v n ts ∧ WebOk n ts ∧ H a = some (.tup (ss.map V.int)) ∧ (ss.length : Int) = n ∧
  ∀ r H', Same H H' → H' r = some (.tup ((bad ss ts).map V.int)) → Q (.ref r) H'
section
variable {P : Program} {w : World} {K : PySem.W.Frag} {mg : Str → Option Value} {base : Heap}
theorem ok_breaks {f : Addr} {fd : FuncData} (F : Fun K "breaks" "breaks" s_breaks f fd) : FnOk P w K mg base CX0 1 f fd ["sides", "tie"] spBreaks := by
  refine F.ok sc_breaks (fun vs H Q E h => ?_) (fun cdv A outer s H vs Q E hr h => ?_)
  · obtain ⟨a, b, ss, t, rfl, _⟩ := h
    rfl
  · obtain ⟨a, b, ss, t, rfl, ha, hb, ok, q⟩ := h
    refine ⟨_, (pss_cons (ps_asg (pv 1) (pg_tup rfl (pgs_cons (pg_name (i := 2) sc_breaks.nd rfl (.inl rfl)) (pgs_cons (pg_name (i := 3) sc_breaks.nd rfl (.inl rfl)) (pgs_cons (pg_name (i := 4) sc_breaks.nd rfl (.inl rfl)) pgs_nil)))))
      (pss_one (ps_ret (pe_cmpR op_eq (pe_cmpR op_eq (pe_ix ix_tup (pv 0) (pv 2) (fun _ _ => rfl)) (pe_ix ix_tup (pv 0) (pv 3) (fun _ _ => rfl)) (nomark _)) (pe_cmpR op_eq (pv 4) pe_str (nomark _)) (nomark _))))), ?_⟩
    refine ⟨.ref b, rfl, b, _, rfl, SqT.of hb, rfl, _, _, rfl, _, _, rfl, _, _, rfl, rfl, ?_⟩
    refine ⟨.ref a, rfl, .int t.one, rfl, a, _, t.one, _, rfl, rfl, SqT.of ha, atI_sd ok.1 ok.2.1, .ref a, rfl, .int t.other, rfl, a, _, t.other, _, rfl, rfl, SqT.of ha, atI_sd ok.2.2.1 ok.2.2.2.1, rfl, .str (kindS t.foe), rfl, rfl, rfl, ?_⟩
    rw [eq_brk]
    exact q
theorem ok_broken_by {f : Addr} {fd : FuncData} (F : Fun K "broken_by" "broken_by" s_broken_by f fd) (M : Free mg) (me : mg "enumerate" = none) (D1 : Df P w K mg base 1 "breaks" ["sides", "tie"] spBreaks) : FnOk P w K mg base CX0 2 f fd ["web", "sides"] spBroken := by
  obtain ⟨f1, fd1, G1, g1, k1, b1⟩ := D1
  refine F.ok sc_broken_by (fun vs H Q E h => ?_) (fun cdv A outer s H vs Q E hr h => ?_)
  · obtain ⟨v, a, n, ts, ss, rfl, _⟩ := h
    rfl
  · obtain ⟨v, a, n, ts, ss, rfl, ⟨wa, wb, us, rfl, hwa, hwb, hp⟩, ok, ha, hl, q⟩ := h
    refine ⟨_, (pss_one (ps_ret (pe_callTy call_tuple_of (by rfl) M.tuple (by decide +kernel) (pa_cons (pe_lc (own := [("number", 2), ("tie", 3)]) (g := gTup K 2 (gCons (gName 2) (gCons (gName 3) gNil))) (te := tVar 2) rfl sc_broken_by.nd (pi_enumT (by rfl) me (pa_cons (pe_ix ix_tup (pv 0) pe_int (fun _ _ => rfl)) pa_nil)) (blkOk_by (N := N_broken_by) (sc := defScope s_broken_by) (own := [("number", 2), ("tie", 3)]) (by decide +kernel)) (fun _ _ _ _ _ => (pg_tup rfl (pgs_cons (pg_name (i := 2) sc_broken_by.nd rfl (.inl rfl)) (pgs_cons (pg_name (i := 3) sc_broken_by.nd rfl (.inl rfl)) pgs_nil)))) (fun _ _ _ _ _ => (pts_one (pt_val (pe_call G1 hr (by rfl) g1 k1 b1 .nil pass0 (pa_cons (pv 1) (pa_cons (pv 3) pa_nil)))))) (fun _ _ _ _ _ => (pv 2))) pa_nil)))), ?_⟩
    have hlen : us.length = ts.length := Paired.length hp
    have few := ok.few
    refine ⟨.ref wa, rfl, wa, _, 1, .ref wb, rfl, rfl, SqT.of hwa, rfl, wb, us, rfl, SqT.of hwb, fun Z nZ => ?_⟩
    refine lc_it (walk_enumT (xs := us)) (fun i H' => H' Z = some (.lst ((badTo ss ts i).map V.int)) ∧ Same H H') ⟨upd_same, same_new nZ⟩ (fun i H' _ h => SqT.of (h.2 _ _ hwb)) ?_ ?_
    · rintro i x H1 H2 hi ⟨hZ, s1⟩ ⟨T, x1, y, rfl, nT, rfl, e1, e2⟩
      obtain rfl : V.int (i : Nat) = x1 := Option.some.inj e1
      obtain ⟨t, et, c, rfl, hc⟩ := Paired.at hp e2
      have okt := ok.ok t (List.mem_of_getElem? et)
      have s2 := s1.trans (same_new (o := .tup [.int (i : Nat), .ref c]) nT)
      have hZ2 := same_new (o := .tup [.int (i : Nat), .ref c]) nT _ _ hZ
      refine ⟨T, _, rfl, SqT.of upd_same, rfl, _, _, rfl, _, _, rfl, rfl, rfl, .ref a, rfl, .ref c, rfl, a, c, ss, t, rfl, s2 _ _ ha, s2 _ _ hc, by rw [hl]; exact okt, _, rfl, ?_⟩
      have et2 := tieAt_of et
      have lb := badTo_len ss ts i
      rw [badTo_succ, et2, List.map_append]
      by_cases hb : brk ss t = true
      · rw [hb]
        exact ⟨.int i, rfl, _, hZ2, by rw [List.length_map]; exact small1000 (by omega), upd_same, fun b o e => by rw [upd_ne (ne_of_none e nZ)]; exact s2 b o e⟩
      · rw [Bool.not_eq_true] at hb
        rw [hb]
        simp only [Bool.false_eq_true, if_false, List.map_nil, List.append_nil]
        exact ⟨hZ2, s2⟩
    · rintro H1 ⟨hZ, s1⟩
      rw [hlen] at hZ
      refine ⟨Z, _, rfl, .inl ⟨SqL.of hZ, fun r nr => ?_⟩⟩
      exact q r _ (s1.trans (same_new nr)) upd_same
end
/-! ### sides put over -/
def Bin (ss : List Int) : Prop := ∀ x ∈ ss, x = 0 ∨ x = 1
theorem sd_get {ss : List Int} {i : Int} (h0 : 0 ≤ i) (h1 : i < ss.length) : ∃ h : i.toNat < ss.length, sd ss i = ss[i.toNat] := by
  have h : i.toNat < ss.length := by omega
  refine ⟨h, ?_⟩
  unfold sd
  rw [List.getD_eq_getElem?_getD, List.getElem?_eq_getElem h]
  rfl
theorem sd_bin {ss : List Int} (b : Bin ss) {i : Int} (h0 : 0 ≤ i) (h1 : i < ss.length) : sd ss i = 0 ∨ sd ss i = 1 := by
  obtain ⟨h, e⟩ := sd_get h0 h1
  rw [e]
  exact b _ (List.getElem_mem h)
def over (ss : List Int) : List Int := ss.map fun s => 1 - s
theorem sd_over {ss : List Int} {i : Int} (h0 : 0 ≤ i) (h1 : i < ss.length) : sd (over ss) i = 1 - sd ss i := by
  obtain ⟨h, e⟩ := sd_get h0 h1
  obtain ⟨h', e'⟩ := sd_get (ss := over ss) h0 (by unfold over; rw [List.length_map]; exact h1)
  rw [e, e']
  simp [over]
theorem brk_over {ss : List Int} {t : Tie} (ok : TieOk ss.length t) : brk (over ss) t = brk ss t := by
  unfold brk
  rw [sd_over ok.1 ok.2.1, sd_over ok.2.2.1 ok.2.2.2.1]
  congr 1
  rw [decide_eq_decide]
  omega
theorem tieAt_mem {ts : List Tie} {i : Int} (h : i ∈ rng ts.length) : tieAt ts i ∈ ts := by
  rw [mem_rng] at h
  have h' : i.toNat < ts.length := by omega
  unfold tieAt
  rw [List.getD_eq_getElem?_getD, List.getElem?_eq_getElem h']
  exact List.getElem_mem h'
theorem bad_over {ss : List Int} {ts : List Tie} (ok : ∀ t ∈ ts, TieOk ss.length t) : bad (over ss) ts = bad ss ts := by
  unfold bad badTo
  exact List.filter_congr fun i hi => brk_over (ok _ (tieAt_mem hi))
def moved (ss : List Int) (p : Int) : List Int := ss.set p.toNat (1 - sd ss p)
theorem moved_len (ss : List Int) (p : Int) : (moved ss p).length = ss.length := by unfold moved; rw [List.length_set]
theorem sd_moved {ss : List Int} {p i : Int} (p0 : 0 ≤ p) (p1 : p < ss.length) (h0 : 0 ≤ i) (h1 : i < ss.length) : sd (moved ss p) i = if i = p then 1 - sd ss p else sd ss i := by
  show (ss.set p.toNat (1 - sd ss p)).getD i.toNat 0 = _
  rw [List.getD_eq_getElem?_getD, List.getElem?_set]
  by_cases hp : i = p
  · subst hp
    rw [if_pos rfl, if_pos (by omega), if_pos rfl]
    rfl
  · rw [if_neg (by omega), if_neg hp]
    unfold sd
    rw [List.getD_eq_getElem?_getD]
theorem brk_moved {ss : List Int} (b : Bin ss) {t : Tie} {p : Int} (ok : TieOk ss.length t) (p0 : 0 ≤ p) (p1 : p < ss.length) : brk (moved ss p) t = (brk ss t != (t.one == p || t.other == p)) := by
  unfold brk
  rw [sd_moved p0 p1 ok.1 ok.2.1, sd_moved p0 p1 ok.2.2.1 ok.2.2.2.1]
  have b1 := sd_bin b ok.1 ok.2.1
  have b2 := sd_bin b ok.2.2.1 ok.2.2.2.1
  have ne := ok.2.2.2.2
  by_cases h1 : t.one = p
  · have h2 : t.other ≠ p := fun z => ne (h1.trans z.symm)
    rw [if_pos h1, if_neg h2, ← h1]
    have e1 : (t.one == t.one) = true := by simp
    rw [e1, Bool.true_or]
    rcases b1 with e | e <;> rcases b2 with e' | e' <;> rw [e, e'] <;> cases t.foe <;> rfl
  · rw [if_neg h1]
    have e1 : (t.one == p) = false := by simp [h1]
    rw [e1, Bool.false_or]
    by_cases h2 : t.other = p
    · rw [if_pos h2, ← h2]
      have e2 : (t.other == t.other) = true := by simp
      rw [e2]
      rcases b1 with e | e <;> rcases b2 with e' | e' <;> rw [e, e'] <;> cases t.foe <;> rfl
    · rw [if_neg h2]
      have e2 : (t.other == p) = false := by simp [h2]
      rw [e2, Bool.bne_false]
theorem moved_cut {ss : List Int} {p : Int} (p0 : 0 ≤ p) (p1 : p < ss.length) : cutV (ss.map V.int) none (some p) ++ [V.int (1 - sd ss p)] ++ cutV (ss.map V.int) (some (p + 1)) none = (moved ss p).map V.int := by
  obtain ⟨k, rfl⟩ : ∃ k : Nat, p = k := ⟨p.toNat, by omega⟩
  have hk : k < ss.length := by omega
  have e1 : cutV (ss.map V.int) none (some (k : Int)) = (ss.take k).map V.int := by
    unfold cutV
    rw [HT.sIx_none, HT.sIx_nat, List.length_map, Nat.min_eq_left (by omega), List.drop_zero, List.map_take]
    rfl
  have e2 : cutV (ss.map V.int) (some ((k : Int) + 1)) none = (ss.drop (k + 1)).map V.int := by
    unfold cutV
    rw [HT.sIx_none, show ((k : Int) + 1) = ((k + 1 : Nat) : Int) from by omega, HT.sIx_nat, List.length_map, Nat.min_eq_left (by omega), List.map_drop]
    exact List.take_of_length_le (by rw [List.length_drop, List.length_map]; omega)
  rw [e1, e2]
  unfold moved
  rw [Int.toNat_natCast, List.set_eq_take_append_cons_drop, if_pos hk]
  simp
theorem in_bad {ss : List Int} {ts : List Tie} {i : Nat} (hi : i < ts.length) : inV (.int (i : Int)) ((bad ss ts).map V.int) = brk ss (tieAt ts i) := by
  rw [Bool.eq_iff_iff]
  unfold inV
  rw [List.any_map, List.any_eq_true]
  unfold bad badTo
  constructor
  · rintro ⟨x, hx, e⟩
    have e' : (x == (i : Int)) = true := e
    rw [beq_iff_eq] at e'
    subst e'
    exact (List.mem_filter.mp hx).2
  · intro h
    exact ⟨i, List.mem_filter.mpr ⟨mem_rng.mpr (by omega), h⟩, by show ((i : Int) == (i : Int)) = true; simp⟩
theorem flat_ints (xs : List Int) : (xs.map V.int).all flatV = true := by
  rw [List.all_map, List.all_eq_true]
  intro x _
  rfl
theorem in_two (p x y : Int) : inV (.int p) [.int x, .int y] = (x == p || y == p) := by
  show ((x == p) || ((y == p) || false)) = _
  rw [Bool.or_false]
theorem ne_bl (a b : Bool) : (!decide (V.bl a = V.bl b)) = (a != b) := by cases a <;> cases b <;> rfl
/-! ### drawn places -/
theorem in_ints (ps : List Int) (i : Int) : inV (.int i) (ps.map V.int) = inP ps i := by
  rw [Bool.eq_iff_iff]
  unfold inV inP
  rw [List.any_map, List.any_eq_true, decide_eq_true_iff]
  constructor
  · rintro ⟨x, hx, e⟩
    have e' : (x == i) = true := e
    rw [beq_iff_eq] at e'
    subst e'
    exact hx
  · intro h
    exact ⟨i, h, by show (i == i) = true; simp⟩
theorem rgV_rng (m : Int) : rgV 0 m = (rng m.toNat).map V.int := by
  unfold rgV rng
  rw [List.map_map]
  have e : (m - 0).toNat = m.toNat := by omega
  rw [e]
  refine List.map_congr_left fun i _ => ?_
  show V.int (0 + (i : Nat)) = V.int (i : Nat)
  rw [Int.zero_add]
theorem rising_nodup {xs : List Int} (h : xs.Pairwise (· < ·)) : xs.Nodup := h.imp fun h => by omega
theorem filter_rng_succ (p : Int → Bool) (i : Nat) : ((rng (i + 1)).filter p).map V.int = ((rng i).filter p).map V.int ++ (if p i = true then [V.int i] else []) := by
  rw [rng_succ, List.filter_append, List.map_append, List.filter_cons]
  by_cases h : p i = true
  · rw [if_pos h, if_pos h]
    rfl
  · rw [if_neg h, if_neg h]
    rfl
theorem filter_rng_len (p : Int → Bool) (i : Nat) : ((rng i).filter p).length ≤ i := by
  have := List.length_filter_le p (rng i)
  rw [rng_length] at this
  exact this
def spPlaces : Sp := fun vs H Q _ => ∃ (d : Addr) (b : Nat) (n : Int), vs = [.ref d, .int n] ∧ Well H d b ∧ b < 2 ^ 50 ∧ 1 ≤ n ∧ n ≤ 40 ∧
  ∀ (p : Addr) (ps : List Int) (H' : Hp), NoD H' p (ps.map V.int) → ps.Pairwise (· < ·) → (∀ x ∈ ps, 0 ≤ x ∧ x < n) → ps.length ≤ 40 → Well H' d (b + 100) → Kp d d H H' → Q (.ref p) H'
section
variable {P : Program} {w : World} {K : PySem.W.Frag} {mg : Str → Option Value} {base : Heap}
theorem ok_l_places {f : Addr} {fd : FuncData} (F : Fun K "_law_places" "_law_places" s_l_places f fd) (M : Free mg) (Dd : Df P w K mg base 1 "_law_draw" ["_law_well_here", "_law_most"] spDraw) : FnOk P w K mg base CX0 2 f fd ["_law_well_here", "_law_many"] spPlaces := by
  obtain ⟨fD, fdD, GD, gD, kD, bD⟩ := Dd
  refine F.ok sc_l_places (fun vs H Q E h => ?_) (fun cdv A outer s H vs Q E hr h => ?_)
  · obtain ⟨d, b, n, rfl, _⟩ := h
    rfl
  · obtain ⟨d, b, n, rfl, hD, hB, hn1, hn2, q⟩ := h
    obtain ⟨k, rfl⟩ : ∃ k : Nat, n = k := ⟨n.toNat, by omega⟩
    refine ⟨_, (pss_cons (ps_set (i := 2) sc_l_places.nd rfl (.inl rfl) (pe_call GD hr (by rfl) gD kD bD .nil pass0 (pa_cons (pv 0) (pa_cons pe_int pa_nil))))
      (pss_cons (ps_if (pt_cmpR op_lt (pv 2) pe_int (nomark _))
        (pss_one (ps_ret (pe_tupRgZ rfl (by rfl) M.tuple (prg_1 (by rfl) M.range (pe_op op_mul (pv 1) (pv 2))))))
        pss_nil)
      (pss_one (ps_ret (pe_callTy call_tuple_ofZ (by rfl) M.tuple (by decide +kernel) (pa_cons (pe_lc (own := [("_law_place", 3)]) (g := gName 3) (te := tVar 3) rfl sc_l_places.nd (pi_range1 (by rfl) M.range (pa_cons (pv 1) pa_nil)) (blkOk_by (N := N_l_places) (sc := defScope s_l_places) (own := [("_law_place", 3)]) (by decide +kernel)) (fun _ _ _ _ _ => (pg_name (i := 3) sc_l_places.nd rfl (.inl rfl))) (fun _ _ _ _ _ => (pts_one (pt_cmpR op_eq (pe_call GD hr (by rfl) gD kD bD .nil pass0 (pa_cons (pv 0) (pa_cons pe_int pa_nil))) pe_int (nomark _)))) (fun _ _ _ _ _ => (pv 3))) pa_nil)))))), ?_⟩
    refine ⟨.ref d, rfl, d, b, 8, rfl, hD, by omega, by decide, by decide, fun v H1 a1 b1 D1 K1 => ?_⟩
    refine ⟨.int v, rfl, v, 2, rfl, rfl, _, rfl, ite2 (fun e => ?_) (fun e => ?_)⟩
    · have hv := of_decide_eq_true e
      have hm : 0 ≤ (k : Int) * v ∧ (k : Int) * v ≤ k := by
        have h01 : v = 0 ∨ v = 1 := by omega
        rcases h01 with e | e <;> subst e <;> omega
      refine ⟨.int k, rfl, .int v, rfl, k, v, rfl, rfl, .inl ⟨by omega, by omega⟩, _, rfl, RgOk.of_le (by omega) (by omega) (by omega) (by omega), fun r o od nr => ?_⟩
      refine q r (rng ((k : Int) * v).toNat) _ ⟨o, od, by rw [upd_same, rgV_rng]⟩ (rng_rising _) (fun x hx => ?_) (by rw [rng_length]; omega) ((D1.new nr).mono (by omega)) (K1.trans (Kp.new nr))
      have := mem_rng.mp hx
      omega
    · refine ⟨.int k, rfl, k, rfl, by omega, by omega, fun Z nZ => ?_⟩
      rw [Int.toNat_natCast]
      have hZd := D1.ned nZ
      have nZ0 := K1.free nZ hZd hZd
      refine lc_range (lo := 0) (n := k) (fun i H' => ∃ ps : List Int, H' Z = some (.lst (ps.map V.int)) ∧ ps.length ≤ i ∧ ps.Pairwise (· < ·) ∧ (∀ x ∈ ps, 0 ≤ x ∧ x < i) ∧ Well H' d (b + 1 + i) ∧ Kp d d H H') ⟨[], upd_same, Nat.le_refl _, .nil, fun x hx => by simp at hx, D1.new nZ, K1.trans (Kp.new nZ)⟩ ?_ ?_
      · rintro i H2 hi ⟨ps, h2, l2, r2, o2, D2, K2⟩
        refine ⟨rfl, .ref d, rfl, d, _, 2, rfl, D2, by omega, by decide, by decide, fun y H3 a3 b3 D3 K3 => ⟨rfl, _, rfl, ?_⟩⟩
        have h3 := K3 _ _ hZd hZd h2
        refine ite2 (fun _ => ?_) (fun _ => ?_)
        · rw [show (0 : Int) + (i : Nat) = i from by omega]
          refine ⟨.int i, rfl, _, h3, by rw [List.length_map]; exact small1000 (by omega), ps ++ [(i : Int)], by rw [upd_same, List.map_append]; rfl, by rw [List.length_append]; show ps.length + 1 ≤ i + 1; omega, ?_, fun x hx => ?_, (D3.mut hZd).mono (by omega), (K2.trans K3).mut nZ0⟩
          · rw [List.pairwise_append]
            refine ⟨r2, by simp, fun x hx y hy => ?_⟩
            rw [List.mem_singleton.mp hy]
            exact (o2 x hx).2
          · rcases List.mem_append.mp hx with h | h
            · have := o2 x h
              omega
            · rw [List.mem_singleton.mp h]
              omega
        · exact ⟨ps, h3, by omega, r2, fun x hx => by have := o2 x hx; omega, D3.mono (by omega), K2.trans K3⟩
      · rintro H2 ⟨ps, h2, l2, r2, o2, D2, K2⟩
        refine ⟨Z, _, rfl, SqL.of h2, fun r o od nr => ?_⟩
        exact q r ps _ ⟨o, od, upd_same⟩ r2 o2 (by omega) ((D2.new nr).mono (by omega)) (K2.trans (Kp.new nr))
end
/-! ### weights of ties -/
def gW (ws : List Int) (x : Int) : Int := ws.getD x.toNat 0
def spWeightOf : Sp := fun vs H Q _ => (∃ i, vs = [.non, .int i] ∧ Q (.int 1) H) ∨ ∃ a xs i v, vs = [.ref a, .int i] ∧ H a = some (.tup xs) ∧ atI xs i = some v ∧ Q v H
/-- whose weights: of None each 1 -/
def Wts (H : Hp) (v : V) (ns : List Int) (g : Int → Int) : Prop := (v = .non ∧ ∀ x ∈ ns, g x = 1) ∨ ∃ a ws, v = .ref a ∧ H a = some (.tup (ws.map V.int)) ∧ ∀ x ∈ ns, (0 ≤ x ∧ x < (ws.length : Int)) ∧ g x = gW ws x
theorem Wts.tk {H H' : Hp} (k : Tk H H') {v : V} {ns : List Int} {g : Int → Int} (h : Wts H v ns g) : Wts H' v ns g := by
  rcases h with h | ⟨a, ws, e, h1, h2⟩
  · exact .inl h
  · exact .inr ⟨a, ws, e, k _ _ h1, h2⟩
def sumW (g : Int → Int) (ns : List Int) : Int := (ns.map g).sum
theorem sumW_snoc (g : Int → Int) (ns : List Int) (x : Int) : sumW g (ns ++ [x]) = sumW g ns + g x := by
  unfold sumW
  rw [List.map_append, List.sum_append]
  simp
theorem sumW_one {g : Int → Int} : ∀ {ns : List Int}, (∀ x ∈ ns, g x = 1) → sumW g ns = ns.length
  | [], _ => rfl
  | n :: ns, h => by
    have ih := sumW_one (ns := ns) fun x hx => h x (List.mem_cons_of_mem _ hx)
    unfold sumW at ih ⊢
    rw [List.map_cons, List.sum_cons, ih, h n (by simp), List.length_cons]
    omega
theorem gW_at {ws : List Int} {x : Int} (h0 : 0 ≤ x) (h1 : x < (ws.length : Int)) : atI (ws.map V.int) x = some (.int (gW ws x)) := by
  have h : x.toNat < ws.length := by omega
  refine atI_of h0 ?_
  unfold gW
  rw [List.getElem?_map, List.getD_eq_getElem?_getD, List.getElem?_eq_getElem h]
  rfl
section
variable {P : Program} {w : World} {K : PySem.W.Frag} {mg : Str → Option Value} {base : Heap}
theorem ok_weight_of {f : Addr} {fd : FuncData} (F : Fun K "weight_of" "weight_of" s_weight_of f fd) : FnOk P w K mg base CX0 1 f fd ["weights", "tie"] spWeightOf := by
  refine F.ok sc_weight_of (fun vs H Q E h => ?_) (fun cdv A outer s H vs Q E hr h => ?_)
  · rcases h with ⟨i, rfl, _⟩ | ⟨a, xs, i, v, rfl, _⟩ <;> rfl
  · refine ⟨_, (pss_cons (ps_if (pt_cmpR op_isN (pv 0) pe_non (nomark _))
        (pss_one (ps_ret pe_int))
        pss_nil)
      (pss_one (ps_ret (pe_ix ix_tup (pv 0) (pv 1) (fun _ _ => rfl))))), ?_⟩
    rcases h with ⟨i, rfl, q⟩ | ⟨a, xs, i, v, rfl, h1, h2, q⟩
    · exact ⟨.non, rfl, rfl, _, rfl, q⟩
    · exact ⟨.ref a, rfl, rfl, _, rfl, .ref a, rfl, .int i, rfl, a, xs, i, v, rfl, rfl, SqT.of h1, h2, q⟩
end
/-! ### own rules: max of a tuple, t.index, o[i] of a list by values, t * k -/
section
variable {X : Cx}
def rMaxT (K : PySem.W.Frag) : List V → Hp → VK → Prop := fun vs H Q => ∃ (a : Addr) (ns : List Int), vs = [V.ref a] ∧ SqT K H a (ns.map V.int) ∧ 0 < ns.length ∧ ∀ m, m ∈ ns → (∀ y, y ∈ ns → y ≤ m) → Q (.int m) H
theorem foldl_max : ∀ (ns : List Int) (n : Int), ns.foldl max n ∈ n :: ns ∧ ∀ y ∈ n :: ns, y ≤ ns.foldl max n
  | [], n => ⟨by simp, fun y hy => by simp at hy; rw [hy]; exact Int.le_refl _⟩
  | x :: xs, n => by
    obtain ⟨h1, h2⟩ := foldl_max xs (max n x)
    rw [List.foldl_cons]
    refine ⟨?_, fun y hy => ?_⟩
    · rcases List.mem_cons.mp h1 with e | e
      · rw [e]
        by_cases h : n ≤ x
        · rw [Int.max_eq_right h]; simp
        · rw [Int.max_eq_left (by omega)]; simp
      · exact List.mem_cons_of_mem _ (List.mem_cons_of_mem _ e)
    · have h3 := h2 (max n x) (by simp)
      rcases List.mem_cons.mp hy with e | e
      · subst e
        omega
      · rcases List.mem_cons.mp e with e | e
        · subst e
          omega
        · exact h2 y (List.mem_cons_of_mem _ e)
theorem dp_intsX {K : PySem.W.Frag} {H : Hp} : ∀ (xs : List Int), DpAll K H (xs.map V.int) (xs.map PyData.int)
  | [] => .nil
  | x :: xs => .cons (.int x) (dp_intsX xs)
theorem depth_intsX : ∀ xs : List Int, PyData.depthAll (xs.map PyData.int) = 0
  | [] => by simp [PyData.depthAll]
  | x :: xs => by simp [PyData.depthAll, PyData.depth, depth_intsX xs]
theorem cr_maxT (hc : X.calm = true) (hu : X.A.units + 65 < cLine) : CallR X (.builtin "max") (rMaxT X.K) := by
  intro pins s σ H vs us Q I r h
  obtain ⟨a, ns, rfl, hs, hne, q⟩ := h
  obtain ⟨its, rv, hl, _⟩ := I.tuple hs
  rw [Vals.ref1 r]
  obtain ⟨as, rs⟩ := Dp.readsAll I _ _ _ (dp_intsX ns) rv
  cases ns with
  | nil => exact absurd hne (by simp)
  | cons n ns =>
    have al : PySem.W.AlikeAll ((n :: ns).map PyData.int) := by
      refine ⟨fun x hx y hy => ?_, fun x hx => ?_⟩
      · obtain ⟨i, _, rfl⟩ := List.mem_map.mp hx
        obtain ⟨j, _, rfl⟩ := List.mem_map.mp hy
        rfl
      · obtain ⟨i, _, rfl⟩ := List.mem_map.mp hx
        intro z
        cases z
    refine PySem.W.max_tuple_data (x := .int n) (xs := ns.map PyData.int) (as := as) (I.ok.hd hc) hl (by simpa using rs) (by simpa using al) (by have := depth_intsX (n :: ns); rw [List.map_cons] at this; rw [this]; omega) fun i v h' tk bs _ rd hk => ?_
    rw [PySem.W.maxD_ints] at rd
    cases rd with
    | int _ t =>
      have f := foldl_max ns n
      exact ⟨.int _, H, I.kept hk, ⟨_, rfl⟩, q _ f.1 f.2⟩
def rGetL (K : PySem.W.Frag) : V → V → Hp → VK → Prop := fun x y H Q => ∃ p xs i v, x = .ref p ∧ y = .int i ∧ SqL K H p xs ∧ 0 ≤ i ∧ atI xs i = some v ∧ Q v H
theorem get_list : PGet X (rGetL X.K) := by
  intro pins s σ H x y v u Q I rx ry h
  obtain ⟨p, xs, i, z, rfl, rfl, hq, h0, he, q⟩ := h
  cases rx
  obtain ⟨t, rfl⟩ := ry
  obtain ⟨its, r, pl, hz⟩ := I.list hq
  obtain ⟨j, h1, h2, h3, h4, h5⟩ := atI_get he
  obtain ⟨w, ew, rw'⟩ := r.get h2
  have hl := r.length
  have hn := line63
  have hj : i.toNat = j := by
    rw [seqIndex_of h0 h5] at h1
    exact Option.some.inj h1
  exact wpAny_getItem_list pl.isList h0 (by omega) (by rw [hj]; simpa using ew) ⟨z, H, I, rw', q⟩
theorem tuple_mul1 (l : Addr) (items : Array Value) (n : Nat) (dd : Option Addr) (sl : Array (Option Value)) (u : Tok) :
    Meets (Builtin.«tuple.__mul__» ⟨[.ref l, .int 1 u], []⟩) (fun _ R s => s.heap.get? l = some { cls := .type "tuple", dict := dd, data := .seq items n, slots := sl } ∧ R (.ok (.ret (Value.ref l))) s) :=
  .of_wp fun prog w A R s h => by
    obtain ⟨hp, g, d, tk, os⟩ := s
    obtain ⟨hl, h⟩ := h
    have f1 := AutoSeq1.idx_int
    have c1 : (items.isEmpty || (1 : Int) == 1) = true := by cases items.isEmpty <;> rfl
    wp_walk using wpAny_loadPart' hl
    repeat (first
      | (refine wpAny_ite_true (decide_eq_true c1) ?_; wp_walk using wpAny_loadPart' hl))
    exact ⟨_, rfl, h⟩
def rRepU : R2 := fun x y H Q => ∃ l k xs, x = .ref l ∧ y = .int k ∧ H l = some (.tup xs) ∧ xs ≠ [] ∧ 1 ≤ k ∧ k ≤ 1000 ∧ xs.length ≤ 1000 ∧ ∀ r H', Same H H' → H' r = some (.tup (List.replicate k.toNat xs).flatten) → Q (.ref r) H'
theorem op_repU : OpR X (binaryOp .Mult) rRepU := by
  intro pins s σ H x y v u Q I rx ry h
  obtain ⟨l, k, xs, rfl, rfl, hT, hne, h1, h2, hz, q⟩ := h
  by_cases hk : k = 1
  · subst hk
    cases rx
    obtain ⟨t, rfl⟩ := ry
    obtain ⟨its, r, ⟨⟨cls, dd, data, sl⟩, ho, hc, n, hd⟩, hs⟩ := I.tuple (SqT.of (K := X.K) hT)
    simp only at hc hd
    subst hc hd
    refine wpAny_binaryOp_repeat_ref (T := "tuple") (U := "int") (by decide) ⟨_, ho, rfl⟩ (fun s' => typeIs_int s' 1 t) noFill_tuple_mul F.fills_int_mul F.slot_int_rmul repeat_tuple F.slot_int_index.lookup
      (call_meets F.slot_int_rmul (typeIs_int s 1 t) F.entry_int_rmul (F.args_int_rmul_2 _ _) (int_rmul_tuple 1 t l its.toArray n dd sl)
        ⟨ho, rfl, ⟨_, ho, rfl⟩, call_meets F.slot_tuple_mul ⟨_, ho, rfl⟩ F.entry_tuple_mul (F.args_tuple_mul_2 _ _) (tuple_mul1 l its.toArray n dd sl t) ⟨ho, ?_⟩⟩)
    exact ⟨.ref l, H, I, rfl, q l H (Same.refl H) (by simpa using hT)⟩
  · exact op_repT pins s σ H _ _ v u Q I rx ry ⟨l, k, xs, rfl, rfl, SqT.of hT, hne, by omega, h2, hz, fun p np => q p _ (same_new np) upd_same⟩
def rIdxT (K : PySem.W.Frag) : V → List V → Hp → VK → Prop := fun x xs H Q => ∃ (p : Addr) (ns : List Int) (k : Int) (j : Nat), x = .ref p ∧ xs = [.int k] ∧ SqT K H p (ns.map V.int) ∧ ns[j]? = some k ∧ (∀ m, m < j → ns[m]? ≠ some k) ∧ Q (.int (j : Nat)) H
theorem mt_tidx : MtR X "tuple.index" (rIdxT X.K) := by
  intro pins s σ H x xs v us Q I rx rs h
  obtain ⟨p, ns, z, j, rfl, rfl, hq, hy, hno, q⟩ := h
  cases rx
  obtain ⟨u, rfl, t, rfl⟩ := vals1 rs
  obtain ⟨its, r, pl, hz⟩ := I.tuple hq
  obtain ⟨⟨cls, dd, dt, sl⟩, ho, hc, n, hd⟩ := pl
  simp only at hc hd
  subst hc
  subst hd
  have hl : its.toArray.size = ns.length := by rw [List.size_toArray, ← r.length, List.length_map]
  have hj : j < its.toArray.size := by rw [hl]; exact (List.getElem?_eq_some_iff.mp hy).1
  have hi := ints_of_vals r
  have at' : ∀ (m : Nat) (hm : m < its.toArray.size), ∃ y t', ns[m]? = some y ∧ its.toArray[m] = Value.int y t' := fun m hm => by
    have hm' : m < ns.length := by rw [← hl]; exact hm
    obtain ⟨w, hw, t', hw'⟩ := r.get (i := m) (x := .int ns[m]) (by simp [hm'])
    refine ⟨ns[m], t', List.getElem?_eq_getElem hm', ?_⟩
    have e := (List.getElem?_eq_some_iff.mp hw).2
    rw [← hw', ← e]
    simp
  have ek : ∀ (y : Int) (t' : Tok), eqk z (Value.int y t') = decide (y = z) := fun y t' => by
    show (y == z) = _
    by_cases h : y = z
    · rw [decide_eq_true h, h]; simp
    · rw [decide_eq_false h]; simp [h]
  refine call_meets PySem.F.slot_tuple_index ⟨_, ho, rfl⟩ PySem.F.entry_tuple_index (PySem.F.args_tuple_index_2 _ _) (TI.tuple_indexAt p its.toArray n dd sl (.int z t) (eqk z) j hj ?_ ?_)
    ⟨ho, fun y hy => (eqk_gives hi y (by simpa using hy)).at _ _, ⟨.int (j : Nat), H, I.tok _, ⟨_, rfl⟩, q⟩⟩
  · obtain ⟨y, t', h1, h2⟩ := at' j hj
    rw [hy] at h1
    cases h1
    rw [h2, ek]
    exact decide_eq_true rfl
  · intro m hm hmj
    obtain ⟨y, t', h1, h2⟩ := at' m hm
    rw [h2, ek]
    refine decide_eq_false fun e => hno m hmj ?_
    rw [h1, e]
end
def spMend (Ps : List Addr) : Sp := fun vs H Q _ => ∃ (v : V) (ta : Addr) (ns : List Int) (g : Int → Int), vs = [v, .ref ta] ∧ H ta = some (.tup (ns.map V.int)) ∧ Wts H v ns g ∧ Tabs Ps H ∧ ∀ H', Kt Ps H H' → Q (.int (sumW g ns)) H'
section
variable {P : Program} {w : World} {K : PySem.W.Frag} {mg : Str → Option Value} {base : Heap}
theorem ok_mend_weight {f c Pt : Addr} {fd : FuncData} {Ps : List Addr} (F : FunC K "mend_weight" "mend_weight" s_mend_weight f fd c) (TB : GxR.TabB base mg c Pt) (hPt : Pt ∈ Ps) (M : Free mg) (D1 : Df P w K mg base 1 "weight_of" ["weights", "tie"] spWeightOf) : FnOk P w K mg base CX0 3 f fd ["weights", "ties"] (spMend Ps) := by
  obtain ⟨f1, fd1, G1, g1, k1, b1⟩ := D1
  refine F.ok sc_mend_weight (fun vs H Q E h => ?_) (fun A outer s H vs Q E hr h => ?_)
  · obtain ⟨v, ta, ns, g, rfl, _⟩ := h
    rfl
  · obtain ⟨v, ta, ns, g, rfl, hta, hw, hT, q⟩ := h
    refine ⟨_, (pss_one (ps_ret (pe_sum (k := 1) (own := [("tie", 2)]) (g := gName 2) hr TB rfl rfl sc_mend_weight.nd (by rfl) M.sum (pi_tup (pv 1)) (blkOk_by (N := N_mend_weight) (sc := defScope s_mend_weight) (own := [("tie", 2)]) (by decide +kernel)) ⟨rfl, by decide +kernel, by decide +kernel⟩ (show (".0" : Str) ∉ N_mend_weight by decide +kernel)
        (fun _ _ _ _ _ _ _ => pg_name (i := 2) sc_mend_weight.nd rfl (.inl rfl)) (fun _ _ _ _ _ _ _ hr' => pe_call G1 hr' (by rfl) g1 k1 b1 .nil pass0 (pa_cons (pv 0) (pa_cons (pv 2) pa_nil)))))), ?_⟩
    refine ⟨.ref ta, rfl, ta, rfl, ⟨_, SqT.of hta⟩, hT Pt hPt, fun i m z H' => i + m = ns.length ∧ Kt Ps H H' ∧ z = sumW g (ns.take i), fun H2 hH2 => ⟨ns.length, by omega, Kt.tabbed hT hPt hH2, rfl⟩, fun i m z H' hw' => ?_⟩
    obtain ⟨em, kt, rfl⟩ := hw'
    have hta' := kt.tup hT hta
    by_cases hi : i < ns.length
    · refine .inr ⟨⟨_, _, SqT.of hta', List.getElem?_eq_getElem (by rw [List.length_map]; exact hi)⟩, fun y H3 => Kt Ps H H3 ∧ y = g ns[i], fun y H3 n3 => ⟨m - 1, by omega, by omega, n3.1, ?_⟩, fun x H3 hy => ?_⟩
      · rw [n3.2, ← sumW_snoc, List.take_add_one, List.getElem?_eq_getElem hi]
        rfl
      · obtain ⟨rfl, fy⟩ := hy
        have ex : (ns.map V.int)[i]? = some x := fy _ (SqT.of hta')
        rw [List.getElem?_map, List.getElem?_eq_getElem hi] at ex
        cases ex
        refine ⟨rfl, v, rfl, .int ns[i], rfl, ?_⟩
        rcases hw with ⟨rfl, h1⟩ | ⟨wa, ws, rfl, h1, h2⟩
        · exact .inl ⟨_, rfl, 1, rfl, kt, (h1 _ (List.getElem_mem hi)).symm⟩
        · obtain ⟨⟨b0, b1⟩, e⟩ := h2 _ (List.getElem_mem hi)
          exact .inr ⟨wa, _, _, _, rfl, kt.tup hT h1, gW_at b0 b1, _, rfl, kt, e.symm⟩
    · refine .inl ⟨⟨_, SqT.of hta', by rw [List.length_map]; omega⟩, ?_⟩
      rw [List.take_of_length_le (by omega)]
      exact q _ kt
end
/-! ### leans: the mathematics -/
def has (t : Tie) (p : Int) : Bool := t.one == p || t.other == p
def con (g : Int → Int) (ss : List Int) (ts : List Tie) (i p : Int) : Int := if has (tieAt ts i) p = true then (if brk ss (tieAt ts i) = true then g i else - g i) else 0
def leanTo (g : Int → Int) (ss : List Int) (ts : List Tie) : Nat → Int → Int
  | 0, _ => 0
  | k + 1, p => leanTo g ss ts k p + con g ss ts k p
def lean (g : Int → Int) (ss : List Int) (ts : List Tie) (p : Int) : Int := leanTo g ss ts ts.length p
def badW (g : Int → Int) (ss : List Int) (ts : List Tie) (k : Nat) : Int := sumW g (badTo ss ts k)
theorem badW_succ (g : Int → Int) (ss : List Int) (ts : List Tie) (k : Nat) : badW g ss ts (k + 1) = badW g ss ts k + (if brk ss (tieAt ts k) = true then g k else 0) := by
  unfold badW
  rw [badTo_succ]
  by_cases h : brk ss (tieAt ts k) = true
  · rw [if_pos h, if_pos h, sumW_snoc]
  · rw [if_neg h, if_neg h, List.append_nil]
    omega
theorem tieAt_ok {ts : List Tie} {n : Int} (ok : ∀ t ∈ ts, TieOk n t) {k : Nat} (h : k < ts.length) : TieOk n (tieAt ts k) := ok _ (tieAt_mem (mem_rng.mpr (by omega)))
theorem badW_moved {g : Int → Int} {ss : List Int} {ts : List Tie} {p : Int} (b : Bin ss) (ok : ∀ t ∈ ts, TieOk ss.length t) (p0 : 0 ≤ p) (p1 : p < ss.length) : ∀ k, k ≤ ts.length → badW g (moved ss p) ts k = badW g ss ts k - leanTo g ss ts k p
  | 0, _ => rfl
  | k + 1, h => by
    rw [badW_succ, badW_succ, badW_moved b ok p0 p1 k (by omega), brk_moved b (tieAt_ok ok (by omega)) p0 p1]
    show _ = _ - (leanTo g ss ts k p + con g ss ts k p)
    unfold con
    change _ + (if (brk ss (tieAt ts k) != has (tieAt ts k) p) = true then g k else 0) = _
    cases brk ss (tieAt ts k) <;> cases has (tieAt ts k) p <;> simp <;> omega
theorem lean_moved {g : Int → Int} {ss : List Int} {ts : List Tie} {p : Int} (b : Bin ss) (ok : ∀ t ∈ ts, TieOk ss.length t) (p0 : 0 ≤ p) (p1 : p < ss.length) : ∀ k, k ≤ ts.length → leanTo g (moved ss p) ts k p = - leanTo g ss ts k p
  | 0, _ => rfl
  | k + 1, h => by
    show leanTo g (moved ss p) ts k p + con g (moved ss p) ts k p = - (leanTo g ss ts k p + con g ss ts k p)
    rw [lean_moved b ok p0 p1 k (by omega)]
    unfold con
    rw [brk_moved b (tieAt_ok ok (by omega)) p0 p1]
    change _ + (if has (tieAt ts k) p = true then (if (brk ss (tieAt ts k) != has (tieAt ts k) p) = true then g k else - g k) else 0) = _
    cases brk ss (tieAt ts k) <;> cases has (tieAt ts k) p <;> simp <;> omega
theorem lean_over {g : Int → Int} {ss : List Int} {ts : List Tie} {p : Int} (ok : ∀ t ∈ ts, TieOk ss.length t) : ∀ k, k ≤ ts.length → leanTo g (over ss) ts k p = leanTo g ss ts k p
  | 0, _ => rfl
  | k + 1, h => by
    show leanTo g (over ss) ts k p + con g (over ss) ts k p = leanTo g ss ts k p + con g ss ts k p
    rw [lean_over ok k (by omega)]
    unfold con
    rw [brk_over (tieAt_ok ok (by omega))]
theorem has_iff {t : Tie} {p : Int} : has t p = true ↔ (t.one = p ∨ t.other = p) := by
  unfold has
  simp
/-- two places told anew, one behind the other -/
theorem lean_step {g : Int → Int} {ss : List Int} {ts : List Tie} {k : Nat} {t : Tie} (et : tieAt ts k = t) (ne : t.one ≠ t.other) {l : Int} (hl : l = if brk ss t = true then g k else - g k) :
    (fun x => if x = t.other then (if t.other = t.one then leanTo g ss ts k t.one + l else leanTo g ss ts k t.other) + l else if x = t.one then leanTo g ss ts k t.one + l else leanTo g ss ts k x) = leanTo g ss ts (k + 1) := by
  funext x
  show _ = leanTo g ss ts k x + con g ss ts k x
  unfold con
  rw [et, ← hl]
  by_cases h1 : x = t.other
  · subst h1
    rw [if_pos rfl, if_neg (fun z => ne z.symm), if_pos (has_iff.mpr (.inr rfl))]
  · rw [if_neg h1]
    by_cases h2 : x = t.one
    · subst h2
      rw [if_pos rfl, if_pos (has_iff.mpr (.inl rfl))]
    · rw [if_neg h2, if_neg (fun z => by rcases has_iff.mp z with z | z; exact h2 z.symm; exact h1 z.symm)]
      omega
/-! ### leans: the program's and the law's -/
theorem rep_lf (k : Nat) : (List.replicate k [V.int 0]).flatten = lf (fun _ => 0) k := by
  refine List.ext_getElem? fun j => ?_
  have e : (List.replicate k [V.int 0]).flatten = List.replicate k (V.int 0) := by
    induction k with
    | zero => rfl
    | succ k ih => rw [List.replicate_succ, List.flatten_cons, ih]; rfl
  rw [e]
  by_cases h : j < k
  · rw [lf_get? _ h, List.getElem?_replicate, if_pos h]
  · rw [List.getElem?_eq_none (by rw [List.length_replicate]; omega), List.getElem?_eq_none (by rw [lf_len]; omega)]
theorem lf_ints (f : Int → Int) (n : Nat) : lf f n = ((rng n).map f).map V.int := by
  unfold lf
  rw [List.map_map]
  rfl
def spLeans : Sp := fun vs H Q _ => ∃ (v wv : V) (a : Addr) (n : Int) (ts : List Tie) (ss : List Int) (g : Int → Int), vs = [v, wv, .ref a] ∧ WebAt H v n ts ∧ WebOk n ts ∧ Wts H wv (rng ts.length) g ∧ H a = some (.tup (ss.map V.int)) ∧ (ss.length : Int) = n ∧
  ∀ r H', Same H H' → NoD H' r (lf (lean g ss ts) n.toNat) → Q (.ref r) H'
def spLBroken : Sp := fun vs H Q _ => ∃ (v : V) (a : Addr) (n : Int) (ts : List Tie) (ss : List Int) (i : Nat), vs = [v, .ref a, .int i] ∧ WebAt H v n ts ∧ WebOk n ts ∧ H a = some (.tup (ss.map V.int)) ∧ (ss.length : Int) = n ∧ i < ts.length ∧ Q (.bl (brk ss (tieAt ts i))) H
def spLLean : Sp := fun vs H Q _ => ∃ (v wv : V) (a : Addr) (n : Int) (ts : List Tie) (ss : List Int) (g : Int → Int) (p : Int), vs = [v, wv, .ref a, .int p] ∧ WebAt H v n ts ∧ WebOk n ts ∧ Wts H wv (rng ts.length) g ∧ H a = some (.tup (ss.map V.int)) ∧ (ss.length : Int) = n ∧
  ∀ H', Same H H' → Q (.int (lean g ss ts p)) H'
theorem Wts.at {H : Hp} {wv : V} {m i : Nat} {g : Int → Int} (h : Wts H wv (rng m) g) (hi : i < m) : (wv = .non ∧ g i = 1) ∨ ∃ a xs, wv = .ref a ∧ H a = some (.tup xs) ∧ atI xs i = some (.int (g i)) := by
  rcases h with ⟨rfl, h⟩ | ⟨a, ws, rfl, h1, h2⟩
  · exact .inl ⟨rfl, h i (mem_rng.mpr (by omega))⟩
  · obtain ⟨b, e⟩ := h2 i (mem_rng.mpr (by omega))
    refine .inr ⟨a, _, rfl, h1, ?_⟩
    rw [e]
    exact gW_at b.1 b.2
section
variable {P : Program} {w : World} {K : PySem.W.Frag} {mg : Str → Option Value} {base : Heap}
theorem ok_leans {f : Addr} {fd : FuncData} (F : Fun K "leans" "leans" s_leans f fd) (M : Free mg) (me : mg "enumerate" = none) (DW : Df P w K mg base 1 "weight_of" ["weights", "tie"] spWeightOf) (DB : Df P w K mg base 1 "breaks" ["sides", "tie"] spBreaks) : FnOk P w K mg base CX0 2 f fd ["web", "weights", "sides"] spLeans := by
  obtain ⟨fW, fdW, GW, gW, kW, bW⟩ := DW
  obtain ⟨fB, fdB, GB, gB, kB, bB⟩ := DB
  refine F.ok sc_leans (fun vs H Q E h => ?_) (fun cdv A outer s H vs Q E hr h => ?_)
  · obtain ⟨v, wv, a, n, ts, ss, g, rfl, _⟩ := h
    rfl
  · obtain ⟨v, wv, a, n, ts, ss, g, rfl, ⟨wa, wb, us, rfl, hwa, hwb, hp⟩, ok, hw, ha, hl, q⟩ := h
    refine ⟨_, (pss_cons (ps_set (i := 3) sc_leans.nd rfl (.inl rfl) (pe_op op_rep (pe_lst (pa_cons pe_int pa_nil)) (pe_ix ix_tup (pv 0) pe_int (fun _ _ => rfl))))
      (pss_cons (ps_for PassesOwn.never rfl (pi_enumT (by rfl) me (pa_cons (pe_ix ix_tup (pv 0) pe_int (fun _ _ => rfl)) pa_nil)) (pg_tup rfl (pgs_cons (pg_name (i := 4) sc_leans.nd rfl (.inl rfl)) (pgs_cons (pg_name (i := 5) sc_leans.nd rfl (.inl rfl)) pgs_nil)))
        (Evl.pss_cut (ps_set (i := 6) sc_leans.nd rfl (.inl rfl) (pe_call GW hr (by rfl) gW kW bW .nil pass0 (pa_cons (pv 1) (pa_cons (pv 4) pa_nil))))
        (Evl.pss_cut (ps_set (i := 7) sc_leans.nd rfl (.inl rfl) (pe_ifExp (pt_val (pe_call GB hr (by rfl) gB kB bB .nil pass0 (pa_cons (pv 2) (pa_cons (pv 5) pa_nil)))) (pv 6) (pe_un un_neg (pv 6))))
        (pss_cons (ps_augS (pv 3) (pe_ix ix_tup (pv 5) pe_int (fun _ _ => rfl)) get_list (pv 7) ip_add set_list)
        (pss_one (ps_augS (pv 3) (pe_ix ix_tup (pv 5) pe_int (fun _ _ => rfl)) get_list (pv 7) ip_add set_list))))))
      (pss_one (ps_ret (pe_callTy call_tuple_ofZ (by rfl) M.tuple (by decide +kernel) (pa_cons (pv 3) pa_nil)))))), ?_⟩
    obtain ⟨k, rfl⟩ : ∃ k : Nat, n = k := ⟨n.toNat, by have := ok.lo; omega⟩
    have hk := ok.hi
    have few := ok.few
    have hlen : us.length = ts.length := Paired.length hp
    refine ⟨by show 1 ≤ sizeLine; decide, fun O nO => ?_⟩
    refine ⟨.ref wa, rfl, wa, _, 0, .int k, rfl, rfl, SqT.of (same_new nO _ _ hwa), rfl, O, k, _, rfl, rfl, upd_same, by omega, by omega, ?_, fun L nL => ?_⟩
    · rw [Int.toNat_natCast]
      exact Nat.le_of_lt (small1000 (by show 1 * k ≤ _; omega))
    rw [Int.toNat_natCast, rep_lf]
    have s0 : Same H (upd (upd H O (.lst [.int 0])) L (.lst (lf (fun _ => 0) k))) := (same_new nO).trans (same_new nL)
    have nL0 : H L = none := (same_new nO).free nL
    have hL0 : (upd (upd H O (.lst [.int 0])) L (.lst (lf (fun _ => 0) k))) L = some (.lst (lf (fun _ => 0) k)) := upd_same
    generalize upd (upd H O (.lst [.int 0])) L (.lst (lf (fun _ => 0) k)) = H0 at s0 hL0
    refine ⟨.ref wa, rfl, wa, _, 1, .ref wb, rfl, rfl, SqT.of (s0 _ _ hwa), rfl, wb, us, rfl, SqT.of (s0 _ _ hwb), ?_⟩
    refine for_it (walk_enumT (xs := us)) (fun i σ' H' => ∃ (y4 y5 y6 y7 : Option V), σ' = [some (.ref wa), some wv, some (.ref a), some (.ref L), y4, y5, y6, y7] ∧ H' L = some (.lst (lf (leanTo g ss ts i) k)) ∧ Same H H') ⟨none, none, none, none, rfl, hL0, s0⟩ (fun i σ' H' _ h => by
      obtain ⟨_, _, _, _, _, _, s3⟩ := h
      exact SqT.of (s3 _ _ hwb)) ?_ ?_
    · rintro i x σ' H2 H3 hi ⟨y4, y5, y6, y7, rfl, hL, s2⟩ ⟨T, x1, y1, rfl, nT, rfl, gx, gy⟩
      obtain rfl : V.int (i : Nat) = x1 := Option.some.inj gx
      obtain ⟨t, et, c, rfl, hc⟩ := Paired.at hp gy
      have okt := ok.ok t (List.mem_of_getElem? et)
      have sT := same_new (o := .tup [.int (i : Nat), .ref c]) nT
      have s3 := s2.trans sT
      have hL3 := sT _ _ hL
      refine ⟨T, _, rfl, SqT.of upd_same, rfl, _, _, rfl, _, _, rfl, rfl, ?_⟩
      generalize upd H2 T (.tup [.int (i : Nat), .ref c]) = H3 at s3 hL3
      refine ⟨fun σ' H' => σ' = [some (.ref wa), some wv, some (.ref a), some (.ref L), some (.int i), some (.ref c), some (.int (g i)), y7] ∧ H' = H3, ?_, ?_⟩
      · rcases (hw.tk (Same.tk s3)).at (i := i) (by omega) with ⟨rfl, e⟩ | ⟨wa', xs, rfl, e1, e2⟩
        · exact ⟨.non, rfl, .int i, rfl, .inl ⟨i, rfl, by rw [e]; rfl, rfl⟩⟩
        · exact ⟨.ref wa', rfl, .int i, rfl, .inr ⟨wa', xs, i, _, rfl, e1, e2, rfl, rfl⟩⟩
      rintro σ' H4 ⟨rfl, rfl⟩
      refine ⟨fun σ' H' => σ' = [some (.ref wa), some wv, some (.ref a), some (.ref L), some (.int i), some (.ref c), some (.int (g i)), some (.int (if brk ss t = true then g i else - g i))] ∧ H' = H4, ?_, ?_⟩
      · refine ⟨.ref a, rfl, .ref c, rfl, a, c, ss, t, rfl, s3 _ _ ha, s3 _ _ hc, by rw [hl]; exact okt, _, rfl, ?_⟩
        cases brk ss t with
        | true => exact ⟨.int (g i), rfl, rfl, rfl⟩
        | false => exact ⟨.int (g i), rfl, g i, rfl, rfl, rfl⟩
      rintro σ' H5 ⟨rfl, rfl⟩
      have et2 := tieAt_of et
      generalize hl' : (if brk ss t = true then g i else - g i) = l
      refine ⟨.ref L, rfl, .ref c, rfl, c, _, 0, _, rfl, rfl, SqT.of (s3 _ _ hc), rfl, L, _, t.one, _, rfl, rfl, SqL.of hL3, okt.1, lf_at _ okt.1 okt.2.1, .int l, rfl, _, l, rfl, rfl, L, _, t.one, t.one.toNat, rfl, rfl, hL3, by rw [lf_len]; exact ixN_of okt.1 okt.2.1, ?_⟩
      rw [lf_set _ okt.1 okt.2.1]
      have hc5 : (upd H5 L (.lst (lf (fun x => if x = t.one then leanTo g ss ts i t.one + l else leanTo g ss ts i x) k))) c = some (.tup [.int t.one, .int t.other, .str (kindS t.foe)]) := tk_lst hL3 _ _ (s3 _ _ hc)
      refine ⟨.ref L, rfl, .ref c, rfl, c, _, 1, _, rfl, rfl, SqT.of hc5, rfl, L, _, t.other, _, rfl, rfl, SqL.of upd_same, okt.2.2.1, lf_at _ okt.2.2.1 okt.2.2.2.1, .int l, rfl, _, l, rfl, rfl, L, _, t.other, t.other.toNat, rfl, rfl, upd_same, by rw [lf_len]; exact ixN_of okt.2.2.1 okt.2.2.2.1, ?_⟩
      rw [lf_set _ okt.2.2.1 okt.2.2.2.1, upd_upd, lean_step et2 okt.2.2.2.2 hl'.symm]
      exact ⟨_, _, _, _, rfl, upd_same, Same.mut s3 nL0⟩
    · rintro σ' H2 ⟨y4, y5, y6, y7, rfl, hL, s2⟩
      rw [hlen] at hL
      refine ⟨.ref L, rfl, L, _, rfl, SqL.of hL, fun r o od nr => ?_⟩
      exact q r _ (s2.trans (same_new nr)) (by rw [Int.toNat_natCast]; exact ⟨o, od, upd_same⟩)
theorem ok_l_weight {f : Addr} {fd : FuncData} (F : Fun K "_law_weight" "_law_weight" s_l_weight f fd) : FnOk P w K mg base CX0 1 f fd ["_law_weights_here", "_law_tie"] spWeightOf := by
  refine F.ok sc_l_weight (fun vs H Q E h => ?_) (fun cdv A outer s H vs Q E hr h => ?_)
  · rcases h with ⟨i, rfl, _⟩ | ⟨a, xs, i, v, rfl, _⟩ <;> rfl
  · refine ⟨_, (pss_cons (ps_if (pt_cmpR op_isN (pv 0) pe_non (nomark _))
        (pss_one (ps_ret pe_int))
        pss_nil)
      (pss_one (ps_ret (pe_ix ix_tup (pv 0) (pv 1) (fun _ _ => rfl))))), ?_⟩
    rcases h with ⟨i, rfl, q⟩ | ⟨a, xs, i, v, rfl, h1, h2, q⟩
    · exact ⟨.non, rfl, rfl, _, rfl, q⟩
    · exact ⟨.ref a, rfl, rfl, _, rfl, .ref a, rfl, .int i, rfl, a, xs, i, v, rfl, rfl, SqT.of h1, h2, q⟩
theorem ok_l_broken {f : Addr} {fd : FuncData} (F : Fun K "_law_broken" "_law_broken" s_l_broken f fd) : FnOk P w K mg base CX0 1 f fd ["_law_web_here", "_law_sides_here", "_law_tie"] spLBroken := by
  refine F.ok sc_l_broken (fun vs H Q E h => ?_) (fun cdv A outer s H vs Q E hr h => ?_)
  · obtain ⟨v, a, n, ts, ss, i, rfl, _⟩ := h
    rfl
  · obtain ⟨v, a, n, ts, ss, i, rfl, ⟨wa, wb, us, rfl, hwa, hwb, hp⟩, ok, ha, hl, hi, q⟩ := h
    refine ⟨_, (pss_cons (ps_asg (pe_ix ix_tup (pe_ix ix_tup (pv 0) pe_int (fun _ _ => rfl)) (pv 2) (fun _ _ => rfl)) (pg_tup rfl (pgs_cons (pg_name (i := 3) sc_l_broken.nd rfl (.inl rfl)) (pgs_cons (pg_name (i := 4) sc_l_broken.nd rfl (.inl rfl)) (pgs_cons (pg_name (i := 5) sc_l_broken.nd rfl (.inl rfl)) pgs_nil)))))
      (pss_one (ps_ret (pe_cmpR op_eq (pe_cmpR op_eq (pe_ix ix_tup (pv 1) (pv 3) (fun _ _ => rfl)) (pe_ix ix_tup (pv 1) (pv 4) (fun _ _ => rfl)) (nomark _)) (pe_cmpR op_eq (pv 5) pe_str (nomark _)) (nomark _))))), ?_⟩
    have hlen : us.length = ts.length := Paired.length hp
    obtain ⟨t, et⟩ : ∃ t, ts[i]? = some t := ⟨_, List.getElem?_eq_getElem hi⟩
    obtain ⟨u, eu, c, rfl, hc⟩ := Paired.at' hp et
    have okt := ok.ok t (List.mem_of_getElem? et)
    rw [← hl] at okt
    rw [tieAt_of et] at q
    refine ⟨.ref wa, rfl, wa, _, 1, .ref wb, rfl, rfl, SqT.of hwa, rfl, .int i, rfl, wb, us, i, _, rfl, rfl, SqT.of hwb, atI_nat eu, c, _, rfl, SqT.of hc, rfl, _, _, rfl, _, _, rfl, _, _, rfl, rfl, ?_⟩
    refine ⟨.ref a, rfl, .int t.one, rfl, a, _, t.one, _, rfl, rfl, SqT.of ha, atI_sd okt.1 okt.2.1, .ref a, rfl, .int t.other, rfl, a, _, t.other, _, rfl, rfl, SqT.of ha, atI_sd okt.2.2.1 okt.2.2.2.1, rfl, .str (kindS t.foe), rfl, rfl, rfl, ?_⟩
    rw [eq_brk]
    exact q
theorem ok_l_lean {f : Addr} {fd : FuncData} (F : Fun K "_law_lean" "_law_lean" s_l_lean f fd) (M : Free mg) (DW : Df P w K mg base 1 "_law_weight" ["_law_weights_here", "_law_tie"] spWeightOf) (DB : Df P w K mg base 1 "_law_broken" ["_law_web_here", "_law_sides_here", "_law_tie"] spLBroken) : FnOk P w K mg base CX0 2 f fd ["_law_web_here", "_law_weights_here", "_law_sides_here", "_law_place"] spLLean := by
  obtain ⟨fW, fdW, GW, gW, kW, bW⟩ := DW
  obtain ⟨fB, fdB, GB, gB, kB, bB⟩ := DB
  refine F.ok sc_l_lean (fun vs H Q E h => ?_) (fun cdv A outer s H vs Q E hr h => ?_)
  · obtain ⟨v, wv, a, n, ts, ss, g, p, rfl, _⟩ := h
    rfl
  · obtain ⟨v, wv, a, n, ts, ss, g, p, rfl, hW, ok, hw, ha, hl, q⟩ := h
    have hW0 := hW
    obtain ⟨wa, wb, us, rfl, hwa, hwb, hp⟩ := hW
    refine ⟨_, (pss_cons (ps_set (i := 4) sc_l_lean.nd rfl (.inl rfl) pe_int)
      (pss_cons (ps_for PassesOwn.never rfl (pi_range1 (by rfl) M.range (pa_cons (pe_callB call_len_seq (by rfl) M.len PySem.boot_len (pa_cons (pe_ix ix_tup (pv 0) pe_int (fun _ _ => rfl)) pa_nil)) pa_nil)) (pg_name (i := 5) sc_l_lean.nd rfl (.inl rfl))
        (pss_one (ps_if (pt_cmpR op_in_seq (pv 3) (pe_slice sl_tupU (pe_ix ix_tup (pe_ix ix_tup (pv 0) pe_int (fun _ _ => rfl)) (pv 5) (fun _ _ => rfl)) po_none (po_some pe_int)) rfl)
          (Evl.pss_cut (ps_set (i := 6) sc_l_lean.nd rfl (.inl rfl) (pe_call GW hr (by rfl) gW kW bW .nil pass0 (pa_cons (pv 1) (pa_cons (pv 5) pa_nil))))
          (pss_one (ps_set (i := 4) sc_l_lean.nd rfl (.inl rfl) (pe_op op_add (pv 4) (pe_ix ix_list (pe_lst (pa_cons (pe_un un_neg (pv 6)) (pa_cons (pv 6) pa_nil))) (pe_callTy call_int1 (by rfl) M.int (by decide +kernel) (pa_cons (pe_call GB hr (by rfl) gB kB bB .nil pass0 (pa_cons (pv 0) (pa_cons (pv 2) (pa_cons (pv 5) pa_nil)))) pa_nil)) (fun _ _ => rfl))))))
          pss_nil)))
      (pss_one (ps_ret (pv 4))))), ?_⟩
    have hlen : us.length = ts.length := Paired.length hp
    have few := ok.few
    refine ⟨.ref wa, rfl, wa, _, 1, .ref wb, rfl, rfl, SqT.of hwa, rfl, wb, us, rfl, .inr (SqT.of hwb), us.length, rfl, by omega, by omega, ?_⟩
    rw [Int.toNat_natCast, hlen]
    refine for_range (lo := 0) (n := ts.length) (fun i σ' H' => ∃ (y5 y6 : Option V), σ' = [some (.ref wa), some wv, some (.ref a), some (.int p), some (.int (leanTo g ss ts i p)), y5, y6] ∧ Same H H') ⟨none, none, rfl, Same.refl H⟩ ?_ ?_
    · rintro i σ' H2 hi ⟨y5, y6, rfl, s2⟩
      rw [show (0 : Int) + (i : Nat) = i from by omega]
      obtain ⟨t, et⟩ : ∃ t, ts[i]? = some t := ⟨_, List.getElem?_eq_getElem hi⟩
      obtain ⟨u, eu, c, rfl, hc⟩ := Paired.at' hp et
      have et2 := tieAt_of et
      refine ⟨.int p, rfl, .ref wa, rfl, wa, _, 1, .ref wb, rfl, rfl, SqT.of (s2 _ _ hwa), rfl, .int i, rfl, wb, us, i, _, rfl, rfl, SqT.of (s2 _ _ hwb), atI_nat eu, 2, rfl, c, _, rfl, s2 _ _ hc, fun r H3 s3 h3 => ?_⟩
      have ec : cutV [V.int t.one, V.int t.other, V.str (kindS t.foe)] none (some 2) = [V.int t.one, V.int t.other] := rfl
      rw [ec] at h3
      have s23 := s2.trans s3
      refine ⟨r, _, rfl, .inr (SqT.of h3), rfl, rfl, _, rfl, ?_⟩
      simp only [Bool.false_eq_true, if_false]
      rw [in_two]
      have e1 : leanTo g ss ts (i + 1) p = leanTo g ss ts i p + (if has t p = true then (if brk ss t = true then g i else - g i) else 0) := by
        show leanTo g ss ts i p + con g ss ts i p = _
        unfold con
        rw [et2]
      change if has t p = true then _ else _
      cases hh : has t p with
      | false =>
        rw [hh] at e1
        refine ⟨some (.int i), y6, ?_, s23⟩
        rw [e1]
        simp
      | true =>
        rw [hh] at e1
        refine ⟨fun σ' H' => σ' = [some (.ref wa), some wv, some (.ref a), some (.int p), some (.int (leanTo g ss ts i p)), some (.int i), some (.int (g i))] ∧ H' = H3, ?_, ?_⟩
        · rcases (hw.tk (Same.tk s23)).at hi with ⟨rfl, e⟩ | ⟨wa', xs, rfl, e1, e2⟩
          · exact ⟨.non, rfl, .int i, rfl, .inl ⟨i, rfl, by rw [e]; rfl, rfl⟩⟩
          · exact ⟨.ref wa', rfl, .int i, rfl, .inr ⟨wa', xs, i, _, rfl, e1, e2, rfl, rfl⟩⟩
        rintro σ' H4 ⟨rfl, rfl⟩
        refine ⟨.int (leanTo g ss ts i p), rfl, .int (g i), rfl, g i, rfl, .int (g i), rfl, by show 2 ≤ sizeLine; decide, fun o no => ?_⟩
        have s24 := s23.trans (same_new (o := .lst [.int (- g i), .int (g i)]) no)
        refine ⟨.ref wa, rfl, .ref a, rfl, .int i, rfl, .ref wa, a, n, ts, ss, i, rfl, hW0.tk (Same.tk s24), ok, s24 _ _ ha, hl, hi, ?_⟩
        rw [et2]
        refine .inr ⟨_, rfl, o, _, _, _, rfl, rfl, SqL.of upd_same, pick2 _ _ _, _, (if brk ss t = true then g i else - g i), rfl, ?_, ?_⟩
        · cases brk ss t <;> rfl
        · refine ⟨some (.int i), some (.int (g i)), ?_, s24⟩
          rw [e1]
          cases brk ss t <;> simp
    · rintro σ' H2 ⟨y5, y6, rfl, s2⟩
      exact ⟨_, rfl, q _ s2⟩
end
/-! ### the law's weights and sides -/
def spWeightsL : Sp := fun vs H Q _ => ∃ (d : Addr) (b : Nat) (v : V) (n : Int) (ts : List Tie), vs = [.ref d, v] ∧ Well H d b ∧ b < 2 ^ 50 ∧ WebAt H v n ts ∧ WebOk n ts ∧
  ∀ wv g H', Wts H' wv (rng ts.length) g → (∀ x ∈ rng ts.length, 1 ≤ g x ∧ g x ≤ 10 ^ 30) → Well H' d (b + 1000) → Kp d d H H' → Q wv H'
def spSidesL : Sp := fun vs H Q _ => ∃ (d : Addr) (b k : Nat), vs = [.ref d, .int k] ∧ Well H d b ∧ b < 2 ^ 50 ∧ 1 ≤ k ∧ k ≤ 40 ∧
  ∀ a ss H', H' a = some (.tup (ss.map V.int)) → ss.length = k → Bin ss → Well H' d (b + 1000) → Kp d d H H' → Q (.ref a) H'
theorem rep_ints (x : Int) (k : Nat) : (List.replicate k [V.int x]).flatten = (List.replicate k x).map V.int := by
  induction k with
  | zero => rfl
  | succ k ih => rw [List.replicate_succ, List.flatten_cons, ih, List.replicate_succ]; rfl
section
variable {P : Program} {w : World} {K : PySem.W.Frag} {mg : Str → Option Value} {base : Heap}
theorem ok_l_sides {f : Addr} {fd : FuncData} (F : Fun K "_law_sides" "_law_sides" s_l_sides f fd) (M : Free mg) (Dd : Df P w K mg base 1 "_law_draw" ["_law_well_here", "_law_most"] spDraw) : FnOk P w K mg base CX0 2 f fd ["_law_well_here", "_law_many"] spSidesL := by
  obtain ⟨fD, fdD, GD, gD, kD, bD⟩ := Dd
  refine F.ok sc_l_sides (fun vs H Q E h => ?_) (fun cdv A outer s H vs Q E hr h => ?_)
  · obtain ⟨d, b, k, rfl, _⟩ := h
    rfl
  · obtain ⟨d, b, k, rfl, hD, hB, k0, k1, q⟩ := h
    refine ⟨_, (pss_cons (ps_set (i := 2) sc_l_sides.nd rfl (.inl rfl) (pe_call GD hr (by rfl) gD kD bD .nil pass0 (pa_cons (pv 0) (pa_cons pe_int pa_nil))))
      (pss_cons (ps_if (pt_cmpR op_lt (pv 2) pe_int (nomark _))
        (pss_one (ps_ret (pe_op op_repU (pe_tup (pa_cons (pv 2) pa_nil)) (pv 1))))
        pss_nil)
      (pss_one (ps_ret (pe_callTy call_tuple_of (by rfl) M.tuple (by decide +kernel) (pa_cons (pe_lc (own := [("_law_place", 3)]) (g := gName 3) (tt := tYes) rfl sc_l_sides.nd (pi_range1 (by rfl) M.range (pa_cons (pv 1) pa_nil)) (blkOk_by (N := N_l_sides) (sc := defScope s_l_sides) (own := [("_law_place", 3)]) (by decide +kernel)) (fun _ _ _ _ _ => (pg_name (i := 3) sc_l_sides.nd rfl (.inl rfl))) (fun _ _ _ _ _ => pts_nil) (fun _ _ _ _ _ => (pe_call GD hr (by rfl) gD kD bD .nil pass0 (pa_cons (pv 0) (pa_cons pe_int pa_nil))))) pa_nil)))))), ?_⟩
    refine ⟨.ref d, rfl, d, b, 8, rfl, hD, by omega, by decide, by decide, fun v1 H1 a1 b1 D1 K1 => ?_⟩
    refine ⟨.int v1, rfl, v1, 2, rfl, rfl, _, rfl, ite2 (fun e => ?_) (fun e => ?_)⟩
    · have hv := of_decide_eq_true e
      refine ⟨.int v1, rfl, by show 1 ≤ sizeLine; decide, fun p np => ⟨.int k, rfl, p, k, _, rfl, rfl, upd_same, by simp, by omega, by omega, by show 1 ≤ 1000; decide, fun r H2 s2 h2 => ?_⟩⟩
      rw [Int.toNat_natCast, rep_ints] at h2
      refine q r _ H2 h2 (by rw [List.length_replicate]) (fun x hx => ?_) (((D1.new np).same s2).mono (by omega)) ((K1.trans (Kp.new np)).trans (Same.kp s2))
      rw [List.eq_of_mem_replicate hx]
      omega
    · refine ⟨.int k, rfl, k, rfl, by omega, by omega, fun Z nZ => ?_⟩
      rw [Int.toNat_natCast]
      have hZd := D1.ned nZ
      have nZ0 := K1.free nZ hZd hZd
      refine lc_range (lo := 0) (n := k) (fun i H' => ∃ ss : List Int, H' Z = some (.lst (ss.map V.int)) ∧ ss.length = i ∧ Bin ss ∧ Well H' d (b + 1 + i) ∧ Kp d d H H') ⟨[], upd_same, rfl, fun x hx => by simp at hx, D1.new nZ, K1.trans (Kp.new nZ)⟩ ?_ ?_
      · rintro i H2 hi ⟨ss, hZ, ls, bn, D2, K2⟩
        refine ⟨rfl, .ref d, rfl, d, b + 1 + i, 2, rfl, D2, by omega, by decide, by decide, fun v2 H3 a2 b2 D3 K3 => ?_⟩
        refine ⟨_, K3 _ _ hZd hZd hZ, by rw [List.length_map]; exact small1000 (by omega), ss ++ [v2], by rw [upd_same, List.map_append]; rfl, by rw [List.length_append, ls]; rfl, fun x hx => ?_, D3.mut hZd, (K2.trans K3).mut nZ0⟩
        rcases List.mem_append.mp hx with h | h
        · exact bn x h
        · rw [List.mem_singleton.mp h]
          omega
      · rintro H2 ⟨ss, hZ, ls, bn, D2, K2⟩
        refine ⟨Z, _, rfl, .inl ⟨SqL.of hZ, fun r nr => ?_⟩⟩
        exact q r ss _ upd_same ls bn ((D2.new nr).mono (by omega)) (K2.trans (Kp.new nr))
theorem ok_l_weights {f : Addr} {fd : FuncData} (F : Fun K "_law_weights" "_law_weights" s_l_weights f fd) (M : Free mg) (Dd : Df P w K mg base 1 "_law_draw" ["_law_well_here", "_law_most"] spDraw) : FnOk P w K mg base CX0 2 f fd ["_law_well_here", "_law_web_here"] spWeightsL := by
  obtain ⟨fD, fdD, GD, gD, kD, bD⟩ := Dd
  refine F.ok sc_l_weights (fun vs H Q E h => ?_) (fun cdv A outer s H vs Q E hr h => ?_)
  · obtain ⟨d, b, v, n, ts, rfl, _⟩ := h
    rfl
  · obtain ⟨d, b, v, n, ts, rfl, hD, hB, ⟨wa, wb, us, rfl, hwa, hwb, hp⟩, ok, q⟩ := h
    refine ⟨_, (pss_cons (ps_if (pt_cmpR op_eq (pe_call GD hr (by rfl) gD kD bD .nil pass0 (pa_cons (pv 0) (pa_cons pe_int pa_nil))) pe_int (nomark _))
        (pss_one (ps_ret pe_non))
        pss_nil)
      (pss_cons (ps_set (i := 2) sc_l_weights.nd rfl (.inl rfl) (pe_lst pa_nil))
      (pss_cons (ps_for PassesOwn.never rfl (pi_tup (pe_ix ix_tup (pv 1) pe_int (fun _ _ => rfl))) (pg_name (i := 3) sc_l_weights.nd rfl (.inl rfl))
        (pss_cons (ps_set (i := 4) sc_l_weights.nd rfl (.inl rfl) (pe_call GD hr (by rfl) gD kD bD .nil pass0 (pa_cons (pv 0) (pa_cons pe_int pa_nil))))
        (pss_cons (ps_set (i := 5) sc_l_weights.nd rfl (.inl rfl) (pe_op op_add pe_int (pe_call GD hr (by rfl) gD kD bD .nil pass0 (pa_cons (pv 0) (pa_cons (pe_ix ix_list (pe_lst (pa_cons pe_int (pa_cons pe_int (pa_cons pe_int (pa_cons pe_int (pa_cons (pe_op op_pow pe_int pe_int) (pa_cons pe_int pa_nil))))))) (pv 4) (fun _ _ => rfl)) pa_nil)))))
        (Evl.pss_cut (ps_if (pt_cmpR op_eq (pv 4) pe_int (nomark _))
          (pss_one (ps_set (i := 5) sc_l_weights.nd rfl (.inl rfl) (pe_ix ix_list (pe_lst (pa_cons (pe_op op_pow pe_int pe_int) (pa_cons (pe_op op_sub (pe_op op_pow pe_int pe_int) pe_int) pa_nil))) (pe_op op_sub (pv 5) pe_int) (fun _ _ => rfl))))
          pss_nil)
        (pss_one (ps_expr (pe_bm PySem.F.plainAttrs_list PySem.F.slot_list_append PySem.F.type_list_append mt_append (pv 2) (pa_cons (pv 5) pa_nil))))))))
      (pss_one (ps_ret (pe_callTy call_tuple_of (by rfl) M.tuple (by decide +kernel) (pa_cons (pv 2) pa_nil))))))), ?_⟩
    have hlen : us.length = ts.length := Paired.length hp
    have few := ok.few
    refine ⟨.ref d, rfl, d, b, 4, rfl, hD, by omega, by decide, by decide, fun v1 H1 a1 b1 D1 K1 => ⟨rfl, _, rfl, ite2 (fun _ => ?_) (fun _ => ?_)⟩⟩
    · exact q .non (fun _ => 1) H1 (.inl ⟨rfl, fun _ _ => rfl⟩) (fun _ _ => ⟨by decide, by decide⟩) (D1.mono (by omega)) K1
    refine ⟨Nat.zero_le _, fun L nL => ?_⟩
    have hLd := D1.ned nL
    have nL0 := K1.free nL hLd hLd
    have hwa1 := K1.tk hD _ _ hwa
    have hwb1 := K1.tk hD _ _ hwb
    refine ⟨.ref wa, rfl, wa, _, 1, .ref wb, rfl, rfl, SqT.of (same_new nL _ _ hwa1), rfl, wb, rfl, ⟨_, SqT.of (same_new nL _ _ hwb1)⟩, ?_⟩
    refine for_tup (xs := us) (fun i σ' H' => ∃ (y3 y4 y5 : Option V) (ws : List Int), σ' = [some (.ref d), some (.ref wa), some (.ref L), y3, y4, y5] ∧ H' L = some (.lst (ws.map V.int)) ∧ ws.length = i ∧ (∀ x ∈ ws, 1 ≤ x ∧ x ≤ 10 ^ 30) ∧ Well H' d (b + 1 + 2 * i) ∧ Kp d d H H') ⟨none, none, none, [], rfl, upd_same, rfl, fun x hx => by simp at hx, D1.new nL, K1.trans (Kp.new nL)⟩ (fun i σ' H' _ h => by
      obtain ⟨_, _, _, _, _, _, _, _, _, K2⟩ := h
      exact SqT.of (K2.tk hD _ _ hwb)) ?_ ?_
    · rintro i x σ' H2 ex ⟨y3, y4, y5, ws, rfl, hL2, lw, ow, D2, K2⟩
      have hi : i < us.length := (List.getElem?_eq_some_iff.mp ex).1
      refine ⟨.ref d, rfl, d, b + 1 + 2 * i, 6, rfl, D2, by omega, by decide, by decide, fun way H3 w0 w1 D3 K3 => ?_⟩
      refine ⟨.ref d, rfl, 10, 6, rfl, rfl, ⟨by decide, by decide, by decide⟩, by show 6 ≤ sizeLine; decide, fun p np => ?_⟩
      obtain ⟨m, hm, m0, m1, m2⟩ : ∃ m : Int, atI [V.int 1, V.int 2, V.int 3, V.int 9, V.int (10 ^ (6 : Int).toNat), V.int 2] way = some (.int m) ∧ 0 < m ∧ m ≤ 10 ^ 6 ∧ (way = 5 → m = 2) := by
        have h4 : way = 0 ∨ way = 1 ∨ way = 2 ∨ way = 3 ∨ way = 4 ∨ way = 5 := by omega
        rcases h4 with rfl | rfl | rfl | rfl | rfl | rfl
        · exact ⟨1, rfl, by decide, by decide, by decide⟩
        · exact ⟨2, rfl, by decide, by decide, by decide⟩
        · exact ⟨3, rfl, by decide, by decide, by decide⟩
        · exact ⟨9, rfl, by decide, by decide, by decide⟩
        · exact ⟨_, rfl, by decide, by decide, by decide⟩
        · exact ⟨2, rfl, by decide, by decide, by decide⟩
      refine ⟨.int way, rfl, p, _, way, .int m, rfl, rfl, SqL.of upd_same, hm, d, b + 1 + 2 * i + 1, m, rfl, D3.new np, by omega, m0, by omega, fun v4 H4 a4 b4 D4 K4 => ⟨1, v4, rfl, rfl, ?_⟩⟩
      have K24 := (K3.trans (Kp.new (o := .lst [.int 1, .int 2, .int 3, .int 9, .int (10 ^ (6 : Int).toNat), .int 2]) np)).trans K4
      have hL4 := K24 _ _ hLd hLd hL2
      have KK := K2.trans K24
      refine ⟨fun σ' H' => ∃ (y3 : Option V) (z : Int), σ' = [some (.ref d), some (.ref wa), some (.ref L), y3, some (.int way), some (.int z)] ∧ 1 ≤ z ∧ z ≤ 10 ^ 30 ∧ Same H4 H', ?_, ?_⟩
      · refine ⟨.int way, rfl, rfl, _, rfl, ite2 (fun e => ?_) (fun e => ?_)⟩
        · have hw5 : way = 5 := V.int.inj (of_decide_eq_true e)
          have hm2 := m2 hw5
          refine ⟨10, 30, rfl, rfl, ⟨by decide, by decide, by decide⟩, 10, 30, rfl, rfl, ⟨by decide, by decide, by decide⟩, _, 1, rfl, rfl, by show 2 ≤ sizeLine; decide, fun r nr => ?_⟩
          have h01 : v4 = 0 ∨ v4 = 1 := by omega
          rcases h01 with rfl | rfl
          · exact ⟨.int (1 + 0), rfl, 1 + 0, 1, rfl, rfl, r, _, _, _, rfl, rfl, SqL.of upd_same, rfl, _, _, rfl, by decide, by decide, same_new nr⟩
          · exact ⟨.int (1 + 1), rfl, 1 + 1, 1, rfl, rfl, r, _, _, _, rfl, rfl, SqL.of upd_same, rfl, _, _, rfl, by decide, by decide, same_new nr⟩
        · exact ⟨_, _, rfl, by omega, by omega, Same.refl H4⟩
      rintro σ' H5 ⟨y3', z, rfl, z0, z1, s5⟩
      have hL5 := s5 _ _ hL4
      refine ⟨.ref L, rfl, .inl ⟨rfl, _, SqL.of hL5⟩, .int z, rfl, L, _, _, rfl, rfl, hL5, by rw [List.length_map]; exact small1000 (by omega), ?_⟩
      refine ⟨_, _, _, ws ++ [z], rfl, by rw [upd_same, List.map_append]; rfl, by rw [List.length_append, lw]; rfl, fun x hx => ?_, ((D4.same s5).mut hLd).mono (by omega), (KK.trans (Same.kp s5)).mut nL0⟩
      rcases List.mem_append.mp hx with h | h
      · exact ow x h
      · rw [List.mem_singleton.mp h]
        exact ⟨z0, z1⟩
    · rintro σ' H2 ⟨y3, y4, y5, ws, rfl, hL2, lw, ow, D2, K2⟩
      rw [hlen] at lw
      refine ⟨.ref L, rfl, L, _, rfl, .inl ⟨SqL.of hL2, fun r nr => ?_⟩⟩
      refine q (.ref r) (gW ws) _ (.inr ⟨r, ws, rfl, upd_same, fun x hx => ?_⟩) (fun x hx => ?_) ((D2.new nr).mono (by omega)) (K2.trans (Kp.new nr))
      · have := mem_rng.mp hx
        exact ⟨⟨this.1, by omega⟩, rfl⟩
      · have hx' := mem_rng.mp hx
        have hb : x.toNat < ws.length := by omega
        unfold gW
        rw [List.getD_eq_getElem?_getD, List.getElem?_eq_getElem hb]
        exact ow _ (List.getElem_mem hb)
end
/-! ### the script stays -/
theorem Kt.seq {Ps : List Addr} {K : PySem.W.Frag} {H H' : Hp} {a : Addr} {xs : List V} (k : Kt Ps H H') (t : Tabs Ps H) (h : SqL K H a xs) : SqL K H' a xs := by
  rcases h with (h | ⟨o, h⟩) | h
  · exact .inl (.inl (k.lst t h))
  · exact .inl (.inr ⟨o, k.keep _ _ (t.out h fun _ z => by cases z) h⟩)
  · exact .inr h
theorem sql_ne {K : PySem.W.Frag} {H : Hp} {a d : Addr} {xs : List V} (h : SqL K H a xs) (nd : H d = none) : a ≠ d ∨ ∀ H', SqL K H' a xs := by
  rcases h with (h | ⟨o, h⟩) | h
  · exact .inl (ne_of_none h nd)
  · exact .inl (ne_of_none h nd)
  · exact .inr fun _ => .inr h
theorem sql_well {K : PySem.W.Frag} {H H' : Hp} {a d : Addr} {xs : List V} (h : SqL K H a xs) (ne : a ≠ d ∨ ∀ H', SqL K H' a xs) (k : Kp d d H H') : SqL K H' a xs := by
  rcases ne with ne | f
  · rcases h with (h | ⟨o, h⟩) | h
    · exact .inl (.inl (k _ _ ne ne h))
    · exact .inl (.inr ⟨o, k _ _ ne ne h⟩)
    · exact .inr h
  · exact f H'
theorem map_take_snoc {α β : Type} {f : α → β} {xs : List α} {i : Nat} {x : α} (h : xs[i]? = some x) : (xs.take (i + 1)).map f = (xs.take i).map f ++ [f x] := by
  rw [List.take_add_one, h, List.map_append]
  rfl
/-! ### own refusals -/
/-- a class of refusals, at D, named x, under WebError, at W -/
structure RefT (K : PySem.W.Frag) (mg : Str → Option Value) (x : Str) (D W : Addr) : Prop where
  gD : mg x = some (.ref D)
  gW : mg "WebError" = some (.ref W)
  exc : PySem.W.excIn K D [.type "ValueError", .type "Exception", .type "BaseException", .type "object"] "ValueError.__new__" = true
  kD : PySem.W.keepIn K (.ref D) = true
  tD : PySem.W.typeIn K (.ref D) = some (.type "type")
  ec : ExcC K D
  web : PySem.W.exmOne K (.ref D) (.ref W) = some true
/-- what isinstance tells of its refusals: of the class named x, at C, b -/
structure KitT (K : PySem.W.Frag) (mg : Str → Option Value) (D : Addr) (x : Str) (C : Addr) (b : Bool) : Prop where
  g : mg x = some (.ref C)
  k : PySem.W.kitOne K (.ref D) (.ref C) = some b
section
variable {X : Cx}
def rIsX (K : PySem.W.Frag) (a : Addr) (cls : Value) (d : Option Addr) : List V → Hp → VK → Prop := fun xs H Q => ∃ D, ExcC K D ∧ cls = .ref D ∧ d = none ∧ rIsE K D a xs H Q
theorem call_isX {a : Addr} {cls : Value} {d : Option Addr} {oe : Obj} {pn : List (Addr × Obj)} (hz : Zc cls d oe) (hf : ∃ vs, oe.data = .fields vs) : CallR (X.suite a ((a, oe) :: pn)) (.builtin "isinstance") (rIsX X.K a cls d) := by
  intro pins s σ H xs us Q I r h
  obtain ⟨D, C, rfl, rfl, h⟩ := h
  exact call_isE C hz hf pins s σ H xs us Q I r h
end
def DfX (P : Program) (w : World) (K : PySem.W.Frag) (mg : Str → Option Value) (base : Heap) (k : Nat) (x : Str) (ps : List Str) (sp : Sp) : Prop :=
  ∃ (f : Addr) (fd : FuncData), FnOk P w K mg base (L2.CX P w) k f fd ps sp ∧ mg x = some (.ref f) ∧ PySem.W.keepIn K (.ref f) = true ∧ Binds K fd ps []
theorem DfX.of {P : Program} {w : World} {K : PySem.W.Frag} {mg : Str → Option Value} {base : Heap} {x : Str} {st : Stmt} {f : Addr} {fd : FuncData} {k : Nat} {ps : List Str} {sp : Sp} (g : mg x = some (.ref f)) (F : Fun K x x st f fd) (G : FnOk P w K mg base (L2.CX P w) k f fd ps sp)
    (h : ∀ (kV doc pm : Value) (an : Option Addr) (cdv ct : Value) (us : List Value), us.length = ps.length → bindArgs (PySem.W.fnOf x x (defArgs st) (defBody st) (defScope st) .none kV doc pm an cdv ct) ⟨us, []⟩ = pure (ps.zip us)) : DfX P w K mg base k x ps sp :=
  ⟨f, fd, G, g, F.kp, F.binds h⟩
/-- where a class of refusals stands -/
structure ErrK (K : PySem.W.Frag) (x : Str) (D W : Addr) : Prop where
  ns : PySem.W.nsIn K mainGlobals x = some (some (.ref D))
  nw : PySem.W.nsIn K mainGlobals "WebError" = some (some (.ref W))
  exc : PySem.W.excIn K D [.type "ValueError", .type "Exception", .type "BaseException", .type "object"] "ValueError.__new__" = true
  kD : PySem.W.keepIn K (.ref D) = true
  tD : PySem.W.typeIn K (.ref D) = some (.type "type")
  ec : ExcC K D
  web : PySem.W.exmOne K (.ref D) (.ref W) = some true
theorem errK_mk {K : PySem.W.Frag} {x : Str} {D W : Addr} (p1 : PySem.W.nsIn K mainGlobals x = some (some (.ref D))) (p2 : PySem.W.nsIn K mainGlobals "WebError" = some (some (.ref W)))
    (p3 : PySem.W.excIn K D [.type "ValueError", .type "Exception", .type "BaseException", .type "object"] "ValueError.__new__" = true) (p4 : PySem.W.keepIn K (.ref D) = true) (p5 : PySem.W.typeIn K (.ref D) = some (.type "type"))
    (p6 : PySem.W.findIn K (.ref D) "__getattribute__" = some (some (.builtin "BaseException.__getattribute__"))) (p7 : PySem.W.findIn K (.ref D) "__getattr__" = some none) (p8 : PySem.W.subIn K (.ref D) (.type "BaseException") = some true) (p9 : PySem.W.hasDictIn K D = true)
    (p10 : PySem.W.findIn K (.ref D) "__class__" = some (some (.builtin "object.__class__"))) (p11 : PySem.W.specialIn K (.builtin "object.__class__") "__get__" = some (some (.builtin "getset_descriptor.__get__"))) (p12 : PySem.W.takesIn K (.builtin "object.__class__") = some true) (p13 : PySem.W.mroIn K D (.type "object") = some true)
    (p14 : PySem.W.subIn K (.ref W) (.type "BaseException") = some true) (p15 : PySem.W.hasDictIn K W = true) (p16 : PySem.W.typeIn K (.ref W) = some (.type "type")) (p17 : PySem.W.subIn K (.ref D) (.ref W) = some true) : ErrK K x D W :=
  ⟨p1, p2, p3, p4, p5, ⟨p6, p7, p8, p9, p10, p11, p12, p13⟩, PySem.W.exm_ref p14 p15 p16 p17⟩
theorem ErrK.ref {K : PySem.W.Frag} {mg : Str → Option Value} {h : Heap} {x : Str} {D W : Addr} (e : ErrK K x D W) (X : K.In h) (G : h.Ns mainGlobals mg) : RefT K mg x D W :=
  ⟨PySem.W.mg_of X G e.ns, PySem.W.mg_of X G e.nw, e.exc, e.kD, e.tD, e.ec, e.web⟩
structure KitK (K : PySem.W.Frag) (D : Addr) (x : Str) (C : Addr) (b : Bool) : Prop where
  ns : PySem.W.nsIn K mainGlobals x = some (some (.ref C))
  k : PySem.W.kitOne K (.ref D) (.ref C) = some b
theorem kitK_mk {K : PySem.W.Frag} {D : Addr} {x : Str} {C : Addr} {b : Bool} (p1 : PySem.W.nsIn K mainGlobals x = some (some (.ref C))) (p2 : PySem.W.kitOne K (.ref D) (.ref C) = some b) : KitK K D x C b := ⟨p1, p2⟩
theorem KitK.kit {K : PySem.W.Frag} {mg : Str → Option Value} {h : Heap} {D : Addr} {x : Str} {C : Addr} {b : Bool} (e : KitK K D x C b) (X : K.In h) (G : h.Ns mainGlobals mg) : KitT K mg D x C b := ⟨PySem.W.mg_of X G e.ns, e.k⟩
/-! ### moves: the mathematics -/
/-- the next place that moves over -/
def Nxt (g : Int → Int) (ts : List Tie) (n : Nat) (ss : List Int) (p : Int) : Prop := 0 ≤ p ∧ p < n ∧ 0 < lean g ss ts p ∧ (∀ q : Int, 0 ≤ q → q < n → lean g ss ts q ≤ lean g ss ts p) ∧ ∀ q : Int, 0 ≤ q → q < p → lean g ss ts q < lean g ss ts p
def Calm (g : Int → Int) (ts : List Tie) (n : Nat) (ss : List Int) : Prop := ∀ q : Int, 0 ≤ q → q < n → lean g ss ts q ≤ 0
theorem Nxt.uniq {g : Int → Int} {ts : List Tie} {n : Nat} {ss : List Int} {p q : Int} (h : Nxt g ts n ss p) (k : Nxt g ts n ss q) : p = q := by
  obtain ⟨h0, h1, _, h2, h3⟩ := h
  obtain ⟨k0, k1, _, k2, k3⟩ := k
  have a := h2 q k0 k1
  have b := k2 p h0 h1
  by_cases e : p < q
  · have := k3 p h0 e
    omega
  · by_cases e2 : q < p
    · have := h3 q k0 e2
      omega
    · omega
theorem Nxt.no {g : Int → Int} {ts : List Tie} {n : Nat} {ss : List Int} {p : Int} (h : Nxt g ts n ss p) (c : Calm g ts n ss) : False := by
  have := c p h.1 h.2.1
  have := h.2.2.1
  omega
inductive Mvs (g : Int → Int) (ts : List Tie) (n : Nat) (s0 : List Int) : List Int → List Int → Prop
  | nil : Mvs g ts n s0 [] s0
  | snoc {ps e : List Int} {p : Int} : Mvs g ts n s0 ps e → Nxt g ts n e p → Mvs g ts n s0 (ps ++ [p]) (moved e p)
theorem Mvs.cut {g : Int → Int} {ts : List Tie} {n : Nat} {s0 ps e : List Int} (h : Mvs g ts n s0 ps e) : ∀ m, m ≤ ps.length → ∃ e', Mvs g ts n s0 (ps.take m) e' ∧ (m < ps.length → ∃ p, ps[m]? = some p ∧ Nxt g ts n e' p) ∧ (m = ps.length → e' = e) := by
  induction h with
  | nil =>
    intro m hm
    have : m = 0 := by simpa using hm
    subst this
    exact ⟨_, .nil, fun z => absurd z (Nat.lt_irrefl _), fun _ => rfl⟩
  | @snoc ps e p h hn ih =>
    intro m hm
    rw [List.length_append] at hm
    simp only [List.length_cons, List.length_nil] at hm
    by_cases hm1 : m ≤ ps.length
    · obtain ⟨e', h1, h2, h3⟩ := ih m hm1
      refine ⟨e', by rw [List.take_append_of_le_length hm1]; exact h1, fun _ => ?_, fun z => ?_⟩
      · by_cases hm2 : m < ps.length
        · obtain ⟨q, hq, hn'⟩ := h2 hm2
          exact ⟨q, by rw [List.getElem?_append_left hm2]; exact hq, hn'⟩
        · have hm3 : m = ps.length := by omega
          rw [h3 hm3, hm3]
          exact ⟨p, by simp, hn⟩
      · rw [List.length_append] at z
        simp only [List.length_cons, List.length_nil] at z
        omega
    · have hm3 : m = ps.length + 1 := by omega
      subst hm3
      refine ⟨_, ?_, fun z => ?_, fun _ => rfl⟩
      · rw [List.take_of_length_le (by simp)]
        exact h.snoc hn
      · rw [List.length_append] at z
        simp at z
theorem Mvs.end_uniq {g : Int → Int} {ts : List Tie} {n : Nat} {s0 : List Int} : ∀ {ps qs e f : List Int}, Mvs g ts n s0 ps e → Mvs g ts n s0 qs f → ps.length = qs.length → ps = qs ∧ e = f := by
  intro ps qs e f h
  induction h generalizing qs f with
  | nil =>
    intro k hl
    cases k with
    | nil => exact ⟨rfl, rfl⟩
    | snoc _ _ => simp at hl
  | snoc h hn ih =>
    intro k hl
    cases k with
    | nil => simp at hl
    | snoc k kn =>
      obtain ⟨e1, e2⟩ := ih k (by simpa using hl)
      subst e1 e2
      rw [hn.uniq kn]
      exact ⟨rfl, rfl⟩
/-- a run that is calm at its end is no longer than any other one -/
theorem Mvs.calm_le {g : Int → Int} {ts : List Tie} {n : Nat} {s0 ps qs e f : List Int} (h : Mvs g ts n s0 ps e) (k : Mvs g ts n s0 qs f) (c : Calm g ts n e) : qs.length ≤ ps.length := by
  by_cases hl : qs.length ≤ ps.length
  · exact hl
  · obtain ⟨e', h1, h2, _⟩ := k.cut ps.length (by omega)
    obtain ⟨p, _, hn⟩ := h2 (by omega)
    have := (h.end_uniq h1 (by rw [List.length_take]; omega)).2
    subst this
    exact (hn.no c).elim
theorem Mvs.bin {g : Int → Int} {ts : List Tie} {n : Nat} {s0 ps e : List Int} (h : Mvs g ts n s0 ps e) (b : Bin s0) (hl : s0.length = n) : Bin e ∧ e.length = n := by
  induction h with
  | nil => exact ⟨b, hl⟩
  | @snoc ps e p h hn ih =>
    refine ⟨fun x hx => ?_, by rw [moved_len]; exact ih.2⟩
    rcases List.mem_or_eq_of_mem_set hx with h | h
    · exact ih.1 x h
    · have := sd_bin ih.1 hn.1 (by rw [ih.2]; exact hn.2.1)
      omega
/-- of the leans the first of the greatest -/
theorem nxt_of {g : Int → Int} {ts : List Tie} {n : Nat} {ss : List Int} {m : Int} {j : Nat} (hmax : ∀ y ∈ (rng n).map (lean g ss ts), y ≤ m) (pos : 0 < m) (hj : ((rng n).map (lean g ss ts))[j]? = some m) (hno : ∀ i, i < j → ((rng n).map (lean g ss ts))[i]? ≠ some m) : Nxt g ts n ss j := by
  have at' : ∀ i : Nat, i < n → ((rng n).map (lean g ss ts))[i]? = some (lean g ss ts i) := fun i hi => by
    unfold rng
    rw [List.map_map, List.getElem?_map, List.getElem?_range hi]
    rfl
  have hjn : j < n := by
    have := (List.getElem?_eq_some_iff.mp hj).1
    rw [List.length_map, rng_length] at this
    exact this
  have ej : lean g ss ts j = m := by
    have := at' j hjn
    rw [hj] at this
    exact (Option.some.inj this).symm
  refine ⟨by omega, by omega, by omega, fun q h0 h1 => ?_, fun q h0 h1 => ?_⟩
  · rw [ej]
    exact hmax _ (List.mem_map_of_mem (mem_rng.mpr ⟨h0, h1⟩))
  · have h2 := hmax _ (List.mem_map_of_mem (mem_rng.mpr ⟨h0, by omega⟩) : lean g ss ts q ∈ _)
    have h3 : lean g ss ts q ≠ m := fun e => by
      have z := at' q.toNat (by omega)
      rw [show ((q.toNat : Nat) : Int) = q from by omega, e] at z
      exact hno q.toNat (by omega) z
    omega
theorem first_at {ns : List Int} {m : Int} (h : m ∈ ns) : ∃ j : Nat, ns[j]? = some m ∧ ∀ i : Nat, i < j → ns[i]? ≠ some m := by
  induction ns with
  | nil => simp at h
  | cons x xs ih =>
    by_cases e : x = m
    · exact ⟨0, by rw [e]; rfl, fun i hi => absurd hi (Nat.not_lt_zero _)⟩
    · have h' : m ∈ xs := by
        rcases List.mem_cons.mp h with z | z
        · exact absurd z.symm e
        · exact z
      obtain ⟨j, h1, h2⟩ := ih h'
      refine ⟨j + 1, by simpa using h1, fun i hi => ?_⟩
      cases i with
      | zero => simpa using e
      | succ i => simpa using h2 i (by omega)
/-! ### settled -/
theorem room65 {k : Nat} {A : PySem.Around} (r : Room k A) : A.units + 65 < cLine := by have := r.un; omega
def spOver : Sp := fun vs H Q _ => ∃ (a : Addr) (ss : List Int) (p : Int), vs = [.ref a, .int p] ∧ H a = some (.tup (ss.map V.int)) ∧ ss.length ≤ 40 ∧ 0 ≤ p ∧ p < ss.length ∧ ∀ r H', Same H H' → H' r = some (.tup ((moved ss p).map V.int)) → Q (.ref r) H'
def spSettled (D : Addr) : Sp := fun vs H Q E => ∃ (v wv : V) (a : Addr) (n : Int) (ts : List Tie) (ss : List Int) (g : Int → Int), vs = [v, wv, .ref a] ∧ WebAt H v n ts ∧ WebOk n ts ∧ Wts H wv (rng ts.length) g ∧ H a = some (.tup (ss.map V.int)) ∧ (ss.length : Int) = n ∧ Bin ss ∧
  (∀ ps cur b r t H', Mvs g ts n.toNat ss ps cur → Calm g ts n.toNat cur → ps.length ≤ 16 → Same H H' → H' r = some (.tup [.ref b, .ref t]) → H' b = some (.tup (cur.map V.int)) → H' t = some (.tup (ps.map V.int)) → Q (.ref r) H') ∧
  (∀ ps cur p H', Mvs g ts n.toNat ss ps cur → Nxt g ts n.toNat cur p → ps.length = 16 → Same H H' → E (.ref D) none H')
section
variable {P : Program} {w : World} {K : PySem.W.Frag} {mg : Str → Option Value} {base : Heap}
theorem ok_moved_over {f : Addr} {fd : FuncData} (F : Fun K "moved_over" "moved_over" s_moved_over f fd) : FnOk P w K mg base CX0 1 f fd ["sides", "place"] spOver := by
  refine F.ok sc_moved_over (fun vs H Q E h => ?_) (fun cdv A outer s H vs Q E hr h => ?_)
  · obtain ⟨a, ss, p, rfl, _⟩ := h
    rfl
  · obtain ⟨a, ss, p, rfl, ha, few, p0, pl, q⟩ := h
    refine ⟨_, (pss_one (ps_ret (pe_op op_catU (pe_op op_catU (pe_slice sl_tupU (pv 0) po_none (po_some (pv 1))) (pe_tup (pa_cons (pe_op op_sub pe_int (pe_ix ix_tup (pv 0) (pv 1) (fun _ _ => rfl))) pa_nil))) (pe_slice sl_tupU (pv 0) (po_some (pe_op op_add (pv 1) pe_int)) po_none)))), ?_⟩
    have lc1 := cutV_length (ss.map V.int) none (some p)
    have lc2 := cutV_length (ss.map V.int) (some (p + 1)) none
    rw [List.length_map] at lc1 lc2
    refine ⟨.ref a, rfl, .int p, rfl, p, rfl, a, _, rfl, ha, fun r1 H5 s5 h5 => ?_⟩
    refine ⟨.ref a, rfl, .int p, rfl, a, _, p, _, rfl, rfl, SqT.of (s5 _ _ ha), atI_sd p0 pl, 1, _, rfl, rfl, by show 1 ≤ sizeLine; decide, fun r2 n2 => ?_⟩
    have s6 := s5.trans (same_new (o := .tup [.int (1 - sd ss p)]) n2)
    refine ⟨r1, r2, _, _, rfl, rfl, same_new n2 _ _ h5, upd_same, by simp only [List.length_cons, List.length_nil]; omega, fun r3 H7 s7 h7 => ?_⟩
    have s67 := s6.trans s7
    refine ⟨.ref a, rfl, .int p, rfl, p, 1, rfl, rfl, _, rfl, a, _, rfl, s67 _ _ ha, fun r4 H8 s8 h8 => ?_⟩
    refine ⟨r3, r4, _, _, rfl, rfl, s8 _ _ h7, h8, by rw [List.length_append]; simp only [List.length_cons, List.length_nil]; omega, fun r5 H9 s9 h9 => ?_⟩
    rw [moved_cut p0 pl] at h9
    exact q r5 _ ((s67.trans s8).trans s9) h9
theorem ok_settled {f : Addr} {fd : FuncData} {D W : Addr} (F : Fun K "settled" "settled" s_settled f fd) (M : Free mg) (mmax : mg "max" = none) (T : RefT K mg "TooMany" D W) {tm : Tok} (gM : mg "MOST_MOVES" = some (.int 16 tm)) (D_leans : Df P w K mg base 2 "leans" ["web", "weights", "sides"] spLeans) (D_moved_over : Df P w K mg base 1 "moved_over" ["sides", "place"] spOver) : FnOk P w K mg base (L2.CX P w) 3 f fd ["web", "weights", "sides"] (spSettled D) := by
  obtain ⟨f_leans, fd_leans, G_leans, g_leans, k_leans, b_leans⟩ := D_leans
  obtain ⟨f_moved_over, fd_moved_over, G_moved_over, g_moved_over, k_moved_over, b_moved_over⟩ := D_moved_over
  refine F.okX sc_settled (fun vs H Q E h => ?_) (fun cdv A outer s H vs Q E hr h => ?_)
  · obtain ⟨v, wv, a, n, ts, ss, g, rfl, _⟩ := h
    rfl
  · obtain ⟨v, wv, a, n, ts, ss, g, rfl, hW, ok, hw, ha, hl, bn, q, qe⟩ := h
    refine ⟨_, (pss_cons (ps_set (i := 3) sc_settled.nd rfl (.inl rfl) (pe_call G_leans hr (by rfl) g_leans k_leans b_leans .nil pass0 (pa_cons (pv 0) (pa_cons (pv 1) (pa_cons (pv 2) pa_nil)))))
      (pss_cons (ps_set (i := 4) sc_settled.nd rfl (.inl rfl) (pe_lst pa_nil))
      (pss_cons (ps_while (passes_of rfl) (pt_cmpR op_gt (pe_callB (cr_maxT rfl (room65 hr)) (by rfl) mmax (by decide +kernel) (pa_cons (pv 3) pa_nil)) pe_int (nomark _))
        (pss_cons (ps_if (pt_cmpR op_eq (pe_callB call_len_seq (by rfl) M.len PySem.boot_len (pa_cons (pv 4) pa_nil)) (pe_glob (v := .int 16) rfl gM ⟨_, rfl⟩) (nomark _))
          (pss_one (ps_raise rfl (takes_of rfl rfl rfl rfl) (pmk_own PySem.F.excBase_ValueError T.exc T.gD T.kD (raises_own T.ec.hs T.tD) rfl)))
          pss_nil)
        (pss_cons (ps_set (i := 5) sc_settled.nd rfl (.inl rfl) (pe_bmT PySem.F.slot_tuple_index PySem.F.type_tuple_index mt_tidx (pv 3) (pa_cons (pe_callB (cr_maxT rfl (room65 hr)) (by rfl) mmax (by decide +kernel) (pa_cons (pv 3) pa_nil)) pa_nil)))
        (pss_cons (ps_expr (pe_bm PySem.F.plainAttrs_list PySem.F.slot_list_append PySem.F.type_list_append mt_append (pv 4) (pa_cons (pv 5) pa_nil)))
        (pss_cons (ps_set (i := 2) sc_settled.nd rfl (.inl rfl) (pe_call G_moved_over (hr.mono (by decide)) (by rfl) g_moved_over k_moved_over b_moved_over .nil pass0 (pa_cons (pv 2) (pa_cons (pv 5) pa_nil))))
        (pss_one (ps_set (i := 3) sc_settled.nd rfl (.inl rfl) (pe_call G_leans hr (by rfl) g_leans k_leans b_leans .nil pass0 (pa_cons (pv 0) (pa_cons (pv 1) (pa_cons (pv 2) pa_nil)))))))))))
      (pss_one (ps_ret (pe_tup (pa_cons (pv 2) (pa_cons (pe_callTy call_tuple_of (by rfl) M.tuple (by decide +kernel) (pa_cons (pv 4) pa_nil)) pa_nil)))))))), ?_⟩
    obtain ⟨k, rfl⟩ : ∃ k : Nat, n = k := ⟨n.toNat, by have := ok.lo; omega⟩
    have hk := ok.hi
    have hk1 := ok.lo
    rw [Int.toNat_natCast] at q qe
    refine ⟨v, rfl, wv, rfl, .ref a, rfl, v, wv, a, k, ts, ss, g, rfl, hW, ok, hw, ha, hl, fun r H1 s1 h1 => ⟨Nat.zero_le _, fun L nL => ?_⟩⟩
    rw [Int.toNat_natCast] at h1
    have nL0 : H L = none := s1.free nL
    have sL := same_new (o := .lst []) nL
    refine ⟨fun m σ' H' => ∃ (y5 : Option V) (b r : Addr) (ps cur : List Int), σ' = [some v, some wv, some (.ref b), some (.ref r), some (.ref L), y5] ∧ H' b = some (.tup (cur.map V.int)) ∧ Mvs g ts k ss ps cur ∧ NoD H' r (lf (lean g cur ts) k) ∧ H' L = some (.lst (ps.map V.int)) ∧ ps.length + m = 16 ∧ Same H H', ⟨16, none, a, r, [], ss, rfl, sL _ _ (s1 _ _ ha), .nil, h1.same sL, upd_same, rfl, s1.trans sL⟩, ?_⟩
    rintro m σ' H2 ⟨y5, b, r, ps, cur, rfl, hb, mv, hr2, hL, hm, s2⟩
    have bc := mv.bin bn (by omega)
    have hr2' := hr2
    rw [lf_ints] at hr2
    have ne : 0 < ((rng k).map (lean g cur ts)).length := by rw [List.length_map, rng_length]; omega
    refine ⟨.ref r, rfl, r, _, rfl, hr2.sq, ne, fun x hx hmax => ⟨_, 0, rfl, rfl, _, rfl, ite2 (fun e => ?_) (fun e => ?_)⟩⟩
    · have pos : 0 < x := of_decide_eq_true e
      obtain ⟨j, ej, eno⟩ := first_at hx
      have nx := nxt_of hmax pos ej eno
      refine ⟨fun σ' H' => ∃ m', m' < m ∧ ∃ (y5 : Option V) (b r : Addr) (ps cur : List Int), σ' = [some v, some wv, some (.ref b), some (.ref r), some (.ref L), y5] ∧ H' b = some (.tup (cur.map V.int)) ∧ Mvs g ts k ss ps cur ∧ NoD H' r (lf (lean g cur ts) k) ∧ H' L = some (.lst (ps.map V.int)) ∧ ps.length + m' = 16 ∧ Same H H', fun _ _ h => h, ?_⟩
      refine ⟨.ref L, rfl, L, _, rfl, .inl (SqL.of hL), rfl, _, rfl, ite2 (fun e2 => ?_) (fun e2 => ?_)⟩
      · have hl16 : ((ps.map V.int).length : Int) = 16 := V.int.inj (of_decide_eq_true e2)
        rw [List.length_map] at hl16
        exact qe ps cur j H2 mv nx (by omega) s2
      · have hl16 : ps.length ≠ 16 := fun z => e2 (decide_eq_true (by rw [List.length_map, z]; rfl))
        refine ⟨.ref r, rfl, ⟨r, _, rfl, hr2⟩, .ref r, rfl, r, _, rfl, hr2.sq, ne, fun x2 hx2 hmax2 => ?_⟩
        have ex : x2 = x := Int.le_antisymm (hmax _ hx2) (hmax2 _ hx)
        subst ex
        refine ⟨r, _, x2, j, rfl, rfl, hr2.sq, ej, eno, .ref L, rfl, .inl ⟨rfl, _, SqL.of hL⟩, .int j, rfl, L, _, _, rfl, rfl, hL, by rw [List.length_map]; exact small1000 (by omega), ?_⟩
        have hb3 := tk_lst (ys := ps.map V.int ++ [.int j]) hL _ _ hb
        have s3 : Same H (upd H2 L (.lst (ps.map V.int ++ [.int j]))) := Same.mut s2 nL0
        have hL3 : (upd H2 L (.lst (ps.map V.int ++ [.int j]))) L = some (.lst ((ps ++ [(j : Int)]).map V.int)) := by rw [upd_same, List.map_append]; rfl
        generalize upd H2 L (.lst (ps.map V.int ++ [.int j])) = H3 at hb3 s3 hL3
        refine ⟨.ref b, rfl, .int j, rfl, b, cur, j, rfl, hb3, by omega, nx.1, by rw [bc.2]; exact nx.2.1, fun b4 H4 s4 h4 => ?_⟩
        have s04 := s3.trans s4
        refine ⟨v, rfl, wv, rfl, .ref b4, rfl, v, wv, b4, k, ts, moved cur j, g, rfl, hW.tk (Same.tk s04), ok, hw.tk (Same.tk s04), h4, by rw [moved_len, bc.2], fun r5 H5 s5 h5 => ?_⟩
        rw [Int.toNat_natCast] at h5
        exact ⟨m - 1, by omega, _, b4, r5, ps ++ [(j : Int)], moved cur j, rfl, s5 _ _ h4, mv.snoc nx, h5, s5 _ _ (s4 _ _ hL3), by rw [List.length_append]; simp only [List.length_cons, List.length_nil]; omega, s04.trans s5⟩
    · have c : Calm g ts k cur := fun q h0 h1 => by
        have := hmax _ (List.mem_map_of_mem (mem_rng.mpr ⟨h0, h1⟩) : lean g cur ts q ∈ _)
        have hx0 : ¬ 0 < x := fun z => e (decide_eq_true z)
        omega
      refine ⟨.ref b, rfl, .ref L, rfl, L, _, rfl, .inl ⟨SqL.of hL, fun t nt => ⟨by show 2 ≤ sizeLine; decide, fun R nR => ?_⟩⟩⟩
      have sR := same_new (o := .tup [.ref b, .ref t]) nR
      have st := (same_new (o := .tup (ps.map V.int)) nt).trans sR
      exact q ps cur b R t _ mv c (by omega) (s2.trans st) upd_same (st _ _ hb) (sR _ _ upd_same)
end
/-! ### k74: runs that are alike -/
def ovP (P ss : List Int) : List Int := (rng ss.length).map fun i => if inP P i = true then 1 - sd ss i else sd ss i
theorem ovP_len (P ss : List Int) : (ovP P ss).length = ss.length := by unfold ovP; rw [List.length_map, rng_length]
theorem sd_ext {xs ys : List Int} (l : xs.length = ys.length) (h : ∀ i : Int, 0 ≤ i → i < xs.length → sd xs i = sd ys i) : xs = ys := by
  refine List.ext_getElem l fun j h1 h2 => ?_
  have e := h j (by omega) (by omega)
  unfold sd at e
  rw [Int.toNat_natCast, List.getD_eq_getElem?_getD, List.getD_eq_getElem?_getD, List.getElem?_eq_getElem h1, List.getElem?_eq_getElem h2] at e
  exact e
theorem sd_ovP (P : List Int) {ss : List Int} {i : Int} (h0 : 0 ≤ i) (h1 : i < ss.length) : sd (ovP P ss) i = if inP P i = true then 1 - sd ss i else sd ss i := by
  have e : ((i.toNat : Nat) : Int) = i := by omega
  have h : i.toNat < ss.length := by omega
  show (ovP P ss).getD i.toNat 0 = _
  unfold ovP rng
  rw [List.getD_eq_getElem?_getD, List.map_map, List.getElem?_map, List.getElem?_range h]
  show (if inP P (i.toNat : Nat) = true then 1 - sd ss (i.toNat : Nat) else sd ss (i.toNat : Nat)) = _
  rw [e]
theorem ovP_bin {P ss : List Int} (b : Bin ss) : Bin (ovP P ss) := fun x hx => by
  obtain ⟨i, hi, rfl⟩ := List.mem_map.mp hx
  have hi' := mem_rng.mp hi
  have := sd_bin b hi'.1 (by omega)
  split <;> omega
theorem moved_ovP {ss : List Int} {p : Int} (p0 : 0 ≤ p) (p1 : p < ss.length) : ovP [p] ss = moved ss p := by
  refine sd_ext (by rw [ovP_len, moved_len]) fun i h0 h1 => ?_
  rw [ovP_len] at h1
  rw [sd_ovP _ h0 h1, sd_moved p0 p1 h0 h1]
  by_cases e : i = p
  · rw [if_pos e, if_pos (by unfold inP; rw [e]; simp), e]
  · rw [if_neg e, if_neg (by unfold inP; simpa using e)]
theorem ovP_moved {P ss : List Int} {p : Int} (p0 : 0 ≤ p) (p1 : p < ss.length) : ovP P (moved ss p) = moved (ovP P ss) p := by
  refine sd_ext (by rw [ovP_len, moved_len, moved_len, ovP_len]) fun i h0 h1 => ?_
  rw [ovP_len, moved_len] at h1
  rw [sd_ovP _ h0 (by rw [moved_len]; exact h1), sd_moved p0 p1 h0 h1, sd_moved p0 (by rw [ovP_len]; exact p1) h0 (by rw [ovP_len]; exact h1), sd_ovP _ h0 h1, sd_ovP _ p0 p1]
  by_cases e : i = p
  · subst e
    rw [if_pos rfl, if_pos rfl]
    split <;> omega
  · rw [if_neg e, if_neg e]
theorem brk_turn {P ss : List Int} (b : Bin ss) {t : Tie} (ok : TieOk ss.length t) : brk (ovP P ss) (turnT P t) = brk ss t := by
  have b1 := sd_bin b ok.1 ok.2.1
  have b2 := sd_bin b ok.2.2.1 ok.2.2.2.1
  unfold turnT
  by_cases e : inP P t.one = inP P t.other
  · rw [if_pos e]
    unfold brk
    rw [sd_ovP _ ok.1 ok.2.1, sd_ovP _ ok.2.2.1 ok.2.2.2.1, e]
    congr 1
    rw [decide_eq_decide]
    split <;> omega
  · rw [if_neg e]
    unfold brk
    show (decide (sd (ovP P ss) t.one = sd (ovP P ss) t.other) == !t.foe) = _
    rw [sd_ovP _ ok.1 ok.2.1, sd_ovP _ ok.2.2.1 ok.2.2.2.1]
    have e2 : inP P t.one = !inP P t.other := by cases h1 : inP P t.one <;> cases h2 : inP P t.other <;> first | rfl | exact absurd (h1.trans h2.symm) e
    rw [e2]
    rcases b1 with h1 | h1 <;> rcases b2 with h2 | h2 <;> rw [h1, h2] <;> cases inP P t.other <;> cases t.foe <;> rfl
theorem has_turn (P : List Int) (t : Tie) (p : Int) : has (turnT P t) p = has t p := by
  unfold turnT
  split <;> rfl
theorem tieAt_turn (P : List Int) {ts : List Tie} {k : Nat} (h : k < ts.length) : tieAt (ts.map (turnT P)) k = turnT P (tieAt ts k) := by
  rw [tieAt_of (t := turnT P ts[k]) (by rw [List.getElem?_map, List.getElem?_eq_getElem h]; rfl), tieAt_of (List.getElem?_eq_getElem h)]
theorem lean_turn {g : Int → Int} {P ss : List Int} {ts : List Tie} {p : Int} (b : Bin ss) (ok : ∀ t ∈ ts, TieOk ss.length t) : ∀ k, k ≤ ts.length → leanTo g (ovP P ss) (ts.map (turnT P)) k p = leanTo g ss ts k p
  | 0, _ => rfl
  | k + 1, h => by
    show leanTo g (ovP P ss) (ts.map (turnT P)) k p + con g (ovP P ss) (ts.map (turnT P)) k p = leanTo g ss ts k p + con g ss ts k p
    rw [lean_turn b ok k (by omega)]
    unfold con
    rw [tieAt_turn P (by omega), has_turn, brk_turn b (tieAt_ok ok (by omega))]
theorem lean_times (m : Int) (g : Int → Int) (ss : List Int) (ts : List Tie) (p : Int) : ∀ k, leanTo (fun i => m * g i) ss ts k p = m * leanTo g ss ts k p
  | 0 => by show (0 : Int) = m * 0; omega
  | k + 1 => by
    show leanTo (fun i => m * g i) ss ts k p + con (fun i => m * g i) ss ts k p = m * (leanTo g ss ts k p + con g ss ts k p)
    rw [lean_times m g ss ts p k, Int.mul_add]
    congr 1
    unfold con
    split
    · split
      · rfl
      · rw [Int.mul_neg]
    · omega
/-- a run beside another one -/
structure Sim (n : Nat) (g : Int → Int) (ts : List Tie) (g' : Int → Int) (ts' : List Tie) (τ : List Int → List Int) (m : Int) : Prop where
  pos : 0 < m
  ln : ∀ e, Bin e → e.length = n → ∀ q : Int, 0 ≤ q → q < n → lean g' (τ e) ts' q = m * lean g e ts q
  mv : ∀ e p, Bin e → e.length = n → 0 ≤ p → p < (n : Int) → τ (moved e p) = moved (τ e) p
section
variable {n : Nat} {g g' : Int → Int} {ts ts' : List Tie} {τ : List Int → List Int} {m : Int}
theorem Sim.nxt (h : Sim n g ts g' ts' τ m) {e : List Int} {p : Int} (b : Bin e) (l : e.length = n) (x : Nxt g ts n e p) : Nxt g' ts' n (τ e) p := by
  obtain ⟨p0, p1, h1, h2, h3⟩ := x
  refine ⟨p0, p1, ?_, fun q q0 q1 => ?_, fun q q0 q1 => ?_⟩
  · rw [h.ln e b l p p0 p1]
    exact Int.mul_pos h.pos h1
  · rw [h.ln e b l p p0 p1, h.ln e b l q q0 q1]
    exact Int.mul_le_mul_of_nonneg_left (h2 q q0 q1) (Int.le_of_lt h.pos)
  · rw [h.ln e b l p p0 p1, h.ln e b l q q0 (by omega)]
    exact Int.mul_lt_mul_of_pos_left (h3 q q0 q1) h.pos
theorem Sim.calm (h : Sim n g ts g' ts' τ m) {e : List Int} (b : Bin e) (l : e.length = n) (x : Calm g ts n e) : Calm g' ts' n (τ e) := fun q q0 q1 => by
  rw [h.ln e b l q q0 q1]
  have := Int.mul_le_mul_of_nonneg_left (x q q0 q1) (Int.le_of_lt h.pos)
  omega
theorem Sim.mvs (h : Sim n g ts g' ts' τ m) {s0 ps e : List Int} (b : Bin s0) (l : s0.length = n) (x : Mvs g ts n s0 ps e) : Mvs g' ts' n (τ s0) ps (τ e) := by
  induction x with
  | nil => exact .nil
  | @snoc ps e p x nx ih =>
    have be := x.bin b l
    rw [h.mv e p be.1 be.2 nx.1 nx.2.1]
    exact ih.snoc (h.nxt be.1 be.2 nx)
end
theorem sim_turn {n : Nat} {g : Int → Int} {ts : List Tie} {P : List Int} (ok : ∀ t ∈ ts, TieOk n t) : Sim n g ts g (ts.map (turnT P)) (ovP P) 1 where
  pos := by decide
  ln := fun e b l q q0 q1 => by
    unfold lean
    rw [List.length_map, lean_turn b (fun t ht => by rw [l]; exact ok t ht) _ (Nat.le_refl _)]
    omega
  mv := fun e p b l p0 p1 => ovP_moved p0 (by omega)
theorem turn_all {n : Nat} {ts : List Tie} (ok : ∀ t ∈ ts, TieOk n t) : ts.map (turnT (rng n)) = ts := by
  refine (List.map_congr_left (g := id) fun t ht => ?_).trans (List.map_id ts)
  obtain ⟨h1, h2, h3, h4, _⟩ := ok t ht
  unfold turnT
  have i1 : inP (rng n) t.one = true := decide_eq_true (mem_rng.mpr ⟨h1, h2⟩)
  have i2 : inP (rng n) t.other = true := decide_eq_true (mem_rng.mpr ⟨h3, h4⟩)
  rw [i1, i2, if_pos rfl]
  rfl
theorem sim_all {n : Nat} {g : Int → Int} {ts : List Tie} (ok : ∀ t ∈ ts, TieOk n t) : Sim n g ts g ts (ovP (rng n)) 1 := by
  have := sim_turn (g := g) (P := rng n) ok
  rw [turn_all ok] at this
  exact this
theorem sim_times {n : Nat} {g : Int → Int} {ts : List Tie} {m : Int} (h : 0 < m) : Sim n g ts (fun i => m * g i) ts id m where
  pos := h
  ln := fun e _ _ q _ _ => lean_times m g e ts q _
  mv := fun _ _ _ _ _ _ => rfl
/-- what is told of settling -/
def TV (H : Hp) (R : Addr) (g : Int → Int) (ts : List Tie) (n : Nat) (ss : List Int) : Prop :=
  (∃ ps cur b r t, Mvs g ts n ss ps cur ∧ Calm g ts n cur ∧ ps.length ≤ 16 ∧ H R = some (.tup [.bl false, .ref r]) ∧ H r = some (.tup [.ref b, .ref t]) ∧ H b = some (.tup (cur.map V.int)) ∧ H t = some (.tup (ps.map V.int))) ∨
  (∃ ps cur p, Mvs g ts n ss ps cur ∧ Nxt g ts n cur p ∧ ps.length = 16 ∧ H R = some (.tup [.bl true, .non]))
theorem TV.tk {H H' : Hp} (k : Tk H H') {R : Addr} {g : Int → Int} {ts : List Tie} {n : Nat} {ss : List Int} (h : TV H R g ts n ss) : TV H' R g ts n ss := by
  rcases h with ⟨ps, cur, b, r, t, h1, h2, h3, h4, h5, h6, h7⟩ | ⟨ps, cur, p, h1, h2, h3, h4⟩
  · exact .inl ⟨ps, cur, b, r, t, h1, h2, h3, k _ _ h4, k _ _ h5, k _ _ h6, k _ _ h7⟩
  · exact .inr ⟨ps, cur, p, h1, h2, h3, k _ _ h4⟩
/-- where the one run ends calm, the other one is told with the same places -/
theorem TV.calm {H : Hp} {R : Addr} {g : Int → Int} {ts : List Tie} {n : Nat} {ss ps cur : List Int} (h : TV H R g ts n ss) (mv : Mvs g ts n ss ps cur) (c : Calm g ts n cur) (le : ps.length ≤ 16) :
    ∃ b r t, H R = some (.tup [.bl false, .ref r]) ∧ H r = some (.tup [.ref b, .ref t]) ∧ H b = some (.tup (cur.map V.int)) ∧ H t = some (.tup (ps.map V.int)) := by
  rcases h with ⟨ps2, cur2, b, r, t, h1, h2, h3, h4, h5, h6, h7⟩ | ⟨ps2, cur2, p, h1, h2, h3, h4⟩
  · have l1 := mv.calm_le h1 c
    have l2 := h1.calm_le mv h2
    obtain ⟨e1, e2⟩ := mv.end_uniq h1 (by omega)
    rw [← e2] at h6
    rw [← e1] at h7
    exact ⟨b, r, t, h4, h5, h6, h7⟩
  · have l1 := mv.calm_le h1 c
    have e := (mv.end_uniq h1 (by omega)).2
    rw [← e] at h2
    exact (h2.no c).elim
theorem TV.not {H : Hp} {R : Addr} {g : Int → Int} {ts : List Tie} {n : Nat} {ss ps cur : List Int} {p : Int} (h : TV H R g ts n ss) (mv : Mvs g ts n ss ps cur) (nx : Nxt g ts n cur p) (le : ps.length = 16) : H R = some (.tup [.bl true, .non]) := by
  rcases h with ⟨ps2, cur2, b, r, t, h1, h2, h3, h4, h5, h6, h7⟩ | ⟨ps2, cur2, p, h1, h2, h3, h4⟩
  · have l1 := h1.calm_le mv h2
    have e := (mv.end_uniq h1 (by omega)).2
    rw [← e] at h2
    exact (nx.no h2).elim
  · exact h4
theorem lf_succ (f : Int → Int) (n : Nat) : lf f (n + 1) = lf f n ++ [V.int (f n)] := by
  unfold lf
  rw [rng_succ, List.map_append]
  rfl
theorem Wts.sub {H : Hp} {v : V} {ns ms : List Int} {g : Int → Int} (h : Wts H v ns g) (s : ∀ x ∈ ms, x ∈ ns) : Wts H v ms g := by
  rcases h with ⟨e, h⟩ | ⟨a, ws, e, h1, h2⟩
  · exact .inl ⟨e, fun x hx => h x (s x hx)⟩
  · exact .inr ⟨a, ws, e, h1, fun x hx => h2 x (s x hx)⟩
theorem bad_rng {ss : List Int} {ts : List Tie} : ∀ x ∈ bad ss ts, x ∈ rng ts.length := fun x hx => (List.mem_filter.mp hx).1
def spBrokenW (Ps : List Addr) : Sp := fun vs H Q _ => ∃ (v wv : V) (a : Addr) (n : Int) (ts : List Tie) (ss : List Int) (g : Int → Int), vs = [v, wv, .ref a] ∧ WebAt H v n ts ∧ WebOk n ts ∧ Wts H wv (rng ts.length) g ∧ H a = some (.tup (ss.map V.int)) ∧ (ss.length : Int) = n ∧ Tabs Ps H ∧
  ∀ H', Kt Ps H H' → Q (.int (badW g ss ts ts.length)) H'
section
variable {P : Program} {w : World} {K : PySem.W.Frag} {mg : Str → Option Value} {base : Heap}
theorem ok_broken_weight {f : Addr} {fd : FuncData} {Ps : List Addr} (F : Fun K "broken_weight" "broken_weight" s_broken_weight f fd) (D_mend_weight : Df P w K mg base 3 "mend_weight" ["weights", "ties"] (spMend Ps)) (D_broken_by : Df P w K mg base 2 "broken_by" ["web", "sides"] spBroken) : FnOk P w K mg base CX0 4 f fd ["web", "weights", "sides"] (spBrokenW Ps) := by
  obtain ⟨f_mend_weight, fd_mend_weight, G_mend_weight, g_mend_weight, k_mend_weight, b_mend_weight⟩ := D_mend_weight
  obtain ⟨f_broken_by, fd_broken_by, G_broken_by, g_broken_by, k_broken_by, b_broken_by⟩ := D_broken_by
  refine F.ok sc_broken_weight (fun vs H Q E h => ?_) (fun cdv A outer s H vs Q E hr h => ?_)
  · obtain ⟨v, wv, a, n, ts, ss, g, rfl, _⟩ := h
    rfl
  · obtain ⟨v, wv, a, n, ts, ss, g, rfl, hW, ok, hw, ha, hl, hT, q⟩ := h
    refine ⟨_, (pss_one (ps_ret (pe_call G_mend_weight hr (by rfl) g_mend_weight k_mend_weight b_mend_weight .nil pass0 (pa_cons (pv 1) (pa_cons (pe_call G_broken_by (hr.mono (by decide)) (by rfl) g_broken_by k_broken_by b_broken_by .nil pass0 (pa_cons (pv 0) (pa_cons (pv 2) pa_nil))) pa_nil))))), ?_⟩
    refine ⟨wv, rfl, v, rfl, .ref a, rfl, v, a, n, ts, ss, rfl, hW, ok, ha, hl, fun r H1 s1 h1 => ?_⟩
    exact ⟨wv, r, bad ss ts, g, rfl, h1, (hw.sub bad_rng).tk (Same.tk s1), hT.same s1, fun H2 k2 => q _ ((Kt.same hT s1).trans k2)⟩
end
/-! ### k74: told, over, gone, least alone -/
def spTold74 : Sp := fun vs H Q _ => ∃ (v wv : V) (a : Addr) (n : Nat) (ts : List Tie) (ss : List Int) (g : Int → Int), vs = [v, wv, .ref a] ∧ WebAt H v n ts ∧ WebOk n ts ∧ Wts H wv (rng ts.length) g ∧ H a = some (.tup (ss.map V.int)) ∧ ss.length = n ∧ Bin ss ∧
  ∀ R H', Same H H' → TV H' R g ts n ss → Q (.ref R) H'
def spOver74 (K : PySem.W.Frag) : Sp := fun vs H Q _ => ∃ (a p : Addr) (ss P : List Int), vs = [.ref a, .ref p] ∧ H a = some (.tup (ss.map V.int)) ∧ ss.length ≤ 40 ∧ (SqL K H p (P.map V.int) ∨ SqT K H p (P.map V.int)) ∧ ∀ r H', Same H H' → H' r = some (.tup ((ovP P ss).map V.int)) → Q (.ref r) H'
def spGone (Ps : List Addr) : Sp := fun vs H Q _ => ∃ (v wv : V) (a t : Addr) (n : Nat) (ts : List Tie) (ss ps cur : List Int) (g : Int → Int), vs = [v, wv, .ref a, .ref t] ∧ WebAt H v n ts ∧ WebOk n ts ∧ Wts H wv (rng ts.length) g ∧ H a = some (.tup (ss.map V.int)) ∧ ss.length = n ∧ Bin ss ∧ H t = some (.tup (ps.map V.int)) ∧ Mvs g ts n ss ps cur ∧ Tabs Ps H ∧
  ∀ b H', Kt Ps H H' → H' b = some (.tup (cur.map V.int)) → Q (.ref b) H'
def spAlone (Ps : List Addr) : Sp := fun vs H Q _ => ∃ (v wv : V) (a : Addr) (n : Nat) (ts : List Tie) (ss : List Int) (g : Int → Int), vs = [v, wv, .ref a] ∧ WebAt H v n ts ∧ WebOk n ts ∧ Wts H wv (rng ts.length) g ∧ H a = some (.tup (ss.map V.int)) ∧ ss.length = n ∧ Bin ss ∧ Calm g ts n ss ∧ Tabs Ps H ∧
  ∀ H', Kt Ps H H' → Q (.bl true) H'
section
variable {P : Program} {w : World} {K : PySem.W.Frag} {mg : Str → Option Value} {base : Heap}
theorem ok_l_told {f : Addr} {fd : FuncData} {D W : Addr} (F : Fun K "_law_told" "_law_told" s_l_told f fd) (M : Free mg) (T : RefT K mg "TooMany" D W) (self : PySem.W.exmOne K (.ref D) (.ref D) = some true)
    (D_settled : DfX P w K mg base 3 "settled" ["web", "weights", "sides"] (spSettled D)) : FnOk P w K mg base CX0 4 f fd ["_law_web_here", "_law_weights_here", "_law_sides_here"] spTold74 := by
  obtain ⟨fS, fdS, GS, gS, kS, bS⟩ := D_settled
  refine F.ok sc_l_told (fun vs H Q E h => ?_) (fun cdv A outer s H vs Q E hr h => ?_)
  · obtain ⟨v, wv, a, n, ts, ss, g, rfl, _⟩ := h
    rfl
  · obtain ⟨v, wv, a, n, ts, ss, g, rfl, hW, ok, hw, ha, hl, bn, q⟩ := h
    refine ⟨_, (pss_cons (ps_set (i := 3) sc_l_told.nd rfl (.inl rfl) pe_bl)
      (pss_cons (ps_set (i := 4) sc_l_told.nd rfl (.inl rfl) pe_non)
      (pss_cons (ps_try_only (tb := fun W => tAsg (tCallS (spSettled D) (WE W) (tCons (tVar 0) (tCons (tVar 1) (tCons (tVar 2) tNil)))) (gName 4))
          (ts := fun _ _ _ => tAsg (tC (.bl true)) (gName 3))
          (Wout := fun _ _ _ _ => False) rfl rfl ⟨rfl, by decide, .inl T.gD⟩ takes0
          (fun W pn xe tk _ => pss_one (ps_set (i := 4) sc_l_told.nd rfl (.inl rfl) (by exact (pe_callS GS hr rfl gS kS bS (fun σ => passAt tk σ) (by exact (pa_cons (pv 0) (pa_cons (pv 1) (pa_cons (pv 2) pa_nil))))))))
          (fun a oe cls d pn hz hf => pss_one (ps_set (i := 3) sc_l_told.nd rfl (.inl rfl) pe_bl)))
      (pss_one (ps_ret (pe_tup (pa_cons (pv 3) (pa_cons (pv 4) pa_nil)))))))), ?_⟩
    refine ⟨v, rfl, wv, rfl, .ref a, rfl, v, wv, a, n, ts, ss, g, rfl, hW, ok, hw, ha, by omega, bn, fun ps cur b r t H1 mv c le s1 h1 h2 h3 => ?_, fun ps cur p H1 mv nx le s1 => ?_⟩
    · rw [Int.toNat_natCast] at mv c
      refine ⟨.bl false, rfl, .ref r, rfl, by show 2 ≤ sizeLine; decide, fun R nR => ?_⟩
      have sR := same_new (o := .tup [.bl false, .ref r]) nR
      exact q R _ (s1.trans sR) (.inl ⟨ps, cur, b, r, t, mv, c, le, upd_same, sR _ _ h1, sR _ _ h2, sR _ _ h3⟩)
    · rw [Int.toNat_natCast] at mv nx
      refine ⟨true, self, fun _ x nx' => ?_, fun z => Bool.noConfusion z⟩
      refine ⟨.bl true, rfl, .non, rfl, by show 2 ≤ sizeLine; decide, fun R nR => ?_⟩
      exact q R _ (s1.trans (same_new nR)) (.inr ⟨ps, cur, p, mv, nx, le, upd_same⟩)
theorem ok_l_over {f : Addr} {fd : FuncData} (F : Fun K "_law_over" "_law_over" s_l_over f fd) (M : Free mg) (me : mg "enumerate" = none) : FnOk P w K mg base CX0 1 f fd ["_law_sides_here", "_law_places_here"] (spOver74 K) := by
  refine F.ok sc_l_over (fun vs H Q E h => ?_) (fun cdv A outer s H vs Q E hr h => ?_)
  · obtain ⟨a, p, ss, Pl, rfl, _⟩ := h
    rfl
  · obtain ⟨a, p, ss, Pl, rfl, ha, few, hp, q⟩ := h
    refine ⟨_, (pss_one (ps_ret (pe_callTy call_tuple_of (by rfl) M.tuple (by decide +kernel) (pa_cons (pe_lc (own := [("_law_place", 2), ("_law_side", 3)]) (g := gTup K 2 (gCons (gName 2) (gCons (gName 3) gNil))) (tt := tYes) rfl sc_l_over.nd (pi_enumT (by rfl) me (pa_cons (pv 0) pa_nil)) (blkOk_by (N := N_l_over) (sc := defScope s_l_over) (own := [("_law_place", 2), ("_law_side", 3)]) (by decide +kernel)) (fun _ _ _ _ _ => (pg_tup rfl (pgs_cons (pg_name (i := 2) sc_l_over.nd rfl (.inl rfl)) (pgs_cons (pg_name (i := 3) sc_l_over.nd rfl (.inl rfl)) pgs_nil)))) (fun _ _ _ _ _ => pts_nil) (fun _ _ _ _ _ => (pe_ix (r := rIxL K) ix_list (pe_lst (pa_cons (pv 3) (pa_cons (pe_op op_sub pe_int (pv 3)) pa_nil))) (pe_callTy call_int1 (by rfl) M.int (by decide +kernel) (pa_cons (pe_cmpR (r := rIn K false) op_in_seq (pv 2) (pv 1) rfl) pa_nil)) (fun _ _ => rfl)))) pa_nil)))), ?_⟩
    refine ⟨.ref a, rfl, a, _, rfl, SqT.of ha, fun Z nZ => ?_⟩
    refine lc_it (walk_enumT (xs := ss.map V.int)) (fun i H' => H' Z = some (.lst (((rng i).map fun i => if inP Pl i = true then 1 - sd ss i else sd ss i).map V.int)) ∧ Same H H') ⟨upd_same, same_new nZ⟩ (fun i H' _ h => SqT.of (h.2 _ _ ha)) ?_ ?_
    · rintro i x H1 H2 hi ⟨hZ, s1⟩ ⟨T, x1, y, rfl, nT, rfl, e1, e2⟩
      obtain rfl : V.int (i : Nat) = x1 := Option.some.inj e1
      have e2' : (ss.map V.int)[i]? = some y := e2
      rw [List.getElem?_map] at e2'
      obtain ⟨z, ez, rfl⟩ := Option.map_eq_some_iff.mp e2'
      have hi' : i < ss.length := (List.getElem?_eq_some_iff.mp ez).1
      have esd : sd ss i = z := by
        unfold sd
        rw [Int.toNat_natCast, List.getD_eq_getElem?_getD, ez]
        rfl
      have s2 := s1.trans (same_new (o := .tup [.int (i : Nat), .int z]) nT)
      have hZ2 := same_new (o := .tup [.int (i : Nat), .int z]) nT _ _ hZ
      refine ⟨T, _, rfl, SqT.of upd_same, rfl, _, _, rfl, _, _, rfl, rfl, rfl, .int z, rfl, .int z, rfl, 1, z, rfl, rfl, by show 2 ≤ sizeLine; decide, fun O nO => ?_⟩
      have s3 := s2.trans (same_new (o := .lst [.int z, .int (1 - z)]) nO)
      have hZ3 := same_new (o := .lst [.int z, .int (1 - z)]) nO _ _ hZ2
      refine ⟨.int i, rfl, .ref p, rfl, p, _, rfl, hp.imp (fun h => s3.seq h) (fun h => Same.seqT s3 h), rfl, flat_ints _, .inr ⟨_, rfl, O, _, _, _, rfl, rfl, SqL.of upd_same, pick2 _ _ _, ?_⟩⟩
      simp only [Bool.false_eq_true, if_false]
      rw [in_ints]
      refine ⟨_, hZ3, by rw [List.length_map, List.length_map, rng_length]; exact small1000 (by omega), ?_, Same.mut s3 nZ⟩
      rw [upd_same, rng_succ, List.map_append, List.map_append]
      show some (HO.lst (_ ++ [_])) = some (HO.lst (_ ++ [V.int (if inP Pl i = true then 1 - sd ss i else sd ss i)]))
      rw [esd]
      cases inP Pl i <;> rfl
    · rintro H1 ⟨hZ, s1⟩
      rw [List.length_map] at hZ
      refine ⟨Z, _, rfl, .inl ⟨SqL.of hZ, fun r nr => ?_⟩⟩
      exact q r _ (s1.trans (same_new nr)) upd_same
theorem ok_l_gone {f : Addr} {fd : FuncData} {Ps : List Addr} (F : Fun K "_law_gone" "_law_gone" s_l_gone f fd) (M : Free mg) (mmax : mg "max" = none) (D_broken_weight : Df P w K mg base 4 "broken_weight" ["web", "weights", "sides"] (spBrokenW Ps)) (D_l_lean : Df P w K mg base 2 "_law_lean" ["_law_web_here", "_law_weights_here", "_law_sides_here", "_law_place"] spLLean) (D_l_over : Df P w K mg base 1 "_law_over" ["_law_sides_here", "_law_places_here"] (spOver74 K)) : FnOk P w K mg base CX0 5 f fd ["_law_web_here", "_law_weights_here", "_law_sides_here", "_law_places_here"] (spGone Ps) := by
  obtain ⟨f_broken_weight, fd_broken_weight, G_broken_weight, g_broken_weight, k_broken_weight, b_broken_weight⟩ := D_broken_weight
  obtain ⟨f_l_lean, fd_l_lean, G_l_lean, g_l_lean, k_l_lean, b_l_lean⟩ := D_l_lean
  obtain ⟨f_l_over, fd_l_over, G_l_over, g_l_over, k_l_over, b_l_over⟩ := D_l_over
  refine F.ok sc_l_gone (fun vs H Q E h => ?_) (fun cdv A outer s H vs Q E hr h => ?_)
  · obtain ⟨v, wv, a, t, n, ts, ss, ps, cur, g, rfl, _⟩ := h
    rfl
  · obtain ⟨v, wv, a, t, n, ts, ss, ps, cur, g, rfl, hW, ok, hw, ha, hl, bn, ht, mv, hT, q⟩ := h
    refine ⟨_, (pss_cons (ps_set (i := 4) sc_l_gone.nd rfl (.inl rfl) (pe_call G_broken_weight (hr.mono (by decide)) (by rfl) g_broken_weight k_broken_weight b_broken_weight .nil pass0 (pa_cons (pv 0) (pa_cons (pv 1) (pa_cons (pv 2) pa_nil)))))
      (pss_cons (ps_for PassesOwn.never rfl (pi_tup (pv 3)) (pg_name (i := 5) sc_l_gone.nd rfl (.inl rfl))
        (Evl.pss_cut (ps_setLc (i := 6) (own := [("_law_there", 7)]) (g := gName 7) (tt := tYes) rfl sc_l_gone.nd rfl rfl (sw_true rfl rfl rfl (by decide +kernel)) (pi_range1 (by rfl) M.range (pa_cons (pe_ix ix_tup (pv 0) pe_int (fun _ _ => rfl)) pa_nil)) (blkOk_by (N := N_l_gone) (sc := defScope s_l_gone) (own := [("_law_there", 7)]) (by decide +kernel)) (fun _ _ _ _ _ => (pg_name (i := 7) sc_l_gone.nd rfl (.inl rfl))) (fun _ _ _ _ _ => pts_nil) (fun _ _ _ _ _ => (pe_call G_l_lean (hr.mono (by decide)) (by rfl) g_l_lean k_l_lean b_l_lean .nil pass0 (pa_cons (pv 0) (pa_cons (pv 1) (pa_cons (pv 2) (pa_cons (pv 7) pa_nil)))))))
        (pss_cons (ps_set (i := 2) sc_l_gone.nd rfl (.inr rfl) (pe_call G_l_over (hr.mono (by decide)) (by rfl) g_l_over k_l_over b_l_over .nil pass0 (pa_cons (pv 2) (pa_cons (pe_tup (pa_cons (pv 5) pa_nil)) pa_nil))))
        (pss_cons (ps_set (i := 8) sc_l_gone.nd rfl (.inl rfl) (pe_call G_broken_weight (hr.mono (by decide)) (by rfl) g_broken_weight k_broken_weight b_broken_weight .nil pass0 (pa_cons (pv 0) (pa_cons (pv 1) (pa_cons (pv 2) pa_nil)))))
        (pss_cons (ps_if (PW.pt (pw_or (pt_cmpR op_ne (pe_ix ix_list (pv 6) (pv 5) (fun _ _ => rfl)) (pe_callB (cr_max rfl) (by rfl) mmax (by decide +kernel) (pa_cons (pv 6) pa_nil)) (nomark _)) (pw_or (pt_cmpR op_le (pe_ix ix_list (pv 6) (pv 5) (fun _ _ => rfl)) pe_int (nomark _)) (pw_or1 (pt_cmpR op_ne (pv 8) (pe_op op_sub (pv 4) (pe_ix ix_list (pv 6) (pv 5) (fun _ _ => rfl))) (nomark _))))))
          (pss_one (ps_ret pe_non))
          pss_nil)
        (pss_one (ps_set (i := 4) sc_l_gone.nd rfl (.inl rfl) (pv 8))))))))
      (pss_one (ps_ret (pv 2))))), ?_⟩
    have okl : ∀ e : List Int, e.length = n → ∀ t ∈ ts, TieOk e.length t := fun e he t ht => by rw [he]; exact ok.ok t ht
    have hk : n ≤ 40 := by have := ok.hi; omega
    have hn0 : 0 < n := by have := ok.lo; omega
    refine ⟨v, rfl, wv, rfl, .ref a, rfl, v, wv, a, n, ts, ss, g, rfl, hW, ok, hw, ha, by omega, hT, fun H1 k1 => ?_⟩
    refine ⟨.ref t, rfl, t, rfl, ⟨_, SqT.of (k1.tup hT ht)⟩, ?_⟩
    refine for_tup (xs := ps.map V.int) (fun i σ' H' => ∃ (y5 y6 y8 : Option V) (b : Addr) (e : List Int), σ' = [some v, some wv, some (.ref b), some (.ref t), some (.int (badW g e ts ts.length)), y5, y6, none, y8] ∧ H' b = some (.tup (e.map V.int)) ∧ Mvs g ts n ss (ps.take i) e ∧ Kt Ps H H') ⟨none, none, none, a, ss, rfl, k1.tup hT ha, .nil, k1⟩ (fun i σ' H' _ h => by
      obtain ⟨_, _, _, _, _, _, _, _, kt⟩ := h
      exact SqT.of (kt.tup hT ht)) ?_ ?_
    · rintro i x σ' H2 ex ⟨y5, y6, y8, b, e, rfl, hb, mvi, kt⟩
      rw [List.getElem?_map] at ex
      obtain ⟨p, hp, rfl⟩ := Option.map_eq_some_iff.mp ex
      have hi : i < ps.length := (List.getElem?_eq_some_iff.mp hp).1
      obtain ⟨e', mv1, nx1, _⟩ := mv.cut i (by omega)
      obtain ⟨p', hp', nx⟩ := nx1 hi
      rw [hp] at hp'
      cases hp'
      obtain ⟨_, rfl⟩ := mvi.end_uniq mv1 rfl
      have be := mvi.bin bn hl
      have hW2 := hW.tk (kt.tk hT)
      have hw2 := hw.tk (kt.tk hT)
      obtain ⟨wa, wb, us, rfl, hwa, hwb, _⟩ := id hW2
      -- the leans
      refine ⟨fun σ' H' => ∃ S : Addr, σ' = [some (.ref wa), some wv, some (.ref b), some (.ref t), some (.int (badW g e ts ts.length)), some (.int p), some (.ref S), none, y8] ∧ H' S = some (.lst (lf (lean g e ts) n)) ∧ Same H2 H', ?_, ?_⟩
      · refine ⟨.ref wa, rfl, wa, _, 0, .int n, rfl, rfl, SqT.of hwa, rfl, n, rfl, by omega, by omega, fun S nS => ?_⟩
        rw [Int.toNat_natCast]
        refine lc_range (lo := 0) (n := n) (fun i H' => H' S = some (.lst (lf (lean g e ts) i)) ∧ Same H2 H') ⟨upd_same, same_new nS⟩ ?_ ?_
        · rintro j H3 hj ⟨hS, s3⟩
          rw [show (0 : Int) + (j : Nat) = j from by omega]
          refine ⟨rfl, .ref wa, rfl, wv, rfl, .ref b, rfl, .int j, rfl, .ref wa, wv, b, n, ts, e, g, j, rfl, hW2.tk (Same.tk s3), ok, hw2.tk (Same.tk s3), s3 _ _ hb, by rw [be.2], fun H4 s4 => ?_⟩
          exact ⟨_, s4 _ _ hS, by rw [lf_len]; exact small1000 (by omega), by rw [upd_same, lf_succ], Same.mut (s3.trans s4) nS⟩
        · rintro H3 ⟨hS, s3⟩
          exact ⟨S, rfl, hS, s3⟩
      rintro σ' H3 ⟨S, rfl, hS, s3⟩
      have k3 := kt.trans (Kt.same kt.tab s3)
      -- over
      refine ⟨.ref b, rfl, .int p, rfl, by show 1 ≤ sizeLine; decide, fun O nO => ?_⟩
      have sO := same_new (o := .tup [.int p]) nO
      refine ⟨b, O, e, [p], rfl, sO _ _ (s3 _ _ hb), by omega, .inr (SqT.of upd_same), fun b4 H4 s4 h4 => ?_⟩
      have pl : p < e.length := by rw [be.2]; exact nx.2.1
      rw [moved_ovP nx.1 pl] at h4
      have k4 := k3.trans (Kt.same k3.tab (sO.trans s4))
      have hS4 := (sO.trans s4) _ _ hS
      have lm : (moved e p).length = n := by rw [moved_len]; exact be.2
      refine ⟨.ref wa, rfl, wv, rfl, .ref b4, rfl, .ref wa, wv, b4, n, ts, moved e p, g, rfl, hW.tk (k4.tk hT), ok, hw.tk (k4.tk hT), h4, by omega, k4.tab, fun H5 k5 => ?_⟩
      have k05 := k4.trans k5
      have hS5 := k5.lst k4.tab hS4
      have hS5' := hS5
      rw [lf_ints] at hS5'
      -- judged
      refine ⟨.ref S, rfl, .int p, rfl, S, _, p, _, rfl, rfl, SqL.of hS5, lf_at _ nx.1 nx.2.1, .ref S, rfl, S, _, rfl, SqL.of hS5', by rw [List.length_map, rng_length]; exact hn0, fun x hx hmax => ⟨rfl, _, rfl, ?_⟩⟩
      have ex : x = lean g e ts p := by
        obtain ⟨z, hz, rfl⟩ := List.mem_map.mp hx
        have hz' := mem_rng.mp hz
        have h1 := nx.2.2.2.1 z hz'.1 hz'.2
        have h2 := hmax _ (List.mem_map_of_mem (mem_rng.mpr ⟨nx.1, nx.2.1⟩) : lean g e ts p ∈ _)
        omega
      rw [ex, decide_eq_true rfl]
      refine ⟨.ref S, rfl, .int p, rfl, S, _, p, _, rfl, rfl, SqL.of hS5, lf_at _ nx.1 nx.2.1, _, 0, rfl, rfl, _, rfl, ?_⟩
      rw [decide_eq_false (by have := nx.2.2.1; omega)]
      refine ⟨_, rfl, _, rfl, .ref S, rfl, .int p, rfl, S, _, p, _, rfl, rfl, SqL.of hS5, lf_at _ nx.1 nx.2.1, _, _, rfl, rfl, rfl, _, rfl, ?_⟩
      rw [badW_moved be.1 (okl e be.2) nx.1 pl _ (Nat.le_refl _), show lean g e ts p = leanTo g e ts ts.length p from rfl, decide_eq_true rfl]
      refine ⟨_, rfl, some (.int p), some (.ref S), some (.int (badW g e ts ts.length - leanTo g e ts ts.length p)), b4, moved e p, ?_, k5.tup k4.tab h4, ?_, k05⟩
      · rw [badW_moved be.1 (okl e be.2) nx.1 pl _ (Nat.le_refl _)]
        rfl
      · rw [List.take_add_one, hp]
        exact mvi.snoc nx
    · rintro σ' H2 ⟨y5, y6, y8, b, e, rfl, hb, mvi, kt⟩
      rw [List.length_map, List.take_length] at mvi
      obtain ⟨_, rfl⟩ := mvi.end_uniq mv rfl
      exact ⟨.ref b, rfl, q b _ kt hb⟩
theorem ok_l_least_alone {f : Addr} {fd : FuncData} {Ps : List Addr} (F : Fun K "_law_least_alone" "_law_least_alone" s_l_least_alone f fd) (M : Free mg) (mall : mg "all" = none) (D_broken_weight : Df P w K mg base 4 "broken_weight" ["web", "weights", "sides"] (spBrokenW Ps)) (D_l_over : Df P w K mg base 1 "_law_over" ["_law_sides_here", "_law_places_here"] (spOver74 K)) : FnOk P w K mg base CX0 5 f fd ["_law_web_here", "_law_weights_here", "_law_sides_here"] (spAlone Ps) := by
  obtain ⟨f_broken_weight, fd_broken_weight, G_broken_weight, g_broken_weight, k_broken_weight, b_broken_weight⟩ := D_broken_weight
  obtain ⟨f_l_over, fd_l_over, G_l_over, g_l_over, k_l_over, b_l_over⟩ := D_l_over
  refine F.ok sc_l_least_alone (fun vs H Q E h => ?_) (fun cdv A outer s H vs Q E hr h => ?_)
  · obtain ⟨v, wv, a, n, ts, ss, g, rfl, _⟩ := h
    rfl
  · obtain ⟨v, wv, a, n, ts, ss, g, rfl, hW, ok, hw, ha, hl, bn, cm, hT, q⟩ := h
    refine ⟨_, (pss_cons (ps_set (i := 3) sc_l_least_alone.nd rfl (.inr rfl) (pe_call G_broken_weight (hr.mono (by decide)) (by rfl) g_broken_weight k_broken_weight b_broken_weight .nil pass0 (pa_cons (pv 0) (pa_cons (pv 1) (pa_cons (pv 2) pa_nil)))))
      (pss_one (ps_ret (pe_callB (cr_all rfl) (by rfl) mall (by decide +kernel) (pa_cons (pe_lc (own := [("_law_place", 4)]) (g := gName 4) (tt := tYes) rfl sc_l_least_alone.nd (pi_range1 (by rfl) M.range (pa_cons (pe_ix ix_tup (pv 0) pe_int (fun _ _ => rfl)) pa_nil)) (blkOk_by (N := N_l_least_alone) (sc := defScope s_l_least_alone) (own := [("_law_place", 4)]) (by decide +kernel)) (fun _ _ _ _ _ => (pg_name (i := 4) sc_l_least_alone.nd rfl (.inl rfl))) (fun _ _ _ _ _ => pts_nil) (fun _ _ _ _ _ => (pe_cmpR op_ge (pe_call G_broken_weight (hr.mono (by decide)) (by rfl) g_broken_weight k_broken_weight b_broken_weight .nil pass0 (pa_cons (pv 0) (pa_cons (pv 1) (pa_cons (pe_call G_l_over (hr.mono (by decide)) (by rfl) g_l_over k_l_over b_l_over .nil pass0 (pa_cons (pv 2) (pa_cons (pe_tup (pa_cons (pv 4) pa_nil)) pa_nil))) pa_nil)))) (pv 3) (nomark _)))) pa_nil))))), ?_⟩
    have okl : ∀ t ∈ ts, TieOk ss.length t := fun t ht => by rw [hl]; exact ok.ok t ht
    have hk : n ≤ 40 := by have := ok.hi; omega
    refine ⟨v, rfl, wv, rfl, .ref a, rfl, v, wv, a, n, ts, ss, g, rfl, hW, ok, hw, ha, by omega, hT, fun H1 k1 => ?_⟩
    have hW1 := hW.tk (k1.tk hT)
    obtain ⟨wa, wb, us, rfl, hwa, hwb, _⟩ := id hW1
    refine ⟨.ref wa, rfl, wa, _, 0, .int n, rfl, rfl, SqT.of hwa, rfl, n, rfl, by omega, by omega, fun Z nZ => ?_⟩
    rw [Int.toNat_natCast]
    have nZH : ∀ o, H Z = some o → False ∨ Z ∈ Ps := fun o e => .inl (by
      by_cases hz : Z ∈ Ps
      · obtain ⟨tb, e2, _⟩ := k1.tab Z hz
        rw [nZ] at e2
        cases e2
      · rw [k1.keep Z o hz e] at nZ
        cases nZ)
    have nZ0 : H Z = none := by
      cases e : H Z with
      | none => rfl
      | some o => rcases nZH o e with h | h
                  · exact h.elim
                  · obtain ⟨tb, e2, _⟩ := k1.tab Z h
                    rw [nZ] at e2
                    cases e2
    have nZP : Z ∉ Ps := fun h => by
      obtain ⟨tb, e2, _⟩ := k1.tab Z h
      rw [nZ] at e2
      cases e2
    refine lc_range (lo := 0) (n := n) (fun i H' => H' Z = some (.lst ((List.replicate i true).map V.bl)) ∧ Kt Ps H H') ⟨upd_same, k1.trans (Kt.same k1.tab (same_new nZ))⟩ ?_ ?_
    · rintro j H2 hj ⟨hZ, kt⟩
      rw [show (0 : Int) + (j : Nat) = j from by omega]
      refine ⟨rfl, .ref wa, rfl, wv, rfl, .ref a, rfl, .int j, rfl, by show 1 ≤ sizeLine; decide, fun O nO => ?_⟩
      have sO := same_new (o := .tup [.int j]) nO
      refine ⟨a, O, ss, [(j : Int)], rfl, sO _ _ (kt.tup hT ha), by omega, .inr (SqT.of upd_same), fun b4 H4 s4 h4 => ?_⟩
      have pl : (j : Int) < ss.length := by omega
      rw [moved_ovP (by omega) pl] at h4
      have s24 := sO.trans s4
      have k4 := kt.trans (Kt.same kt.tab s24)
      refine ⟨.ref wa, wv, b4, n, ts, moved ss j, g, rfl, hW.tk (k4.tk hT), ok, hw.tk (k4.tk hT), h4, by rw [moved_len]; omega, k4.tab, fun H5 k5 => ⟨.int (badW g ss ts ts.length), rfl, _, _, rfl, rfl, ?_⟩⟩
      have hZ5 := k5.lst k4.tab (s24 _ _ hZ)
      rw [badW_moved bn okl (by omega) pl _ (Nat.le_refl _)]
      have hc := cm j (by omega) (by omega)
      have hc' : leanTo g ss ts ts.length j ≤ 0 := hc
      have hd : decide (badW g ss ts ts.length ≤ badW g ss ts ts.length - leanTo g ss ts ts.length j) = true := decide_eq_true (by omega)
      refine ⟨_, hZ5, by rw [List.length_map, List.length_replicate]; exact small1000 (by omega), ?_, ?_⟩
      · rw [upd_same, List.replicate_succ', List.map_append]
        show some (HO.lst (_ ++ [V.bl (decide (badW g ss ts ts.length ≤ badW g ss ts ts.length - leanTo g ss ts ts.length j))])) = _
        rw [hd]
        rfl
      · have k05 := k4.trans k5
        refine ⟨fun Pt hPt => ?_, fun x o hx e => ?_⟩
        · obtain ⟨tb, e2, t2⟩ := k05.tab Pt hPt
          exact ⟨tb, by rw [upd_ne (fun z => nZP (by rw [← z]; exact hPt))]; exact e2, t2⟩
        · rw [upd_ne (ne_of_none e nZ0)]
          exact k05.keep x o hx e
    · rintro H2 ⟨hZ, kt⟩
      refine ⟨Z, _, rfl, SqL.of hZ, ?_⟩
      have ea : (List.replicate n true).all id = true := by
        rw [List.all_eq_true]
        intro x hx
        rw [List.eq_of_mem_replicate hx]
        rfl
      rw [ea]
      exact q _ kt
end
/-! ### k74: the law -/
def spLaw (K : PySem.W.Frag) (Ps : List Addr) : Sp := fun vs H Q _ => ∃ (a : Addr) (ns : List Int), vs = [.ref a] ∧ SqL K H a (ns.map V.int) ∧ ns.length ≤ 63 ∧ Tabs Ps H ∧ ∀ H', Q (.bl true) H'
def rowD (cur ps : List Int) : PyData := .tuple [.bool false, .tuple [intsD cur, intsD ps]]
theorem row_dp {K : PySem.W.Frag} {H : Hp} {R b r t : Addr} {cur ps : List Int} (h1 : H R = some (.tup [.bl false, .ref r])) (h2 : H r = some (.tup [.ref b, .ref t])) (h3 : H b = some (.tup (cur.map V.int))) (h4 : H t = some (.tup (ps.map V.int))) : Dp K H (.ref R) (rowD cur ps) :=
  .tup (SqT.of h1) (.cons (.bl false) (.cons (.tup (SqT.of h2) (.cons (IntsV.dp ⟨b, rfl, h3⟩) (.cons (IntsV.dp ⟨t, rfl, h4⟩) .nil))) .nil))
theorem lay_row (cur ps : List Int) : (rowD cur ps).canLay0 = true := by
  unfold rowD
  simp only [PyData.canLay0, PyData.canLayAll0, lay_intsD, Bool.and_true, Bool.true_and]
theorem deep_row (cur ps : List Int) : (rowD cur ps).depth = 3 := by
  unfold rowD
  simp only [PyData.depth, PyData.depthAll, deep_intsD]
  rfl
def rowsD (c1 c2 c3 ps : List Int) : PyData := .list [rowD c1 ps, rowD c2 ps, rowD c3 ps]
theorem lay_rows (c1 c2 c3 ps : List Int) : (rowsD c1 c2 c3 ps).canLay0 = true := by
  unfold rowsD
  simp only [PyData.canLay0, PyData.canLayAll0, lay_row, Bool.and_true]
theorem shaped_rows (c1 c2 c3 ps : List Int) : SeqAt.shaped (rowsD c1 c2 c3 ps) = true := by
  have d : (rowsD c1 c2 c3 ps).depth = 4 := by
    unfold rowsD
    simp only [PyData.depth, PyData.depthAll, deep_row]
    rfl
  unfold SeqAt.shaped
  rw [lay_rows, d]
  rfl
theorem kp_addr {Ps : List Addr} {H H' : Hp} {a : Addr} (k : Kt Ps H H') (h : H' a = none) : H a = none := by
  cases e : H a with
  | none => rfl
  | some o =>
    by_cases hz : a ∈ Ps
    · obtain ⟨tb, e2, _⟩ := k.tab a hz
      rw [h] at e2
      cases e2
    · rw [k.keep a o hz e] at h
      cases h
section
variable {P : Program} {w : World} {K : PySem.W.Frag} {mg : Str → Option Value} {base : Heap}
theorem ok_law {f : Addr} {fd : FuncData} {Ps : List Addr} (F : Fun K "law" "law" s_law f fd) (M : Free mg) (mmax : mg "max" = none) (D_l_well : Df P w K mg base 1 "_law_well" ["_law_script", "_law_k"] (spWell K)) (D_l_web : Df P w K mg base 2 "_law_web" ["_law_well_here"] spWeb) (D_l_weights : Df P w K mg base 2 "_law_weights" ["_law_well_here", "_law_web_here"] spWeightsL) (D_l_sides : Df P w K mg base 2 "_law_sides" ["_law_well_here", "_law_many"] spSidesL)
    (D_l_places : Df P w K mg base 2 "_law_places" ["_law_well_here", "_law_many"] spPlaces) (D_l_draw : Df P w K mg base 1 "_law_draw" ["_law_well_here", "_law_most"] spDraw) (D_l_weight : Df P w K mg base 1 "_law_weight" ["_law_weights_here", "_law_tie"] spWeightOf)
    (D_l_told : Df P w K mg base 4 "_law_told" ["_law_web_here", "_law_weights_here", "_law_sides_here"] spTold74) (D_l_about : Df P w K mg base 1 "_law_about" ["_law_web_here", "_law_places_here"] spAbout) (D_l_over : Df P w K mg base 1 "_law_over" ["_law_sides_here", "_law_places_here"] (spOver74 K))
    (D_l_gone : Df P w K mg base 5 "_law_gone" ["_law_web_here", "_law_weights_here", "_law_sides_here", "_law_places_here"] (spGone Ps)) (D_l_least_alone : Df P w K mg base 5 "_law_least_alone" ["_law_web_here", "_law_weights_here", "_law_sides_here"] (spAlone Ps)) : FnOk P w K mg base CX0 6 f fd ["_law_script"] (spLaw K Ps) := by
  obtain ⟨f_l_well, fd_l_well, G_l_well, g_l_well, k_l_well, b_l_well⟩ := D_l_well
  obtain ⟨f_l_web, fd_l_web, G_l_web, g_l_web, k_l_web, b_l_web⟩ := D_l_web
  obtain ⟨f_l_weights, fd_l_weights, G_l_weights, g_l_weights, k_l_weights, b_l_weights⟩ := D_l_weights
  obtain ⟨f_l_sides, fd_l_sides, G_l_sides, g_l_sides, k_l_sides, b_l_sides⟩ := D_l_sides
  obtain ⟨f_l_places, fd_l_places, G_l_places, g_l_places, k_l_places, b_l_places⟩ := D_l_places
  obtain ⟨f_l_draw, fd_l_draw, G_l_draw, g_l_draw, k_l_draw, b_l_draw⟩ := D_l_draw
  obtain ⟨f_l_weight, fd_l_weight, G_l_weight, g_l_weight, k_l_weight, b_l_weight⟩ := D_l_weight
  obtain ⟨f_l_told, fd_l_told, G_l_told, g_l_told, k_l_told, b_l_told⟩ := D_l_told
  obtain ⟨f_l_about, fd_l_about, G_l_about, g_l_about, k_l_about, b_l_about⟩ := D_l_about
  obtain ⟨f_l_over, fd_l_over, G_l_over, g_l_over, k_l_over, b_l_over⟩ := D_l_over
  obtain ⟨f_l_gone, fd_l_gone, G_l_gone, g_l_gone, k_l_gone, b_l_gone⟩ := D_l_gone
  obtain ⟨f_l_least_alone, fd_l_least_alone, G_l_least_alone, g_l_least_alone, k_l_least_alone, b_l_least_alone⟩ := D_l_least_alone
  refine F.ok sc_law (fun vs H Q E h => ?_) (fun cdv A outer s H vs Q E hr h => ?_)
  · obtain ⟨a, ns, rfl, _⟩ := h
    rfl
  · obtain ⟨sc, ns, rfl, hS, hlen, hT, q⟩ := h
    refine ⟨_, (pss_cons (ps_for PassesOwn.never rfl (pi_range1 (by rfl) M.range (pa_cons pe_int pa_nil)) (pg_name (i := 1) sc_law.nd rfl (.inl rfl))
        (pss_cons (ps_set (i := 2) sc_law.nd rfl (.inl rfl) (pe_call G_l_well (hr.mono (by decide)) (by rfl) g_l_well k_l_well b_l_well .nil pass0 (pa_cons (pv 0) (pa_cons (pv 1) pa_nil))))
        (pss_cons (ps_set (i := 3) sc_law.nd rfl (.inl rfl) (pe_call G_l_web (hr.mono (by decide)) (by rfl) g_l_web k_l_web b_l_web .nil pass0 (pa_cons (pv 2) pa_nil)))
        (pss_cons (ps_set (i := 4) sc_law.nd rfl (.inr rfl) (pe_call G_l_weights (hr.mono (by decide)) (by rfl) g_l_weights k_l_weights b_l_weights .nil pass0 (pa_cons (pv 2) (pa_cons (pv 3) pa_nil))))
        (pss_cons (ps_set (i := 5) sc_law.nd rfl (.inl rfl) (pe_call G_l_sides (hr.mono (by decide)) (by rfl) g_l_sides k_l_sides b_l_sides .nil pass0 (pa_cons (pv 2) (pa_cons (pe_ix ix_tup (pv 3) pe_int (fun _ _ => rfl)) pa_nil))))
        (pss_cons (ps_set (i := 6) sc_law.nd rfl (.inl rfl) (pe_call G_l_places (hr.mono (by decide)) (by rfl) g_l_places k_l_places b_l_places .nil pass0 (pa_cons (pv 2) (pa_cons (pe_ix ix_tup (pv 3) pe_int (fun _ _ => rfl)) pa_nil))))
        (Evl.pss_cut (ps_set (i := 7) sc_law.nd rfl (.inr rfl) (pe_ix ix_list (pe_lst (pa_cons (pe_op op_add pe_int (pe_call G_l_draw (hr.mono (by decide)) (by rfl) g_l_draw k_l_draw b_l_draw .nil pass0 (pa_cons (pv 2) (pa_cons pe_int pa_nil)))) (pa_cons (pe_op op_pow pe_int pe_int) pa_nil))) (pe_call G_l_draw (hr.mono (by decide)) (by rfl) g_l_draw k_l_draw b_l_draw .nil pass0 (pa_cons (pv 2) (pa_cons pe_int pa_nil))) (fun _ _ => rfl)))
        (Evl.pss_cut (ps_setLc (i := 8) (own := [("_law_tie", 9)]) (g := gName 9) (tt := tYes) rfl sc_law.nd rfl rfl (sw_true rfl rfl rfl (by decide +kernel)) (pi_range1 (by rfl) M.range (pa_cons (pe_callB call_len_seq (by rfl) M.len PySem.boot_len (pa_cons (pe_ix ix_tup (pv 3) pe_int (fun _ _ => rfl)) pa_nil)) pa_nil)) (blkOk_by (N := N_law) (sc := defScope s_law) (own := [("_law_tie", 9)]) (by decide +kernel)) (fun _ _ _ _ _ => (pg_name (i := 9) sc_law.nd rfl (.inl rfl))) (fun _ _ _ _ _ => pts_nil) (fun _ _ _ _ _ => (pe_call G_l_weight (hr.mono (by decide)) (by rfl) g_l_weight k_l_weight b_l_weight .nil pass0 (pa_cons (pv 4) (pa_cons (pv 9) pa_nil)))))
        (Evl.pss_cut (ps_if (pt_cmpR op_gt (pe_op op_mul (pv 7) (pe_callB (cr_max rfl) (by rfl) mmax (by decide +kernel) (pa_cons (pe_op op_cat (pv 8) (pe_lst (pa_cons pe_int pa_nil))) pa_nil))) (pe_op op_pow pe_int pe_int) (nomark _))
          (pss_one (ps_set (i := 7) sc_law.nd rfl (.inr rfl) pe_int))
          pss_nil)
        (Evl.pss_cut (ps_set (i := 10) sc_law.nd rfl (.inl rfl) (pe_callTy call_tuple_of (by rfl) M.tuple (by decide +kernel) (pa_cons (pe_lc (own := [("_law_weight_here", 11)]) (g := gName 11) (tt := tYes) rfl sc_law.nd (pi_list (pv 8)) (blkOk_by (N := N_law) (sc := defScope s_law) (own := [("_law_weight_here", 11)]) (by decide +kernel)) (fun _ _ _ _ _ => (pg_name (i := 11) sc_law.nd rfl (.inl rfl))) (fun _ _ _ _ _ => pts_nil) (fun _ _ _ _ _ => (pe_op op_mul (pv 7) (pv 11)))) pa_nil)))
        (pss_cons (ps_set (i := 12) sc_law.nd rfl (.inl rfl) (pe_call G_l_told (hr.mono (by decide)) (by rfl) g_l_told k_l_told b_l_told .nil pass0 (pa_cons (pv 3) (pa_cons (pv 4) (pa_cons (pv 5) pa_nil)))))
        (Evl.pss_cut (ps_set (i := 13) sc_law.nd rfl (.inl rfl) (pe_lst (pa_cons (pe_call G_l_told (hr.mono (by decide)) (by rfl) g_l_told k_l_told b_l_told .nil pass0 (pa_cons (pe_call G_l_about (hr.mono (by decide)) (by rfl) g_l_about k_l_about b_l_about .nil pass0 (pa_cons (pv 3) (pa_cons (pv 6) pa_nil))) (pa_cons (pv 4) (pa_cons (pe_call G_l_over (hr.mono (by decide)) (by rfl) g_l_over k_l_over b_l_over .nil pass0 (pa_cons (pv 5) (pa_cons (pv 6) pa_nil))) pa_nil)))) pa_nil)))
        (pss_cons (ps_set (i := 14) sc_law.nd rfl (.inl rfl) (pe_listRg rfl (by rfl) M.list (prg_1 (by rfl) M.range (pe_ix ix_tup (pv 3) pe_int (fun _ _ => rfl)))))
        (Evl.pss_cut (ps_set (i := 13) sc_law.nd rfl (.inl rfl) (pe_op op_cat (pv 13) (pe_lst (pa_cons (pe_call G_l_told (hr.mono (by decide)) (by rfl) g_l_told k_l_told b_l_told .nil pass0 (pa_cons (pv 3) (pa_cons (pv 4) (pa_cons (pe_call G_l_over (hr.mono (by decide)) (by rfl) g_l_over k_l_over b_l_over .nil pass0 (pa_cons (pv 5) (pa_cons (pv 14) pa_nil))) pa_nil)))) (pa_cons (pe_call G_l_told (hr.mono (by decide)) (by rfl) g_l_told k_l_told b_l_told .nil pass0 (pa_cons (pv 3) (pa_cons (pv 10) (pa_cons (pv 5) pa_nil)))) pa_nil)))))
        (pss_one (ps_if (pt_val (pe_ix ix_tup (pv 12) pe_int (fun _ _ => rfl)))
          (pss_one (ps_if (pt_cmpR (op_neD hr.units) (pe_lc (own := [("_law_refused", 15), ("_law_told_here", 16)]) (g := gTup K 2 (gCons (gName 15) (gCons (gName 16) gNil))) (tt := tYes) (te := tVar 15) rfl sc_law.nd (pi_list (pv 13)) (blkOk_by (N := N_law) (sc := defScope s_law) (own := [("_law_refused", 15), ("_law_told_here", 16)]) (by decide +kernel)) (fun _ _ _ _ _ => (pg_tup rfl (pgs_cons (pg_name (i := 15) sc_law.nd rfl (.inl rfl)) (pgs_cons (pg_name (i := 16) sc_law.nd rfl (.inl rfl)) pgs_nil)))) (fun _ _ _ _ _ => pts_nil) (fun _ _ _ _ _ => (pv 15))) (pe_lst (pa_cons pe_bl (pa_cons pe_bl (pa_cons pe_bl pa_nil)))) (nomark _))
            (pss_one (ps_ret pe_bl))
            pss_nil))
          (pss_one (ps_if (PW.pt (pw_or (pt_not (pt_val (pe_callB call_isi (by rfl) M.isinstance (by decide +kernel) (pa_cons (pe_ix ix_tup (pv 12) pe_int (fun _ _ => rfl)) (pa_cons (pe_bltn (v := .ty "tuple") (by rfl) M.tuple (by decide +kernel) rfl) pa_nil))))) (pw_or1 (pt_cmpR op_ne (pe_callB call_len_seq (by rfl) M.len PySem.boot_len (pa_cons (pe_ix ix_tup (pv 12) pe_int (fun _ _ => rfl)) pa_nil)) pe_int (nomark _)))))
            (pss_one (ps_ret pe_bl))
            (pss_cons (ps_set (i := 17) sc_law.nd rfl (.inl rfl) (pe_ix ix_tup (pe_ix ix_tup (pv 12) pe_int (fun _ _ => rfl)) pe_int (fun _ _ => rfl)))
            (pss_cons (ps_set (i := 18) sc_law.nd rfl (.inl rfl) (pe_call G_l_gone (hr.mono (by decide)) (by rfl) g_l_gone k_l_gone b_l_gone .nil pass0 (pa_cons (pv 3) (pa_cons (pv 4) (pa_cons (pv 5) (pa_cons (pv 17) pa_nil))))))
            (pss_cons (ps_if (PW.pt (pw_or (pt_cmpR op_isN (pv 18) pe_non (nomark _)) (pw_or (pt_cmpR (op_neD hr.units) (pv 18) (pe_ix ix_tup (pe_ix ix_tup (pv 12) pe_int (fun _ _ => rfl)) pe_int (fun _ _ => rfl)) (nomark _)) (pw_or (pt_cmpR op_gt (pe_callB call_len_seq (by rfl) M.len PySem.boot_len (pa_cons (pv 17) pa_nil)) pe_int (nomark _)) (pw_or1 (pt_not (pt_val (pe_call G_l_least_alone (hr.mono (by decide)) (by rfl) g_l_least_alone k_l_least_alone b_l_least_alone .nil pass0 (pa_cons (pv 3) (pa_cons (pv 4) (pa_cons (pv 18) pa_nil)))))))))))
              (pss_one (ps_ret pe_bl))
              pss_nil)
            (Evl.pss_cut (ps_set (i := 19) sc_law.nd rfl (.inl rfl) (pe_lst (pa_cons (pe_call G_l_over (hr.mono (by decide)) (by rfl) g_l_over k_l_over b_l_over .nil pass0 (pa_cons (pv 18) (pa_cons (pv 6) pa_nil))) (pa_cons (pe_call G_l_over (hr.mono (by decide)) (by rfl) g_l_over k_l_over b_l_over .nil pass0 (pa_cons (pv 18) (pa_cons (pv 14) pa_nil))) (pa_cons (pv 18) pa_nil)))))
            (pss_one (ps_if (pt_cmpR (op_neD hr.units) (pv 13) (pe_lst (pa_cons (pe_tup (pa_cons pe_bl (pa_cons (pe_tup (pa_cons (pe_ix ix_list (pv 19) pe_int (fun _ _ => rfl)) (pa_cons (pv 17) pa_nil))) pa_nil))) (pa_cons (pe_tup (pa_cons pe_bl (pa_cons (pe_tup (pa_cons (pe_ix ix_list (pv 19) pe_int (fun _ _ => rfl)) (pa_cons (pv 17) pa_nil))) pa_nil))) (pa_cons (pe_tup (pa_cons pe_bl (pa_cons (pe_tup (pa_cons (pe_ix ix_list (pv 19) pe_int (fun _ _ => rfl)) (pa_cons (pv 17) pa_nil))) pa_nil))) pa_nil)))) (nomark _))
              (pss_one (ps_ret pe_bl))
              pss_nil))))))))))))))))))))))))
      (pss_one (ps_ret pe_bl))), ?_⟩
    refine ⟨2, rfl, by decide, by decide, ?_⟩
    refine for_range (lo := 0) (n := 2) (fun i σ' H' => ∃ y1 y2 y3 y4 y5 y6 y7 y8 y10 y12 y13 y14 y17 y18 y19 : Option V, σ' = [some (.ref sc), y1, y2, y3, y4, y5, y6, y7, y8, none, y10, none, y12, y13, y14, none, none, y17, y18, y19] ∧ SqL K H' sc (ns.map V.int) ∧ Tabs Ps H') ⟨none, none, none, none, none, none, none, none, none, none, none, none, none, none, none, rfl, hS, hT⟩ ?_ ?_
    · rintro i σ' H1 hi ⟨y1, y2, y3, y4, y5, y6, y7, y8, y10, y12, y13, y14, y17, y18, y19, rfl, hS1, hT1⟩
      rw [show (0 : Int) + (i : Nat) = i from by omega]
      refine ⟨.ref sc, rfl, .int i, rfl, sc, ns, i, rfl, hS1, by omega, fun d H2 s2 nd D2 => ?_⟩
      refine ⟨.ref d, rfl, d, 3, rfl, D2, by decide, fun v0 n ts H3 hW ok D3 K3 => ?_⟩
      obtain ⟨k, rfl⟩ : ∃ k : Nat, n = k := ⟨n.toNat, by have := ok.lo; omega⟩
      have hk := ok.hi
      have hk1 := ok.lo
      have few := ok.few
      obtain ⟨wa, wb, us, rfl, hwa, hwb, hpr⟩ := hW
      have hW3 : WebAt H3 (.ref wa) k ts := ⟨wa, wb, us, rfl, hwa, hwb, hpr⟩
      refine ⟨.ref d, rfl, .ref wa, rfl, d, 1003, .ref wa, k, ts, rfl, D3, by decide, hW3, ok, fun wv g H4 hw hg D4 K4 => ?_⟩
      have hwa4 := K4.tk D3 _ _ hwa
      refine ⟨.ref d, rfl, .ref wa, rfl, wa, _, 0, .int k, rfl, rfl, SqT.of hwa4, rfl, d, 2003, k, rfl, D4, by decide, by omega, by omega, fun a ss H5 ha ls bn D5 K5 => ?_⟩
      have hwa5 := K5.tk D4 _ _ hwa4
      refine ⟨.ref d, rfl, .ref wa, rfl, wa, _, 0, .int k, rfl, rfl, SqT.of hwa5, rfl, d, 3003, k, rfl, D5, by decide, by omega, by omega, fun p ps0 H6 hp6 r6 o6 l6 D6 K6 => ?_⟩
      have k36 : Tk H3 H6 := ((K4.tk D3).trans (K5.tk D4)).trans (K6.tk D5)
      have hW6 := hW3.tk k36
      have hw6 := hw.tk ((K5.tk D4).trans (K6.tk D5))
      have ha6 := K6.tk D5 _ _ ha
      have hsd := sql_ne hS1 nd
      have hS6 : SqL K H6 sc (ns.map V.int) := sql_well (sql_well (sql_well (sql_well (s2.seq hS1) hsd K3) hsd K4) hsd K5) hsd K6
      have hT6 : Tabs Ps H6 := ((((hT1.same s2).kp K3 D2).kp K4 D3).kp K5 D4).kp K6 D5
      clear hW3 hw hwa hwb hpr hwa4 hwa5 ha D5 D4 D3 K3 K4 K5 K6 k36 hS1 hT1 s2 D2 nd
      -- times
      refine ⟨fun σ' H' => ∃ m : Int, σ' = [some (.ref sc), some (.int i), some (.ref d), some (.ref wa), some wv, some (.ref a), some (.ref p), some (.int m), y8, none, y10, none, y12, y13, y14, none, none, y17, y18, y19] ∧ 1 ≤ m ∧ m ≤ 1000000000 ∧ WebAt H' (.ref wa) k ts ∧ Wts H' wv (rng ts.length) g ∧ H' a = some (.tup (ss.map V.int)) ∧ NoD H' p (ps0.map V.int) ∧ SqL K H' sc (ns.map V.int) ∧ Tabs Ps H', ?_, ?_⟩
      · refine ⟨.ref d, rfl, d, _, 9, rfl, D6, by decide, by decide, by decide, fun v1 H7 a1 b1 D7 K7 => ⟨2, v1, rfl, rfl, 10, 9, rfl, rfl, ⟨by decide, by decide, by decide⟩, by show 2 ≤ sizeLine; decide, fun O nO => ?_⟩⟩
        have hOd := D7.ned nO
        refine ⟨.ref d, rfl, d, _, 2, rfl, D7.new nO, by decide, by decide, by decide, fun v2 H8 a2 b2 D8 K8 => ?_⟩
        obtain ⟨m, hm, m0, m1⟩ : ∃ m : Int, atI [V.int (2 + v1), V.int (10 ^ (9 : Int).toNat)] v2 = some (.int m) ∧ 1 ≤ m ∧ m ≤ 1000000000 := by
          have h01 : v2 = 0 ∨ v2 = 1 := by omega
          rcases h01 with rfl | rfl
          · exact ⟨2 + v1, rfl, by omega, by omega⟩
          · exact ⟨_, rfl, by decide, by decide⟩
        have k68 : Tk H6 H8 := ((K7.tk D6).trans (Same.tk (same_new (o := .lst [.int (2 + v1), .int (10 ^ (9 : Int).toNat)]) nO))).trans (K8.tk (D7.new nO))
        exact ⟨O, _, v2, .int m, rfl, rfl, SqL.of (K8 _ _ hOd hOd upd_same), hm, m, rfl, m0, m1, hW6.tk k68, hw6.tk k68, k68 _ _ ha6, ((hp6.kp K7 D6).same (same_new nO)).kp K8 (D7.new nO), sql_well (Same.seq (same_new nO) (sql_well hS6 hsd K7)) hsd K8, (((hT6.kp K7 D6).same (same_new nO)).kp K8 (D7.new nO))⟩
      clear hW6 hw6 ha6 hp6 hS6 hT6 D6 H6
      rintro σ' H6 ⟨m0, rfl, hm1, hm2, hW6, hw6, ha6, hp6, hS6, hT6⟩
      obtain ⟨wa', wb, us, e, hwa, hwb, hpr⟩ := id hW6
      cases e
      have hlen2 : us.length = ts.length := Paired.length hpr
      -- plainly
      refine ⟨fun σ' H' => ∃ Z : Addr, σ' = [some (.ref sc), some (.int i), some (.ref d), some (.ref wa), some wv, some (.ref a), some (.ref p), some (.int m0), some (.ref Z), none, y10, none, y12, y13, y14, none, none, y17, y18, y19] ∧ H' Z = some (.lst (lf g ts.length)) ∧ Same H6 H', ?_, ?_⟩
      · refine ⟨.ref wa, rfl, wa, _, 1, .ref wb, rfl, rfl, SqT.of hwa, rfl, wb, us, rfl, .inr (SqT.of hwb), us.length, rfl, by omega, by omega, fun Z nZ => ?_⟩
        rw [Int.toNat_natCast, hlen2]
        refine lc_range (lo := 0) (n := ts.length) (fun i H' => H' Z = some (.lst (lf g i)) ∧ Same H6 H') ⟨upd_same, same_new nZ⟩ ?_ ?_
        · rintro j H7 hj ⟨hZ, s7⟩
          rw [show (0 : Int) + (j : Nat) = j from by omega]
          have fin : ∃ acc, H7 Z = some (.lst acc) ∧ acc.length < sizeLine ∧ (upd H7 Z (.lst (acc ++ [V.int (g j)]))) Z = some (.lst (lf g (j + 1))) ∧ Same H6 (upd H7 Z (.lst (acc ++ [V.int (g j)]))) := ⟨_, hZ, by rw [lf_len]; exact small1000 (by omega), by rw [upd_same, lf_succ], Same.mut s7 nZ⟩
          refine ⟨rfl, ?_⟩
          rcases (hw6.tk (Same.tk s7)).at hj with ⟨rfl, e⟩ | ⟨wx, xs, rfl, e1, e2⟩
          · rw [e] at fin
            exact ⟨.non, rfl, .int j, rfl, .inl ⟨j, rfl, fin⟩⟩
          · exact ⟨.ref wx, rfl, .int j, rfl, .inr ⟨wx, xs, j, _, rfl, e1, e2, fin⟩⟩
        · rintro H7 ⟨hZ, s7⟩
          exact ⟨Z, rfl, hZ, s7⟩
      rintro σ' H7 ⟨Z, rfl, hZ7, s7⟩
      -- times, once more
      refine ⟨fun σ' H' => ∃ m : Int, σ' = [some (.ref sc), some (.int i), some (.ref d), some (.ref wa), some wv, some (.ref a), some (.ref p), some (.int m), some (.ref Z), none, y10, none, y12, y13, y14, none, none, y17, y18, y19] ∧ 1 ≤ m ∧ m ≤ 1000000000 ∧ Same H7 H', ?_, ?_⟩
      · refine ⟨.int m0, rfl, .ref Z, rfl, by show 1 ≤ sizeLine; decide, fun O nO => ?_⟩
        have sO := same_new (o := .lst [.int 1]) nO
        refine ⟨Z, O, _, _, rfl, rfl, sO _ _ hZ7, upd_same, by rw [lf_len]; exact Nat.le_of_lt (small1000 (by show _ + 1 ≤ _; omega)), fun O2 nO2 => ?_⟩
        have s8 := sO.trans (same_new (o := .lst (lf g ts.length ++ [.int 1])) nO2)
        refine ⟨O2, (rng ts.length).map g ++ [1], rfl, ?_, by simp, fun x hx hmax => ?_⟩
        · rw [List.map_append, ← lf_ints]
          exact SqL.of upd_same
        refine ⟨m0, x, rfl, rfl, .inl ⟨by omega, by omega⟩, 10, 30, rfl, rfl, ⟨by decide, by decide, by decide⟩, _, _, rfl, rfl, _, rfl, ite2 (fun _ => ?_) (fun _ => ?_)⟩
        · exact ⟨1, rfl, by decide, by decide, s8⟩
        · exact ⟨m0, rfl, hm1, hm2, s8⟩
      rintro σ' H8 ⟨m, rfl, hma, hmb, s8⟩
      have hZ8 := s8 _ _ hZ7
      -- heavy
      refine ⟨fun σ' H' => ∃ hv : Addr, σ' = [some (.ref sc), some (.int i), some (.ref d), some (.ref wa), some wv, some (.ref a), some (.ref p), some (.int m), some (.ref Z), none, some (.ref hv), none, y12, y13, y14, none, none, y17, y18, y19] ∧ H' hv = some (.tup (((rng ts.length).map fun i => m * g i).map V.int)) ∧ Same H8 H', ?_, ?_⟩
      · refine ⟨.ref Z, rfl, Z, rfl, ⟨_, SqL.of hZ8⟩, fun Y nY => ?_⟩
        refine lc_list (xs := lf g ts.length) (fun j H' => H' Y = some (.lst (((rng j).map fun i => m * g i).map V.int)) ∧ Same H8 H') ⟨upd_same, same_new nY⟩ (fun j H' _ h => SqL.of (h.2 _ _ hZ8)) ?_ ?_
        · rintro j x H9 ex ⟨hY, s9⟩
          have hj : j < ts.length := by have := (List.getElem?_eq_some_iff.mp ex).1; rw [lf_len] at this; exact this
          rw [lf_get? g hj] at ex
          cases ex
          refine ⟨rfl, .int m, rfl, .int (g j), rfl, m, g j, rfl, rfl, .inl ⟨by omega, by omega⟩, _, hY, by rw [List.length_map, List.length_map, rng_length]; exact small1000 (by omega), ?_, Same.mut s9 nY⟩
          rw [upd_same, rng_succ, List.map_append, List.map_append]
          rfl
        · rintro H9 ⟨hY, s9⟩
          rw [lf_len] at hY
          exact ⟨Y, _, rfl, .inl ⟨SqL.of hY, fun hv nv => ⟨hv, rfl, upd_same, s9.trans (same_new nv)⟩⟩⟩
      rintro σ' H9 ⟨hv, rfl, hhv, s9⟩
      have s69 := (s7.trans s8).trans s9
      have hW9 := hW6.tk (Same.tk s69)
      have hw9 := hw6.tk (Same.tk s69)
      have ha9 := s69 _ _ ha6
      have hp9 := hp6.same s69
      have hS9 := s69.seq hS6
      have hT9 := hT6.same s69
      have hwa9 := s69 _ _ hwa
      have hwv9 : Wts H9 (.ref hv) (rng ts.length) (fun i => m * g i) := .inr ⟨hv, _, rfl, hhv, fun x hx => by
        have hx' := mem_rng.mp hx
        refine ⟨⟨hx'.1, by rw [List.length_map, rng_length]; exact hx'.2⟩, ?_⟩
        have e : ((x.toNat : Nat) : Int) = x := by omega
        unfold gW rng
        rw [List.getD_eq_getElem?_getD, List.map_map, List.getElem?_map, List.getElem?_range (by omega)]
        show m * g x = m * g (x.toNat : Nat)
        rw [e]⟩
      clear hW6 hw6 ha6 hp6 hS6 hT6 s7 s8 s9 s69 hZ7 hZ8 hwa hwb hpr hhv
      -- found
      refine ⟨.ref wa, rfl, wv, rfl, .ref a, rfl, .ref wa, wv, a, k, ts, ss, g, rfl, hW9, ok, hw9, ha9, ls, bn, fun R0 H10 s10 hf => ?_⟩
      have hW10 := hW9.tk (Same.tk s10)
      have hmap : (ts.map (turnT ps0)).length = ts.length := List.length_map _
      -- turned
      refine ⟨fun σ' H' => ∃ (L R1 : Addr), σ' = [some (.ref sc), some (.int i), some (.ref d), some (.ref wa), some wv, some (.ref a), some (.ref p), some (.int m), some (.ref Z), none, some (.ref hv), none, some (.ref R0), some (.ref L), y14, none, none, y17, y18, y19] ∧ H' L = some (.lst [.ref R1]) ∧ TV H' R1 g (ts.map (turnT ps0)) k (ovP ps0 ss) ∧ Same H10 H', ?_, ?_⟩
      · refine ⟨.ref wa, rfl, .ref p, rfl, .ref wa, p, k, ts, ps0, rfl, hW10, few, hp9.same s10, rising_nodup r6, fun u H11 s11 hu => ?_⟩
        refine ⟨wv, rfl, .ref a, rfl, .ref p, rfl, a, p, ss, ps0, rfl, s11 _ _ (s10 _ _ ha9), by omega, .inr ((hp9.same (s10.trans s11)).sq), fun r H12 s12 h12 => ?_⟩
        have s912 := (s10.trans s11).trans s12
        refine ⟨u, wv, r, k, _, ovP ps0 ss, g, rfl, hu.tk (Same.tk s12), ⟨ok.lo, ok.hi, by rw [hmap]; exact few, fun t ht => ?_⟩, by rw [hmap]; exact hw9.tk (Same.tk s912), h12, by rw [ovP_len]; exact ls, ovP_bin bn, fun R1 H13 s13 h13 => ⟨by show 1 ≤ sizeLine; decide, fun L nL => ?_⟩⟩
        · obtain ⟨t', ht', rfl⟩ := List.mem_map.mp ht
          have := ok.ok t' ht'
          unfold turnT
          split
          · exact this
          · exact this
        have sL := same_new (o := .lst [.ref R1]) nL
        exact ⟨L, R1, rfl, upd_same, h13.tk (Same.tk sL), (s11.trans s12).trans (s13.trans sL)⟩
      rintro σ' H11 ⟨L1, R1, rfl, hL11, h1, s11⟩
      have s911 := s10.trans s11
      -- every
      refine ⟨.ref wa, rfl, wa, _, 0, .int k, rfl, rfl, SqT.of (s911 _ _ hwa9), rfl, k, rfl, RgOk.of_le (by omega) (by omega) (by omega) (by omega), fun E1 nE => ?_⟩
      have sE := same_new (o := .lst (rgV 0 k)) nE
      have hE : (upd H11 E1 (.lst (rgV 0 k))) E1 = some (.lst ((rng k).map V.int)) := by rw [upd_same, rgV_rng, Int.toNat_natCast]
      generalize upd H11 E1 (.lst (rgV 0 k)) = H12 at sE hE
      have s912 := s911.trans sE
      -- the others
      refine ⟨fun σ' H' => ∃ (L R2 R3 : Addr), σ' = [some (.ref sc), some (.int i), some (.ref d), some (.ref wa), some wv, some (.ref a), some (.ref p), some (.int m), some (.ref Z), none, some (.ref hv), none, some (.ref R0), some (.ref L), some (.ref E1), none, none, y17, y18, y19] ∧ H' L = some (.lst [.ref R1, .ref R2, .ref R3]) ∧ TV H' R2 g ts k (ovP (rng k) ss) ∧ TV H' R3 (fun i => m * g i) ts k ss ∧ Same H12 H', ?_, ?_⟩
      · refine ⟨.ref L1, rfl, .ref wa, rfl, wv, rfl, .ref a, rfl, .ref E1, rfl, a, E1, ss, rng k, rfl, s912 _ _ ha9, by omega, .inl (SqL.of hE), fun r H13 s13 h13 => ?_⟩
        have s913 := s912.trans s13
        refine ⟨.ref wa, wv, r, k, ts, ovP (rng k) ss, g, rfl, hW9.tk (Same.tk s913), ok, hw9.tk (Same.tk s913), h13, by rw [ovP_len]; exact ls, ovP_bin bn, fun R2 H14 s14 h14 => ?_⟩
        have s914 := s913.trans s14
        refine ⟨.ref wa, rfl, .ref hv, rfl, .ref a, rfl, .ref wa, .ref hv, a, k, ts, ss, _, rfl, hW9.tk (Same.tk s914), ok, hwv9.tk (Same.tk s914), s914 _ _ ha9, ls, bn, fun R3 H15 s15 h15 => ⟨by show 2 ≤ sizeLine; decide, fun O nO => ?_⟩⟩
        have sO := same_new (o := .lst [.ref R2, .ref R3]) nO
        have s1215 := (s13.trans s14).trans s15
        refine ⟨L1, O, _, _, rfl, rfl, sO _ _ (s1215 _ _ (sE _ _ hL11)), upd_same, by show 3 ≤ sizeLine; decide, fun L nL => ?_⟩
        have sL := same_new (o := .lst ([.ref R1] ++ [.ref R2, .ref R3])) nL
        have s15L := sO.trans sL
        exact ⟨L, R2, R3, rfl, upd_same, (h14.tk (Same.tk s15)).tk (Same.tk s15L), h15.tk (Same.tk s15L), s1215.trans s15L⟩
      rintro σ' H13 ⟨L, R2, R3, rfl, hL, h2, h3, s13⟩
      have s913 := s912.trans s13
      have s1013 := (s11.trans sE).trans s13
      have hf13 := hf.tk (Same.tk s1013)
      have h113 := h1.tk (Same.tk (sE.trans s13))
      have sim1 : Sim k g ts g (ts.map (turnT ps0)) (ovP ps0) 1 := sim_turn ok.ok
      have sim2 : Sim k g ts g ts (ovP (rng k)) 1 := sim_all ok.ok
      have sim3 : Sim k g ts (fun i => m * g i) ts id m := sim_times (by omega)
      have hE13 := s13 _ _ hE
      rcases hf13 with ⟨ps, cur, b, r, t, mv, c, le, e1, e2, e3, e4⟩ | ⟨ps, cur, pp, mv, nx, le, e1⟩
      · have bc := mv.bin bn ls
        obtain ⟨b1, r1, t1, f1, f2, f3, f4⟩ := h113.calm (sim1.mvs bn ls mv) (sim1.calm bc.1 bc.2 c) le
        obtain ⟨b2, r2, t2, g1, g2, g3, g4⟩ := h2.calm (sim2.mvs bn ls mv) (sim2.calm bc.1 bc.2 c) le
        obtain ⟨b3, r3, t3, i1, i2, i3, i4⟩ := h3.calm (sim3.mvs bn ls mv) (sim3.calm bc.1 bc.2 c) le
        refine ⟨.ref R0, rfl, R0, _, 0, .bl false, rfl, rfl, SqT.of e1, rfl, _, rfl, ?_⟩
        obtain ⟨u1, k1, k2⟩ := kn_tup (K := K) (H := H13) (v := .ref r) (.inr (.inl ⟨_, e2⟩))
        rw [isT_of e2] at k2
        refine ⟨.ref R0, rfl, R0, _, 1, .ref r, rfl, rfl, SqT.of e1, rfl, .ref r, _, u1, _, _, rfl, .ty "tuple", k1, k2, _, rfl, ?_⟩
        refine ⟨.ref R0, rfl, R0, _, 1, .ref r, rfl, rfl, SqT.of e1, rfl, r, _, rfl, .inr (SqT.of e2), rfl, _, rfl, ?_⟩
        refine ⟨.ref R0, rfl, R0, _, 1, .ref r, rfl, rfl, SqT.of e1, rfl, r, _, 1, .ref t, rfl, rfl, SqT.of e2, rfl, ?_⟩
        -- gone
        have hT13 := hT9.same s913
        refine ⟨.ref wa, rfl, wv, rfl, .ref a, rfl, .ref t, rfl, .ref wa, wv, a, t, k, ts, ss, ps, cur, g, rfl, hW9.tk (Same.tk s913), ok, hw9.tk (Same.tk s913), s913 _ _ ha9, ls, bn, e4, mv, hT13, fun be H14 k14 hbe => ?_⟩
        have t14 := k14.tk hT13
        refine ⟨.ref be, rfl, rfl, _, rfl, ?_⟩
        refine ⟨.ref be, rfl, .ref R0, rfl, R0, _, 1, .ref r, rfl, rfl, SqT.of (t14 _ _ e1), rfl, r, _, 0, .ref b, rfl, rfl, SqT.of (t14 _ _ e2), rfl, intsD cur, intsD cur, IntsV.dp ⟨be, rfl, hbe⟩, IntsV.dp ⟨b, rfl, t14 _ _ e3⟩, shaped_intsD _, shaped_intsD _, _, rfl, ?_⟩
        rw [SeqAt.eqv_refl _ (lay_intsD _)]
        refine ⟨.ref t, rfl, t, _, rfl, .inr (SqT.of (t14 _ _ e4)), _, 16, rfl, rfl, _, rfl, ?_⟩
        rw [decide_eq_false (by rw [List.length_map]; omega)]
        refine ⟨.ref wa, rfl, wv, rfl, .ref be, rfl, .ref wa, wv, be, k, ts, cur, g, rfl, (hW9.tk (Same.tk s913)).tk t14, ok, (hw9.tk (Same.tk s913)).tk t14, hbe, bc.2, bc.1, c, k14.tab, fun H15 k15 => ⟨true, rfl, ?_⟩⟩
        have kt := k14.trans k15
        have t15 := kt.tk hT13
        have hbe15 := k15.tup k14.tab hbe
        -- due
        refine ⟨fun σ' H' => ∃ (Ld d1 d2 : Addr), σ' = [some (.ref sc), some (.int i), some (.ref d), some (.ref wa), some wv, some (.ref a), some (.ref p), some (.int m), some (.ref Z), none, some (.ref hv), none, some (.ref R0), some (.ref L), some (.ref E1), none, none, some (.ref t), some (.ref be), some (.ref Ld)] ∧ H' Ld = some (.lst [.ref d1, .ref d2, .ref be]) ∧ H' d1 = some (.tup ((ovP ps0 cur).map V.int)) ∧ H' d2 = some (.tup ((ovP (rng k) cur).map V.int)) ∧ Same H15 H', ?_, ?_⟩
        · have hp15 : SqT K H15 p (ps0.map V.int) := by
            obtain ⟨o, ho, hq⟩ := hp9.same s913
            have hnot : p ∉ Ps := hT13.out hq fun _ z => by cases z
            exact .inl (.inr ⟨o, kt.keep _ _ hnot hq⟩)
          refine ⟨.ref be, rfl, .ref p, rfl, be, p, cur, ps0, rfl, hbe15, by omega, .inr hp15, fun d1 H16 s16 h16 => ?_⟩
          refine ⟨.ref be, rfl, .ref E1, rfl, be, E1, cur, rng k, rfl, s16 _ _ hbe15, by omega, .inl (SqL.of (s16 _ _ (kt.lst hT13 hE13))), fun d2 H17 s17 h17 => ?_⟩
          refine ⟨.ref be, rfl, by show 3 ≤ sizeLine; decide, fun Ld nd => ?_⟩
          have sd := same_new (o := .lst [.ref d1, .ref d2, .ref be]) nd
          exact ⟨Ld, d1, d2, rfl, upd_same, sd _ _ (s17 _ _ h16), sd _ _ h17, (s16.trans s17).trans sd⟩
        rintro σ' H16 ⟨Ld, d1, d2, rfl, hLd, hd1, hd2, s16⟩
        have t16 : Tk H13 H16 := t15.trans (Same.tk s16)
        have hbe16 := s16 _ _ hbe15
        have ht16 := t16 _ _ e4
        have hL16 := s16 _ _ (kt.lst hT13 hL)
        -- at last
        refine ⟨.ref L, rfl, .ref Ld, rfl, Ld, _, 0, .ref d1, rfl, rfl, SqL.of hLd, rfl, .ref t, rfl, by show 2 ≤ sizeLine; decide, fun x1 n1 => ⟨by show 2 ≤ sizeLine; decide, fun z1 m1 => ?_⟩⟩
        have q1 := (same_new (o := .tup [.ref d1, .ref t]) n1).trans (same_new (o := .tup [.bl false, .ref x1]) m1)
        refine ⟨.ref Ld, rfl, Ld, _, 1, .ref d2, rfl, rfl, SqL.of (q1 _ _ hLd), rfl, .ref t, rfl, by show 2 ≤ sizeLine; decide, fun x2 n2 => ⟨by show 2 ≤ sizeLine; decide, fun z2 m2 => ?_⟩⟩
        have q2 := (same_new (o := .tup [.ref d2, .ref t]) n2).trans (same_new (o := .tup [.bl false, .ref x2]) m2)
        refine ⟨.ref Ld, rfl, Ld, _, 2, .ref be, rfl, rfl, SqL.of (q2 _ _ (q1 _ _ hLd)), rfl, .ref t, rfl, by show 2 ≤ sizeLine; decide, fun x3 n3 => ⟨by show 2 ≤ sizeLine; decide, fun z3 m3 => ⟨by show 3 ≤ sizeLine; decide, fun O nO => ?_⟩⟩⟩
        have sO := same_new (o := .lst [.ref z1, .ref z2, .ref z3]) nO
        have q3b := (same_new (o := .tup [.bl false, .ref x3]) m3).trans sO
        have q3 := (same_new (o := .tup [.ref be, .ref t]) n3).trans q3b
        have q2b := (same_new (o := .tup [.bl false, .ref x2]) m2).trans q3
        have q23 := q2.trans q3
        have q1b := (same_new (o := .tup [.bl false, .ref x1]) m1).trans q23
        have q123 := q1.trans q23
        have tt : Tk H13 _ := t16.trans (Same.tk q123)
        refine ⟨rowsD (ovP ps0 cur) (ovP (rng k) cur) cur ps, rowsD (ovP ps0 cur) (ovP (rng k) cur) cur ps, .lst (SqL.of (q123 _ _ hL16)) (.cons (row_dp (tt _ _ f1) (tt _ _ f2) (tt _ _ f3) (tt _ _ f4)) (.cons (row_dp (tt _ _ g1) (tt _ _ g2) (tt _ _ g3) (tt _ _ g4)) (.cons (row_dp (tt _ _ i1) (tt _ _ i2) (tt _ _ i3) (tt _ _ i4)) .nil))), .lst (SqL.of upd_same) (.cons (row_dp (q23 _ _ upd_same) (q1b _ _ upd_same) (q123 _ _ hd1) (q123 _ _ ht16)) (.cons (row_dp (q3 _ _ upd_same) (q2b _ _ upd_same) (q123 _ _ hd2) (q123 _ _ ht16)) (.cons (row_dp (sO _ _ upd_same) (q3b _ _ upd_same) (q123 _ _ hbe16) (q123 _ _ ht16)) .nil))), shaped_rows _ _ _ _, shaped_rows _ _ _ _, _, rfl, ?_⟩
        rw [SeqAt.eqv_refl _ (lay_rows _ _ _ _)]
        have kk := kt.trans (Kt.same kt.tab (s16.trans q123))
        exact ⟨_, _, _, _, _, _, _, _, _, _, _, _, _, _, _, rfl, kk.seq hT13 (s913.seq hS9), kk.tab⟩
      · have be := mv.bin bn ls
        have f1 := h113.not (sim1.mvs bn ls mv) (sim1.nxt be.1 be.2 nx) le
        have f2 := h2.not (sim2.mvs bn ls mv) (sim2.nxt be.1 be.2 nx) le
        have f3 := h3.not (sim3.mvs bn ls mv) (sim3.nxt be.1 be.2 nx) le
        refine ⟨.ref R0, rfl, R0, _, 0, .bl true, rfl, rfl, SqT.of e1, rfl, _, rfl, ?_⟩
        refine ⟨.ref L, rfl, L, rfl, ⟨_, SqL.of hL⟩, fun Y nY => ?_⟩
        refine lc_list (xs := [.ref R1, .ref R2, .ref R3]) (fun j H' => H' Y = some (.lst ((List.replicate j true).map V.bl)) ∧ Same H13 H') ⟨upd_same, same_new nY⟩ (fun j H' _ h => SqL.of (h.2 _ _ hL)) ?_ ?_
        · rintro j x H14 ex ⟨hY, s14⟩
          have hx : ∃ R, x = .ref R ∧ H13 R = some (.tup [.bl true, .non]) := by
            match j, ex with
            | 0, ex => simp at ex; exact ⟨R1, ex.symm, f1⟩
            | 1, ex => simp at ex; exact ⟨R2, ex.symm, f2⟩
            | 2, ex => simp at ex; exact ⟨R3, ex.symm, f3⟩
            | j + 3, ex => simp at ex
          have hj : j < 3 := (List.getElem?_eq_some_iff.mp ex).1
          obtain ⟨R, rfl, hR⟩ := hx
          refine ⟨R, _, rfl, SqT.of (s14 _ _ hR), rfl, _, _, rfl, _, _, rfl, rfl, rfl, .bl true, rfl, _, hY, by rw [List.length_map, List.length_replicate]; exact small1000 (by omega), ?_, Same.mut s14 nY⟩
          rw [upd_same, List.replicate_succ', List.map_append]
          rfl
        · rintro H14 ⟨hY, s14⟩
          refine ⟨by show 3 ≤ sizeLine; decide, fun O nO => ?_⟩
          have sO := same_new (o := .lst [.bl true, .bl true, .bl true]) nO
          refine ⟨.list [.bool true, .bool true, .bool true], .list [.bool true, .bool true, .bool true], .lst (SqL.of (sO _ _ hY)) (.cons (.bl true) (.cons (.bl true) (.cons (.bl true) .nil))), .lst (SqL.of upd_same) (.cons (.bl true) (.cons (.bl true) (.cons (.bl true) .nil))), by decide, by decide, _, rfl, ?_⟩
          have ss14 := s913.trans (s14.trans sO)
          exact ⟨_, _, _, _, _, _, _, _, _, _, _, _, _, _, _, rfl, ss14.seq hS9, hT9.same ss14⟩
    · rintro σ' H2 ⟨y1, y2, y3, y4, y5, y6, y7, y8, y10, y12, y13, y14, y17, y18, y19, rfl, _, _⟩
      exact q _
end
/-! ### the end of a law whose defs hold generator expressions: their tables are empty behind the top -/
theorem walk_tabs {l : PySem.W.OpenLaw} {n k : Nat} {q : Program} {loose : List Str} {XP : (Str → Option Value) → Heap → Prop} {YP : World → Heap → Prop} {d : DefRec} {K : Params → PySem.W.Frag} {x : Str}
    (hn : l.most = some n) (hn2 : n ≤ sizeLine) (hdf : d.params.defaults = []) (hr : Room k callerA) (hY : ∀ (w : World) (h : Heap), YP w h → (K w.params).In h)
    (F : ∀ (w : World) (mg : Str → Option Value) (fa : Addr) (h : Heap), (K w.params).In h → h.Ns mainGlobals mg → mg d.name = some (.ref fa) →
      (∀ (y : Str) (fy : Addr), ((recsOf q).any fun e => e.name == y) = true → mg y = some (.ref fy) → LamX.OwnTab (K w.params) fy h) → LamX.LawAtS l w (K w.params) CX0 k n x mg fa h) :
    PySem.W.WalkO q loose XP YP l.row.toRowW d [] (fun f vs => PySem.call f vs) := by
  refine Att.attach_callB hn hdf fun w s₀ s₁ mg mb fa o pm cd doc a vs ns G Y ho hd hcd hmg hobj hints hlen hbits hg => ?_
  have KX := hY w _ Y
  have tabs : ∀ (y : Str) (fy : Addr), ((recsOf q).any fun e => e.name == y) = true → mg y = some (.ref fy) → LamX.OwnTab (K w.params) fy s₁.heap := fun y fy hy hm c P o1 fd1 e dd vs1 sl k1 k2 k3 k4 k5 => by
    obtain ⟨dL, hmem, hnm⟩ := List.any_eq_true.mp hy
    have hnm : dL.name = y := beq_iff_eq.mp hnm
    obtain ⟨a', o', fd', c', P', h1, h2, h3, h4, h5, h6⟩ := G.T.tab dL hmem
    rw [hnm, hm] at h1
    cases h1
    rw [KX _ _ k1] at h2
    cases h2
    rw [k2] at h3
    cases h3
    rw [k3] at h4
    cases h4
    obtain ⟨⟨oc, vc, e1, _, e3, e4⟩, hP⟩ := h6
    rw [KX _ _ k4] at e1
    cases e1
    cases e3
    rw [k5] at e4
    cases e4
    exact hP
  obtain ⟨fd, cs, sp, hT, nT, C, hb, hsp, hF⟩ := F w mg fa _ KX G.T.g hmg tabs
  exact LamX.law_callTs KX G.T.g G.T.b G.T.builtins G.T.nolimit hg hT nT C G.T.bmain hobj hints (Nat.le_trans hlen hn2) hr hF hb (fun H hH hS => hsp H a ns hlen hbits hH hS) fun H e s' z => z
/-- where a def stands, and where its code object does -/
structure At (K : PySem.W.Frag) (x : Str) (st : Stmt) (f : Addr) : Prop where
  ns : PySem.W.nsIn K mainGlobals x = some (some (.ref f))
  ex : ∃ (oc : Value) (od : Option Addr) (kV doc pm : Value) (an : Option Addr) (cdv ct : Value) (osl : Array (Option Value)),
    K.lookup f = some ⟨oc, od, .func (PySem.W.fnOf x x (defArgs st) (defBody st) (defScope st) .none kV doc pm an cdv ct), osl⟩ ∧ PySem.W.codeIn K cdv x = true
  kp : PySem.W.keepIn K (.ref f) = true
theorem at_mk {K : PySem.W.Frag} {x : Str} {st : Stmt} {f : Addr} {oc : Value} {od an : Option Addr} {osl : Array (Option Value)} {kV doc pm cdv ct : Value} (a : PySem.W.nsIn K mainGlobals x = some (some (.ref f)))
    (l : K.lookup f = some ⟨oc, od, .func (PySem.W.fnOf x x (defArgs st) (defBody st) (defScope st) .none kV doc pm an cdv ct), osl⟩) (c : PySem.W.codeIn K cdv x = true) (k : PySem.W.keepIn K (.ref f) = true) : At K x st f := ⟨a, ⟨oc, od, kV, doc, pm, an, cdv, ct, osl, l, c⟩, k⟩
theorem At.fn {K : PySem.W.Frag} {x : Str} {st : Stmt} {f : Addr} (h : At K x st f) : ∃ fd, Fun K x x st f fd := by
  obtain ⟨oc, od, kV, doc, pm, an, cdv, ct, osl, l, c⟩ := h.ex
  exact ⟨_, fun_mk l c h.kp⟩
structure AtC (K : PySem.W.Frag) (x : Str) (st : Stmt) (f c Pt : Addr) : Prop where
  ns : PySem.W.nsIn K mainGlobals x = some (some (.ref f))
  ex : ∃ (oc : Value) (od : Option Addr) (kV doc pm : Value) (an : Option Addr) (ct : Value) (osl : Array (Option Value)),
    K.lookup f = some ⟨oc, od, .func (PySem.W.fnOf x x (defArgs st) (defBody st) (defScope st) .none kV doc pm an (.ref c) ct), osl⟩ ∧ PySem.W.codeIn K (.ref c) x = true
  kp : PySem.W.keepIn K (.ref f) = true
  co : ∃ (dd : Option Addr) (vs : Array Value) (sl : Array (Option Value)) (file : Str) (tf : Tok) (flags : Int) (tg : Tok) (inF : Bool) (text : Int) (tt : Tok), K.lookup c = some ⟨.type "code", dd, .fields vs, sl⟩ ∧ vs[11]? = some (.ref Pt) ∧ vs.getD 11 .none = .ref Pt ∧ vs.getD 18 .none = .str file tf ∧
    vs.getD 7 .none = .int flags tg ∧ vs.getD 9 .none = .bool inF ∧ vs.getD 10 .none = .int text tt ∧ c ≠ Pt
  nP : K.lookup Pt = none
theorem atC_mk {K : PySem.W.Frag} {x : Str} {st : Stmt} {f c Pt : Addr} {oc : Value} {od an dd : Option Addr} {osl sl : Array (Option Value)} {kV doc pm ct : Value} {vs : Array Value} {file : Str} {tf tg tt : Tok} {flags text : Int} {inF : Bool} (a : PySem.W.nsIn K mainGlobals x = some (some (.ref f)))
    (l : K.lookup f = some ⟨oc, od, .func (PySem.W.fnOf x x (defArgs st) (defBody st) (defScope st) .none kV doc pm an (.ref c) ct), osl⟩) (cc : PySem.W.codeIn K (.ref c) x = true) (k : PySem.W.keepIn K (.ref f) = true)
    (lc : K.lookup c = some ⟨.type "code", dd, .fields vs, sl⟩) (v11 : vs[11]? = some (.ref Pt)) (w11 : vs.getD 11 .none = .ref Pt) (v18 : vs.getD 18 .none = .str file tf) (v7 : vs.getD 7 .none = .int flags tg) (v9 : vs.getD 9 .none = .bool inF) (v10 : vs.getD 10 .none = .int text tt) (ne : c ≠ Pt)
    (nP : K.lookup Pt = none) : AtC K x st f c Pt := ⟨a, ⟨oc, od, kV, doc, pm, an, ct, osl, l, cc⟩, k, ⟨dd, vs, sl, file, tf, flags, tg, inF, text, tt, lc, v11, w11, v18, v7, v9, v10, ne⟩, nP⟩
theorem AtC.fn {K : PySem.W.Frag} {x : Str} {st : Stmt} {f c Pt : Addr} (h : AtC K x st f c Pt) : ∃ fd, FunC K x x st f fd c := by
  obtain ⟨oc, od, kV, doc, pm, an, ct, osl, l, cc⟩ := h.ex
  exact ⟨_, ⟨oc, od, kV, doc, pm, an, ct, osl, rfl, l, cc⟩, h.kp⟩
theorem AtC.hd {K : PySem.W.Frag} {h : Heap} {x : Str} {st : Stmt} {f c Pt : Addr} (a : AtC K x st f c Pt) (X : K.In h) : PySem.W.CodeHd h c Pt := by
  obtain ⟨dd, vs, sl, file, tf, flags, tg, inF, text, tt, lc, v11, w11, v18, v7, v9, v10, ne⟩ := a.co
  exact ⟨_, vs, file, tf, flags, tg, inF, text, tt, X _ _ lc, rfl, rfl, v11, w11, v18, v7, v9, v10, ne⟩
theorem AtC.tab {K : PySem.W.Frag} {h : Heap} {x : Str} {st : Stmt} {f c Pt : Addr} (a : AtC K x st f c Pt) (o : LamX.OwnTab K f h) : h.get? Pt = some { cls := .none, data := .fields #[] } := by
  obtain ⟨oc, od, kV, doc, pm, an, ct, osl, l, cc⟩ := a.ex
  obtain ⟨dd, vs, sl, file, tf, flags, tg, inF, text, tt, lc, v11, w11, v18, v7, v9, v10, ne⟩ := a.co
  exact o c Pt _ _ _ _ _ _ l rfl rfl lc v11
section
variable {P : Program} {w : World} {K : PySem.W.Frag} {mg : Str → Option Value} {base : Heap}
theorem Df.of {x : Str} {st : Stmt} {f : Addr} {fd : FuncData} {k : Nat} {ps : List Str} {sp : Sp} (g : mg x = some (.ref f)) (F : Fun K x x st f fd) (G : FnOk P w K mg base CX0 k f fd ps sp)
    (h : ∀ (kV doc pm : Value) (an : Option Addr) (cdv ct : Value) (us : List Value), us.length = ps.length → bindArgs (PySem.W.fnOf x x (defArgs st) (defBody st) (defScope st) .none kV doc pm an cdv ct) ⟨us, []⟩ = pure (ps.zip us)) : Df P w K mg base k x ps sp :=
  ⟨f, fd, G, g, F.kp, F.binds h⟩
end
/-! ### what the top has written -/
section
variable {P : Program} {w : World} {K : PySem.W.Frag} {mg : Str → Option Value} {base : Heap}
theorem law_at {l : PySem.W.OpenLaw} {w : World} {K : PySem.W.Frag} {h : Heap} {mg : Str → Option Value} {fa f0 f1 f2 f3 f4 f5 f6 f7 f8 f9 f10 f11 f12 f13 f14 f15 f16 f17 f18 f19 f20 f21 f22 c3 P3 eW e_TooMany : Addr} {nt0 : Tok} (X : K.In h) (G : h.Ns mainGlobals mg) (hfa : mg "law" = some (.ref fa))
    (t3 : ∀ (fy : Addr), mg "mend_weight" = some (.ref fy) → LamX.OwnTab K fy h)
    (a0 : At K "breaks" s_breaks f0)
    (a1 : At K "broken_by" s_broken_by f1)
    (a2 : At K "weight_of" s_weight_of f2)
    (a3 : AtC K "mend_weight" s_mend_weight f3 c3 P3)
    (a4 : At K "broken_weight" s_broken_weight f4)
    (a5 : At K "leans" s_leans f5)
    (a6 : At K "moved_over" s_moved_over f6)
    (a7 : At K "settled" s_settled f7)
    (a8 : At K "_law_well" s_l_well f8)
    (a9 : At K "_law_draw" s_l_draw f9)
    (a10 : At K "_law_web" s_l_web f10)
    (a11 : At K "_law_places" s_l_places f11)
    (a12 : At K "_law_about" s_l_about f12)
    (a13 : At K "_law_weights" s_l_weights f13)
    (a14 : At K "_law_weight" s_l_weight f14)
    (a15 : At K "_law_sides" s_l_sides f15)
    (a16 : At K "_law_broken" s_l_broken f16)
    (a17 : At K "_law_lean" s_l_lean f17)
    (a18 : At K "_law_told" s_l_told f18)
    (a19 : At K "_law_over" s_l_over f19)
    (a20 : At K "_law_gone" s_l_gone f20)
    (a21 : At K "_law_least_alone" s_l_least_alone f21)
    (a22 : At K "law" s_law f22)
    (z0 : PySem.W.nsIn K mainGlobals "len" = some none)
    (z1 : PySem.W.nsIn K mainGlobals "int" = some none)
    (z2 : PySem.W.nsIn K mainGlobals "bool" = some none)
    (z3 : PySem.W.nsIn K mainGlobals "str" = some none)
    (z4 : PySem.W.nsIn K mainGlobals "list" = some none)
    (z5 : PySem.W.nsIn K mainGlobals "tuple" = some none)
    (z6 : PySem.W.nsIn K mainGlobals "range" = some none)
    (z7 : PySem.W.nsIn K mainGlobals "isinstance" = some none)
    (z8 : PySem.W.nsIn K mainGlobals "sum" = some none)
    (z9 : PySem.W.nsIn K mainGlobals "enumerate" = some none)
    (z10 : PySem.W.nsIn K mainGlobals "all" = some none)
    (z11 : PySem.W.nsIn K mainGlobals "max" = some none)
    (e0 : ErrK K "TooMany" e_TooMany eW)
    (v0 : PySem.W.kitOne K (.ref e_TooMany) (.type "ValueError") = some true)
    (x0 : PySem.W.exmOne K (.ref e_TooMany) (.ref e_TooMany) = some true)
    (n0 : PySem.W.nsIn K mainGlobals "MOST_MOVES" = some (some (.int 16 nt0))) :
    LamX.LawAtS l w K CX0 6 63 "_law_script" mg fa h := by
  have efa := hfa.symm.trans (PySem.W.mg_of X G a22.ns)
  cases efa
  have M : Free mg := ⟨PySem.W.mg_none_of X G z0, PySem.W.mg_none_of X G z1, PySem.W.mg_none_of X G z2, PySem.W.mg_none_of X G z3, PySem.W.mg_none_of X G z4, PySem.W.mg_none_of X G z5, PySem.W.mg_none_of X G z6, PySem.W.mg_none_of X G z7, PySem.W.mg_none_of X G z8⟩
  have m_enumerate := PySem.W.mg_none_of X G z9
  have m_all := PySem.W.mg_none_of X G z10
  have m_max := PySem.W.mg_none_of X G z11
  obtain ⟨d0, F0⟩ := a0.fn
  obtain ⟨d1, F1⟩ := a1.fn
  obtain ⟨d2, F2⟩ := a2.fn
  obtain ⟨d3, F3⟩ := a3.fn
  obtain ⟨d4, F4⟩ := a4.fn
  obtain ⟨d5, F5⟩ := a5.fn
  obtain ⟨d6, F6⟩ := a6.fn
  obtain ⟨d7, F7⟩ := a7.fn
  obtain ⟨d8, F8⟩ := a8.fn
  obtain ⟨d9, F9⟩ := a9.fn
  obtain ⟨d10, F10⟩ := a10.fn
  obtain ⟨d11, F11⟩ := a11.fn
  obtain ⟨d12, F12⟩ := a12.fn
  obtain ⟨d13, F13⟩ := a13.fn
  obtain ⟨d14, F14⟩ := a14.fn
  obtain ⟨d15, F15⟩ := a15.fn
  obtain ⟨d16, F16⟩ := a16.fn
  obtain ⟨d17, F17⟩ := a17.fn
  obtain ⟨d18, F18⟩ := a18.fn
  obtain ⟨d19, F19⟩ := a19.fn
  obtain ⟨d20, F20⟩ := a20.fn
  obtain ⟨d21, F21⟩ := a21.fn
  obtain ⟨d22, F22⟩ := a22.fn
  have g0 := PySem.W.mg_of X G a0.ns
  have g1 := PySem.W.mg_of X G a1.ns
  have g2 := PySem.W.mg_of X G a2.ns
  have g3 := PySem.W.mg_of X G a3.ns
  have g4 := PySem.W.mg_of X G a4.ns
  have g5 := PySem.W.mg_of X G a5.ns
  have g6 := PySem.W.mg_of X G a6.ns
  have g7 := PySem.W.mg_of X G a7.ns
  have g8 := PySem.W.mg_of X G a8.ns
  have g9 := PySem.W.mg_of X G a9.ns
  have g10 := PySem.W.mg_of X G a10.ns
  have g11 := PySem.W.mg_of X G a11.ns
  have g12 := PySem.W.mg_of X G a12.ns
  have g13 := PySem.W.mg_of X G a13.ns
  have g14 := PySem.W.mg_of X G a14.ns
  have g15 := PySem.W.mg_of X G a15.ns
  have g16 := PySem.W.mg_of X G a16.ns
  have g17 := PySem.W.mg_of X G a17.ns
  have g18 := PySem.W.mg_of X G a18.ns
  have g19 := PySem.W.mg_of X G a19.ns
  have g20 := PySem.W.mg_of X G a20.ns
  have g21 := PySem.W.mg_of X G a21.ns
  have hb0 : ∀ (s : Shared) (u : Value), BindsTo s d22 ⟨[u], []⟩ [("_law_script", u)] := by
    obtain ⟨oc, od, kV, doc, pm, an, cdv, ct, osl, rfl, _⟩ := F22.ex
    exact fun s u => .of_eq rfl
  refine ⟨d22, [(c3, P3)], (spLaw K [P3]), (List.forall_mem_cons.mpr ⟨a3.tab (t3 _ g3), (fun p hp => by simp at hp)⟩), (List.forall_mem_cons.mpr ⟨a3.nP, (fun p hp => by simp at hp)⟩), (List.forall_mem_cons.mpr ⟨a3.hd X, (fun p hp => by simp at hp)⟩), hb0, fun H a ns hl _ hT hS => ⟨a, ns, rfl, hS, hl, (List.forall_mem_cons.mpr ⟨⟨#[], hT (c3, P3) (by simp), by trivial⟩, (fun p hp => by simp at hp)⟩), fun _ => rfl⟩, fun base KB GB TB => ?_⟩
  have tb3 := TB (c3, P3) (by simp)
  have D0 : Df l.prog w K mg base 1 "breaks" ["sides", "tie"] spBreaks := .of g0 F0 (ok_breaks F0) fun _ _ _ _ _ _ us hl => match us, hl with | [_, _], _ => rfl
  have D1 : Df l.prog w K mg base 2 "broken_by" ["web", "sides"] spBroken := .of g1 F1 (ok_broken_by F1 M m_enumerate D0) fun _ _ _ _ _ _ us hl => match us, hl with | [_, _], _ => rfl
  have D2 : Df l.prog w K mg base 1 "weight_of" ["weights", "tie"] spWeightOf := .of g2 F2 (ok_weight_of F2) fun _ _ _ _ _ _ us hl => match us, hl with | [_, _], _ => rfl
  have D3 : Df l.prog w K mg base 3 "mend_weight" ["weights", "ties"] (spMend [P3]) := .of g3 F3.fn (ok_mend_weight F3 ⟨tb3.code, tb3.bm, tb3.gP⟩ (show P3 ∈ [P3] by simp) M D2) fun _ _ _ _ _ _ us hl => match us, hl with | [_, _], _ => rfl
  have D4 : Df l.prog w K mg base 4 "broken_weight" ["web", "weights", "sides"] (spBrokenW [P3]) := .of g4 F4 (ok_broken_weight F4 D3 D1) fun _ _ _ _ _ _ us hl => match us, hl with | [_, _, _], _ => rfl
  have D5 : Df l.prog w K mg base 2 "leans" ["web", "weights", "sides"] spLeans := .of g5 F5 (ok_leans F5 M m_enumerate D2 D0) fun _ _ _ _ _ _ us hl => match us, hl with | [_, _, _], _ => rfl
  have D6 : Df l.prog w K mg base 1 "moved_over" ["sides", "place"] spOver := .of g6 F6 (ok_moved_over F6) fun _ _ _ _ _ _ us hl => match us, hl with | [_, _], _ => rfl
  have D7 : DfX l.prog w K mg base 3 "settled" ["web", "weights", "sides"] (spSettled e_TooMany) := .of g7 F7 (ok_settled F7 M m_max (e0.ref X G) (PySem.W.mg_of X G n0) D5 D6) fun _ _ _ _ _ _ us hl => match us, hl with | [_, _, _], _ => rfl
  have D8 : Df l.prog w K mg base 1 "_law_well" ["_law_script", "_law_k"] (spWell K) := .of g8 F8 (ok_l_well F8 M) fun _ _ _ _ _ _ us hl => match us, hl with | [_, _], _ => rfl
  have D9 : Df l.prog w K mg base 1 "_law_draw" ["_law_well_here", "_law_most"] spDraw := .of g9 F9 (ok_l_draw F9) fun _ _ _ _ _ _ us hl => match us, hl with | [_, _], _ => rfl
  have D10 : Df l.prog w K mg base 2 "_law_web" ["_law_well_here"] spWeb := .of g10 F10 (ok_l_web F10 M D9) fun _ _ _ _ _ _ us hl => match us, hl with | [_], _ => rfl
  have D11 : Df l.prog w K mg base 2 "_law_places" ["_law_well_here", "_law_many"] spPlaces := .of g11 F11 (ok_l_places F11 M D9) fun _ _ _ _ _ _ us hl => match us, hl with | [_, _], _ => rfl
  have D12 : Df l.prog w K mg base 1 "_law_about" ["_law_web_here", "_law_places_here"] spAbout := .of g12 F12 (ok_l_about F12 M) fun _ _ _ _ _ _ us hl => match us, hl with | [_, _], _ => rfl
  have D13 : Df l.prog w K mg base 2 "_law_weights" ["_law_well_here", "_law_web_here"] spWeightsL := .of g13 F13 (ok_l_weights F13 M D9) fun _ _ _ _ _ _ us hl => match us, hl with | [_, _], _ => rfl
  have D14 : Df l.prog w K mg base 1 "_law_weight" ["_law_weights_here", "_law_tie"] spWeightOf := .of g14 F14 (ok_l_weight F14) fun _ _ _ _ _ _ us hl => match us, hl with | [_, _], _ => rfl
  have D15 : Df l.prog w K mg base 2 "_law_sides" ["_law_well_here", "_law_many"] spSidesL := .of g15 F15 (ok_l_sides F15 M D9) fun _ _ _ _ _ _ us hl => match us, hl with | [_, _], _ => rfl
  have D16 : Df l.prog w K mg base 1 "_law_broken" ["_law_web_here", "_law_sides_here", "_law_tie"] spLBroken := .of g16 F16 (ok_l_broken F16) fun _ _ _ _ _ _ us hl => match us, hl with | [_, _, _], _ => rfl
  have D17 : Df l.prog w K mg base 2 "_law_lean" ["_law_web_here", "_law_weights_here", "_law_sides_here", "_law_place"] spLLean := .of g17 F17 (ok_l_lean F17 M D14 D16) fun _ _ _ _ _ _ us hl => match us, hl with | [_, _, _, _], _ => rfl
  have D18 : Df l.prog w K mg base 4 "_law_told" ["_law_web_here", "_law_weights_here", "_law_sides_here"] spTold74 := .of g18 F18 (ok_l_told F18 M (e0.ref X G) x0 D7) fun _ _ _ _ _ _ us hl => match us, hl with | [_, _, _], _ => rfl
  have D19 : Df l.prog w K mg base 1 "_law_over" ["_law_sides_here", "_law_places_here"] (spOver74 K) := .of g19 F19 (ok_l_over F19 M m_enumerate) fun _ _ _ _ _ _ us hl => match us, hl with | [_, _], _ => rfl
  have D20 : Df l.prog w K mg base 5 "_law_gone" ["_law_web_here", "_law_weights_here", "_law_sides_here", "_law_places_here"] (spGone [P3]) := .of g20 F20 (ok_l_gone F20 M m_max D4 D17 D19) fun _ _ _ _ _ _ us hl => match us, hl with | [_, _, _, _], _ => rfl
  have D21 : Df l.prog w K mg base 5 "_law_least_alone" ["_law_web_here", "_law_weights_here", "_law_sides_here"] (spAlone [P3]) := .of g21 F21 (ok_l_least_alone F21 M m_all D4 D19) fun _ _ _ _ _ _ us hl => match us, hl with | [_, _, _], _ => rfl
  exact ok_law F22 M m_max D8 D10 D13 D15 D11 D9 D14 D18 D12 D19 D20 D21
end
end FF
open PySem PySem.W PyProof.Rows
set_option maxRecDepth 100000 in
set_option maxHeartbeats 0 in
theorem PySem.Challenge.cw_friendfoe_k74_whole_moving_over_holds : PySem.Challenge.rw_friendfoe_k74_whole_moving_over.Holds := by
  w_on; o_law; k_head; (case hw => w_witness2)
  k_fill
  refine FF.walk_tabs (l := PySem.Challenge.rw_friendfoe_k74_whole_moving_over) (n := 63) (k := 6) (x := "_law_script") rfl (by decide) rfl ⟨rfl, by decide, by decide⟩ (fun w h Y => PySem.W.kIn_of Y) ?F
  case F =>
    intro w mg fa h KX G hmg tabs
    refine' FF.law_at KX G hmg (fun fy => tabs "mend_weight" fy ?r3) ?a0 ?a1 ?a2 ?a3 ?a4 ?a5 ?a6 ?a7 ?a8 ?a9 ?a10 ?a11 ?a12 ?a13 ?a14 ?a15 ?a16 ?a17 ?a18 ?a19 ?a20 ?a21 ?a22 ?z0 ?z1 ?z2 ?z3 ?z4 ?z5 ?z6 ?z7 ?z8 ?z9 ?z10 ?z11 ?e0 ?v0 ?x0 ?n0
    (case r3 => rfl)
    (case a0 => refine' FF.at_mk ?p1 ?p2 ?p3 ?p4; (case p1 => k_is); (case p2 => k_is); (case p3 => k_is); (case p4 => k_is))
    (case a1 => refine' FF.at_mk ?p1 ?p2 ?p3 ?p4; (case p1 => k_is); (case p2 => k_is); (case p3 => k_is); (case p4 => k_is))
    (case a2 => refine' FF.at_mk ?p1 ?p2 ?p3 ?p4; (case p1 => k_is); (case p2 => k_is); (case p3 => k_is); (case p4 => k_is))
    (case a3 => refine' FF.atC_mk ?p1 ?p2 ?p3 ?p4 ?p5 ?p6 ?p7 ?p8 ?p9 ?p10 ?p11 ?p12 ?p13; (case p1 => k_is); (case p2 => k_is); (case p3 => k_is); (case p4 => k_is); (case p5 => k_is); (case p6 => rfl); (case p7 => rfl); (case p8 => rfl); (case p9 => rfl); (case p10 => rfl); (case p11 => rfl); (case p12 => decide); (case p13 => rfl))
    (case a4 => refine' FF.at_mk ?p1 ?p2 ?p3 ?p4; (case p1 => k_is); (case p2 => k_is); (case p3 => k_is); (case p4 => k_is))
    (case a5 => refine' FF.at_mk ?p1 ?p2 ?p3 ?p4; (case p1 => k_is); (case p2 => k_is); (case p3 => k_is); (case p4 => k_is))
    (case a6 => refine' FF.at_mk ?p1 ?p2 ?p3 ?p4; (case p1 => k_is); (case p2 => k_is); (case p3 => k_is); (case p4 => k_is))
    (case a7 => refine' FF.at_mk ?p1 ?p2 ?p3 ?p4; (case p1 => k_is); (case p2 => k_is); (case p3 => k_is); (case p4 => k_is))
    (case a8 => refine' FF.at_mk ?p1 ?p2 ?p3 ?p4; (case p1 => k_is); (case p2 => k_is); (case p3 => k_is); (case p4 => k_is))
    (case a9 => refine' FF.at_mk ?p1 ?p2 ?p3 ?p4; (case p1 => k_is); (case p2 => k_is); (case p3 => k_is); (case p4 => k_is))
    (case a10 => refine' FF.at_mk ?p1 ?p2 ?p3 ?p4; (case p1 => k_is); (case p2 => k_is); (case p3 => k_is); (case p4 => k_is))
    (case a11 => refine' FF.at_mk ?p1 ?p2 ?p3 ?p4; (case p1 => k_is); (case p2 => k_is); (case p3 => k_is); (case p4 => k_is))
    (case a12 => refine' FF.at_mk ?p1 ?p2 ?p3 ?p4; (case p1 => k_is); (case p2 => k_is); (case p3 => k_is); (case p4 => k_is))
    (case a13 => refine' FF.at_mk ?p1 ?p2 ?p3 ?p4; (case p1 => k_is); (case p2 => k_is); (case p3 => k_is); (case p4 => k_is))
    (case a14 => refine' FF.at_mk ?p1 ?p2 ?p3 ?p4; (case p1 => k_is); (case p2 => k_is); (case p3 => k_is); (case p4 => k_is))
    (case a15 => refine' FF.at_mk ?p1 ?p2 ?p3 ?p4; (case p1 => k_is); (case p2 => k_is); (case p3 => k_is); (case p4 => k_is))
    (case a16 => refine' FF.at_mk ?p1 ?p2 ?p3 ?p4; (case p1 => k_is); (case p2 => k_is); (case p3 => k_is); (case p4 => k_is))
    (case a17 => refine' FF.at_mk ?p1 ?p2 ?p3 ?p4; (case p1 => k_is); (case p2 => k_is); (case p3 => k_is); (case p4 => k_is))
    (case a18 => refine' FF.at_mk ?p1 ?p2 ?p3 ?p4; (case p1 => k_is); (case p2 => k_is); (case p3 => k_is); (case p4 => k_is))
    (case a19 => refine' FF.at_mk ?p1 ?p2 ?p3 ?p4; (case p1 => k_is); (case p2 => k_is); (case p3 => k_is); (case p4 => k_is))
    (case a20 => refine' FF.at_mk ?p1 ?p2 ?p3 ?p4; (case p1 => k_is); (case p2 => k_is); (case p3 => k_is); (case p4 => k_is))
    (case a21 => refine' FF.at_mk ?p1 ?p2 ?p3 ?p4; (case p1 => k_is); (case p2 => k_is); (case p3 => k_is); (case p4 => k_is))
    (case a22 => refine' FF.at_mk ?p1 ?p2 ?p3 ?p4; (case p1 => k_is); (case p2 => k_is); (case p3 => k_is); (case p4 => k_is))
    (case z0 => k_is)
    (case z1 => k_is)
    (case z2 => k_is)
    (case z3 => k_is)
    (case z4 => k_is)
    (case z5 => k_is)
    (case z6 => k_is)
    (case z7 => k_is)
    (case z8 => k_is)
    (case z9 => k_is)
    (case z10 => k_is)
    (case z11 => k_is)
    (case e0 => refine' FF.errK_mk ?q1 ?q2 ?q3 ?q4 ?q5 ?q6 ?q7 ?q8 ?q9 ?q10 ?q11 ?q12 ?q13 ?q14 ?q15 ?q16 ?q17; (case q1 => first | k_is | rfl | kernel_rfl); (case q2 => first | k_is | rfl | kernel_rfl); (case q3 => first | k_is | rfl | kernel_rfl); (case q4 => first | k_is | rfl | kernel_rfl); (case q5 => first | k_is | rfl | kernel_rfl); (case q6 => first | k_is | rfl | kernel_rfl); (case q7 => first | k_is | rfl | kernel_rfl); (case q8 => first | k_is | rfl | kernel_rfl); (case q9 => first | k_is | rfl | kernel_rfl); (case q10 => first | k_is | rfl | kernel_rfl); (case q11 => first | k_is | rfl | kernel_rfl); (case q12 => first | k_is | rfl | kernel_rfl); (case q13 => first | k_is | rfl | kernel_rfl); (case q14 => first | k_is | rfl | kernel_rfl); (case q15 => first | k_is | rfl | kernel_rfl); (case q16 => first | k_is | rfl | kernel_rfl); (case q17 => first | k_is | rfl | kernel_rfl))
    (case v0 => first | k_is | rfl | kernel_rfl)
    (case x0 => first | k_is | rfl | kernel_rfl)
    (case n0 => first | k_is | rfl | kernel_rfl)
