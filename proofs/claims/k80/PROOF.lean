import PyProof.Rows.All
import Wide.All
import OpenK.AllK
import Wide.FinOn
import HandS.ForMost
import HandS.IsInst
import HandS.TupAny
import HandS.TupLe
import HandS.Wide
import HandS.Style
import HandS.SortInts
import HandS.Conv
import HandS.More
import HandS.EndTab
import HandS.EndOwn
import HandS.AnyAll
import HandS.GenOver
import HandS.Evl
import HandS.Walk
import HandS.NoneIn
import HandS.Zip
import HandS.DictComp
import HandS.SetFor
import KE.GoesEnum
import HandS.TupMul
import HandS.Strs
import KE.DataMinMax
import HandS.ForExc
import HandS.ExcIs
import HandS.SetKeys
import KE.DatumOrd
import HandS.Deep
import PySem.Challenge.RW_friendfoe_k80_whole_sides_or_an_odd_ring
set_option Elab.async false
set_option linter.all false
set_option maxRecDepth 100000
namespace FF
open PySem PySem.Spec PyProof.Rows L2
/-! ### heaps: what is kept -/
/-- all that is tracked, but at d and c, is as it was -/
def Kp (d c : Addr) (H H' : Hp) : Prop := ∀ b o, b ≠ d → b ≠ c → H b = some o → H' b = some o
theorem Kp.refl {d c : Addr} {H : Hp} : Kp d c H H := fun _ _ _ _ h => h
theorem Kp.trans {d c : Addr} {H H1 H2 : Hp} (a : Kp d c H H1) (b : Kp d c H1 H2) : Kp d c H H2 := fun x o h1 h2 h => b x o h1 h2 (a x o h1 h2 h)
theorem Kp.at_d {d c : Addr} {H : Hp} {o : HO} : Kp d c H (upd H d o) := fun b u h1 _ h => by rw [upd_ne h1]; exact h
theorem Kp.at_c {d c : Addr} {H : Hp} {o : HO} : Kp d c H (upd H c o) := fun b u _ h2 h => by rw [upd_ne h2]; exact h
theorem Kp.new {d c p : Addr} {H : Hp} {o : HO} (hp : H p = none) : Kp d c H (upd H p o) := fun b u _ _ h => by rw [upd_ne (ne_of_none h hp)]; exact h
theorem same_new {H : Hp} {p : Addr} {o : HO} (h : H p = none) : Same H (upd H p o) := fun b x e => by
  rw [upd_ne (ne_of_none e h)]
  exact e
theorem Same.kp {d c : Addr} {H H' : Hp} (s : Same H H') : Kp d c H H' := fun b o _ _ h => s b o h
/-! ### defs as they are called -/
def Df (P : Program) (w : World) (K : PySem.W.Frag) (mg : Str → Option Value) (base : Heap) (k : Nat) (x : Str) (ps : List Str) (sp : Sp) : Prop :=
  ∃ (f : Addr) (fd : FuncData), FnOk P w K mg base CX0 k f fd ps sp ∧ mg x = some (.ref f) ∧ PySem.W.keepIn K (.ref f) = true ∧ Binds K fd ps []
/-- built-in names that the module has not taken -/
structure Free (mg : Str → Option Value) : Prop where
  len : mg "len" = none
  int : mg "int" = none
  bool : mg "bool" = none
  str : mg "str" = none
  list : mg "list" = none
  tuple : mg "tuple" = none
  range : mg "range" = none
  isinstance : mg "isinstance" = none
  sum : mg "sum" = none
/-! ### the well -/
structure Well (H : Hp) (d : Addr) (b : Nat) : Prop where
  ex : ∃ (g st : Int) (k : Nat), H d = some (.lst [.int g, .int st, .int k]) ∧ k ≤ b
theorem Well.same {H H' : Hp} {d : Addr} {b : Nat} (h : Well H d b) (s : Same H H') : Well H' d b := by
  obtain ⟨g, st, k, h1, h2⟩ := h
  exact ⟨g, st, k, s _ _ h1, h2⟩
theorem Well.mono {H : Hp} {d : Addr} {b b' : Nat} (h : Well H d b) (s : b ≤ b') : Well H d b' := by
  obtain ⟨g, st, k, h1, h2⟩ := h
  exact ⟨g, st, k, h1, Nat.le_trans h2 s⟩
theorem Well.mut {H : Hp} {d l : Addr} {o : HO} {b : Nat} (D : Well H d b) (h1 : l ≠ d) : Well (upd H l o) d b := by
  obtain ⟨g, st, k, e1, e2⟩ := D
  exact ⟨g, st, k, by rw [upd_ne (Ne.symm h1)]; exact e1, e2⟩
theorem Well.new {H : Hp} {d l : Addr} {o : HO} {b : Nat} (D : Well H d b) (h : H l = none) : Well (upd H l o) d b := D.same (same_new h)
theorem Well.ned {H : Hp} {d l : Addr} {b : Nat} (D : Well H d b) (h : H l = none) : l ≠ d := by
  obtain ⟨g, st, k, e1, e2⟩ := D
  exact (ne_of_none e1 h).symm
theorem mod_rng {a m : Int} (h : 0 < m) : 0 ≤ a % m ∧ a % m < m := ⟨Int.emod_nonneg a (by omega), Int.emod_lt_of_pos a h⟩
/-- a draw below m: any number from 0 on, less than m; one draw more -/
def spDraw : Sp := fun vs H Q _ => ∃ (d : Addr) (b : Nat) (m : Int), vs = [.ref d, .int m] ∧ Well H d b ∧ b < 2 ^ 60 ∧ 0 < m ∧ m.natAbs < 2 ^ 120 ∧
  ∀ v H', 0 ≤ v → v < m → Well H' d (b + 1) → Kp d d H H' → Q (.int v) H'
/-! ### a generator expression's own frame -/
/-- the context of a generator's turns: its frame cenv stands over the def's -/
abbrev gX (X : Cx) (s : Shared) (H : Hp) (A' : Around) (cenv : Env) (fp : List Addr) : Cx :=
  { X with A := A', s_0 := s, H_0 := H, env := cenv, outer := X.stack, stack := cenv :: X.stack, ex := fp, fn := fun _ => false, pn := [], xe := fun _ _ => False }
/-- what is asked of the expression's own scope -/
structure GnOk (scope : Scope) : Prop where
  co : scope.isCoroutine = false
  nocell : ∀ y ∈ scope.names, y.2 ≠ .cell
  dot : scope.names.lookup (".0" : Str) = some NameKind.local
section
variable {X : Cx} {pins : List (Addr × Obj)} {σ : L2.St} {H : Hp} {s : Shared}
theorem gen_start {scope : Scope} {own : List (Str × Nat)} {fp : List Addr} {A' : Around} {code : Value} {m0 : Str → Option Value} {h5 : Heap} {g5 : Array GenState} {t5 : Nat} {a : Addr} {go : Obj}
    (I : Inv X pins σ H s) (ok : BlkOk X.N X.env.scope scope own) (gk : GnOk scope) (hN : X.N.Nodup) (hfp : ∀ b ∈ fp, FpOk X pins H b ∧ b < s.heap.objs.size)
    (hA : A'.handled = none) (hF : A'.frames = some (genEnv scope (cloFrom X.env.cells scope.names []) s.heap.objs.size code builtinsNs X.env :: X.stack))
    (kp : ∀ b o, s.heap.get? b = some o → h5.get? b = some o) (hn : h5.Ns s.heap.objs.size m0) (hm0 : ∀ x, x ≠ (".0" : Str) → m0 x = none) (hdN : (".0" : Str) ∉ X.N) (hb5 : AllBare g5)
    (ha : s.heap.objs.size < a) (hgo : h5.get? a = some go) (hgd : ∀ v, go.data ≠ .cell v) :
    Inv (gX X s H A' (genEnv scope (cloFrom X.env.cells scope.names []) s.heap.objs.size code builtinsNs X.env) fp) [(a, go)] (wipe σ (own.map (·.2))) H { s with heap := h5, gens := g5, toks := t5 } := by
  have hfree : ∀ y ∈ scope.names, y.2 = .free → ∃ c, X.env.cells.lookup y.1 = some c := fun y hy e =>
    (ok.free y hy e).elim (fun k => I.ok.has _ (.inl k)) fun k => I.ok.has _ (.inr k)
  have cm : ∀ {y c}, (y, c) ∈ cloFrom X.env.cells scope.names [] → X.env.cells.lookup y = some c ∧ c < s.heap.objs.size := fun {y c} q => by
    rcases cloFrom_mem q with q | ⟨h1, e1⟩
    · cases q
    · obtain ⟨c1, hc1⟩ := hfree _ h1 rfl
      rw [hc1] at e1
      cases e1
      obtain ⟨w1, z1⟩ := I.cell _ _ hc1
      exact ⟨hc1, z1.lt⟩
  have cl : ∀ {y c}, (cloFrom X.env.cells scope.names []).lookup y = some c → X.env.cells.lookup y = some c ∧ c < s.heap.objs.size := fun {y c} e => cm (PySem.mem_of_lookup e)
  have look : ∀ {y}, scope.names.lookup y = some .free → ∃ c, (cloFrom X.env.cells scope.names []).lookup y = some c := fun {y} e =>
    mem_lookup (cloFrom_has (cells := X.env.cells) (acc := []) (PySem.mem_of_lookup e))
  generalize hce : genEnv scope (cloFrom X.env.cells scope.names []) s.heap.objs.size code builtinsNs X.env = ce at hF
  have cL : ce.locals = s.heap.objs.size := by rw [← hce]; rfl
  have cC : ce.cells = cloFrom X.env.cells scope.names [] := by rw [← hce]; rfl
  have cS : ce.scope = scope := by rw [← hce]; rfl
  have cF : ce.frame = some ce.locals := by rw [← hce]; rfl
  have okG : (gX X s H A' ce fp).Ok := by
    refine ⟨I.ok.mod, ?_, ?_, ?_, ?_, fun y z c e1 e2 => ?_, fun y hy => ?_, fun y c z e => ?_, fun _ => hA, hF, .inr ⟨rfl, cF⟩, fun b hb => ⟨?_, fun y c e z => ?_⟩, I.bs, Nat.le_trans I.ok.bsz I.sz, fun b o e hb => ?_, fun b hb z => ?_, I.stack, I.stkFree⟩
    · show ce.scope.kind = _
      rw [cS]
      exact ok.kind
    · show ce.globals = _
      rw [← hce]
      exact I.ok.glob
    · show ce.builtins = _
      rw [← hce]
      rfl
    · show s.heap.objs.size ≤ ce.locals
      rw [cL]
      exact Nat.le_refl _
    · have e1 : ce.cells.lookup y = some c := e1
      have e2 : ce.cells.lookup z = some c := e2
      rw [cC] at e1 e2
      exact I.ok.inj y z c (cl e1).1 (cl e2).1
    · show ∃ c, ce.cells.lookup y = some c
      rw [cC]
      have hy : scope.names.lookup y = some .cell ∨ scope.names.lookup y = some .free := by
        have hy' : ce.scope.names.lookup y = some .cell ∨ ce.scope.names.lookup y = some .free := hy
        rw [cS] at hy'
        exact hy'
      rcases hy with k | k
      · exact absurd rfl (gk.nocell _ (PySem.mem_of_lookup k))
      · exact look k
    · exact absurd (show false = true from z) Bool.false_ne_true
    · show b ≠ ce.locals
      rw [cL]
      exact Nat.ne_of_lt (hfp b hb).2
    · have e : ce.cells.lookup y = some c := e
      rw [cC] at e
      exact (hfp b hb).1.2.2.2.2.1 y c (cl e).1 z
    · rcases (hfp b hb).1.2.2.2.1 with q | q
      · exact I.ok.noex b o e q
      · exact absurd (Nat.lt_of_lt_of_le (Heap.lt_size e) (Nat.le_trans I.ok.bsz q)) (Nat.lt_irrefl _)
    · rcases List.mem_cons.mp (I.stkSub b z) with q | q
      · exact (hfp b hb).1.2.1 q
      · exact (hfp b hb).1.2.2.1 q
  refine ⟨okG, rfl, hb5, Un.kept kp, ⟨m0, ?_, fun i y av e1 e2 e3 => ?_⟩, fun y c e => ?_, ?_, fun y c e => ?_, fun p hp => ?_, I.hok.kept kp, by rw [wipe_length]; exact I.len⟩
  · show Heap.Ns _ ce.locals _
    rw [cL]
    exact hn
  · obtain ⟨e2, hne⟩ := wipe_some e2
    have e3 : Vis ce.scope y := e3
    rw [cS] at e3
    have hfr : scope.names.lookup y = some .free := by
      have no : ∀ k, scope.names.lookup y = some k → ¬ (k = .local ∨ k = .cell) := fun k hk hh => by
        rcases ok.own _ (PySem.mem_of_lookup hk) hh with q | q
        · obtain ⟨p, hp, hpy⟩ := List.mem_map.mp q
          have e4 := ok.ix p hp
          have hpy : p.1 = y := hpy
          rw [hpy] at e4
          exact hne (List.mem_map.mpr ⟨p, hp, nodup_ix hN e4 e1⟩)
        · exact q (List.mem_of_getElem? e1)
      rcases e3 with e3 | e3 | e3
      · exact absurd (.inl rfl) (no _ e3)
      · exact absurd (.inr rfl) (no _ e3)
      · exact e3
    obtain ⟨m, _, hl⟩ := I.loc
    have hvis : Vis X.env.scope y := (ok.free _ (PySem.mem_of_lookup hfr) rfl).elim (fun k => .inr (.inl k)) fun k => .inr (.inr k)
    obtain ⟨w1, r1, q1⟩ := hl i y av e1 e2 hvis
    obtain ⟨c, hc⟩ := look hfr
    refine ⟨w1, r1, .inr ⟨.inr (by show ce.scope.names.lookup y = _; rw [cS]; exact hfr), c, by show ce.cells.lookup y = _; rw [cC]; exact hc, ?_⟩⟩
    rcases q1 with ⟨k, _⟩ | ⟨_, c', e', z⟩
    · have k : X.env.scope.names.lookup y = some .local := k
      rcases ok.free _ (PySem.mem_of_lookup hfr) rfl with k' | k' <;> (have k' : X.env.scope.names.lookup y = _ := k'; rw [k'] at k; cases k)
    · rw [(cl hc).1] at e'
      cases e'
      exact z.keeps kp
  · have e : ce.cells.lookup y = some c := e
    rw [cC] at e
    obtain ⟨w1, z1⟩ := I.cell y c (cl e).1
    exact ⟨w1, z1.keeps kp⟩
  · show H ce.locals = none
    rw [cL]
    exact I.hok.fresh (Nat.le_refl _)
  · have e : ce.cells.lookup y = some c := e
    rw [cC] at e
    exact I.freeC y c (cl e).1
  · have hp : p = (a, go) := by simpa using hp
    subst hp
    refine ⟨hgo, I.hok.fresh (Nat.le_of_lt ha), ?_, fun z => ?_, hgd⟩
    · show a ≠ ce.locals
      rw [cL]
      exact Nat.ne_of_gt ha
    · have z : a ∈ frs X.stack := z
      obtain ⟨_, o, ho, _⟩ := I.stack.mem z
      exact absurd (Nat.lt_trans (Heap.lt_size ho) ha) (Nat.lt_irrefl _)
end
/-! ### all(..), any(..) of a generator, told by what each turn does -/
/-- between a yield and the next turn -/
structure Rs (s s' : Shared) : Prop where
  heap : s'.heap = s.heap
  os : s'.os = s.os
  bare : AllBare s'.gens
  size : s.gens.size ≤ s'.gens.size
theorem inv_gens {X : Cx} {pins : List (Addr × Obj)} {σ : L2.St} {H : Hp} {s s' : Shared} (I : Inv X pins σ H s) (h1 : s'.heap = s.heap) (h2 : s'.os = s.os) (h3 : AllBare s'.gens) : Inv X pins σ H s' := by
  obtain ⟨hh, g, d, t, o⟩ := s'
  have e1 : hh = s.heap := h1
  have e2 : o = s.os := h2
  subst e1 e2
  exact ⟨I.ok, I.os, h3, I.base, I.loc, I.cell, I.free, I.freeC, I.pin, I.hok, I.len⟩
theorem Rs.inv {X : Cx} {pins : List (Addr × Obj)} {σ : L2.St} {H : Hp} {s s' : Shared} (r : Rs s s') (I : Inv X pins σ H s) : Inv X pins σ H s' := by
  obtain ⟨h1, h2, h3, _⟩ := r
  obtain ⟨hh, g, d, t, o⟩ := s'
  have e1 : hh = s.heap := h1
  have e2 : o = s.os := h2
  subst e1 e2
  exact ⟨I.ok, I.os, h3, I.base, I.loc, I.cell, I.free, I.freeC, I.pin, I.hok, I.len⟩
theorem bare_set {gens : Array GenState} (h : AllBare gens) {g : Nat} {x : GenState} (hx : x.bare = true) : AllBare (gens.setIfInBounds g x) := fun y hy => by
  obtain ⟨i, hi, rfl⟩ := Array.mem_iff_getElem.mp hy
  rw [Array.size_setIfInBounds] at hi
  rw [Array.getElem_setIfInBounds hi]
  split
  · exact hx
  · exact h _ (Array.getElem_mem hi)
theorem Rs.set {s : Shared} (hb : AllBare s.gens) {g : Nat} {x : GenState} (hx : x.bare = true) : Rs s (s.setGen g x) :=
  ⟨rfl, rfl, bare_set hb hx, Nat.le_of_eq (GenW.setGen_size s g x).symm⟩
theorem Rs.trans {s s1 s2 : Shared} (a : Rs s s1) (b : Rs s1 s2) : Rs s s2 := ⟨b.heap.trans a.heap, b.os.trans a.os, b.bare, Nat.le_trans a.size b.size⟩
/-- the protocol of a generator whose items are truths: T b: what holds where b comes out -/
def gY (gi : Nat) (a : Addr) (stop : Bool) (Fin : Shared → Prop) : Protocol := fun n s₀ v s kap =>
  ∃ b, v = .bool b ∧ s.heap.IsGen a gi ∧ s.heap.NoLimit ∧ AllBare s.gens ∧ gi < s.gens.size ∧ (b = stop → Fin s) ∧ (b ≠ stop → ∀ s', Rs s s' → kap (.send .none) s')
def gR (End : Shared → Prop) : Nat → Shared → Shared → Prop := fun _ _ s => AllBare s.gens ∧ End s
/-- the generator waits -/
def Waits (prog : Program) (w : World) (A : Around) (gi : Nat) (a : Addr) (stop : Bool) (End Fin : Shared → Prop) (n : Nat) (s : Shared) : Prop :=
  s.heap.IsGen a gi ∧ s.heap.NoLimit ∧ AllBare s.gens ∧ ∃ gs, s.gens[gi]? = some gs ∧
    ∀ s', Rs s s' → gs.Goes (model prog w) A.in1 (fun n s₀ r s₁ => r = .ok .next ∧ gR End n s₀ s₁) (gY gi a stop Fin) n (.send .none) s'
section
variable {prog : Program} {w : World} {A : Around} {gi : Nat} {a : Addr} {stop : Bool} {End Fin : Shared → Prop}
theorem waits_next {n : Nat} {s : Shared} {Q : Option Value → Shared → Prop} {E : Value → Shared → Prop} (hh : A.handled = none) (hroom : A.depth < recursionLimit)
    (hE : ∀ s s' : Shared, End s → s'.os = s.os → AllBare s'.gens → (∀ b o, s.heap.get? b = some o → s'.heap.get? b = some o) → End s')
    (hF : ∀ s s' : Shared, Fin s → s'.os = s.os → AllBare s'.gens → (∀ b o, s.heap.get? b = some o → s'.heap.get? b = some o) → Fin s')
    (W : Waits prog w A gi a stop End Fin n s) (hN : ∀ s', End s' → Q none s') (hS : ∀ s', Fin s' → Q (some (.bool stop)) s')
    (hG : ∀ s' m, m < n → Waits prog w A gi a stop End Fin m s' → Q (some (.bool (!stop))) s') : wpAny (model prog w) A (pyNext (.ref a)) Q E s := by
  obtain ⟨hg, hl, hb, gs, hgs, hgo⟩ := W
  refine wpAny_pyNext_genexpQ (P := gR End) (Y := gY gi a stop Fin) hh hl hroom hg hgs (hgo _ (Rs.set hb rfl)) (fun v s₁ gs' hb' hv => ?_) fun s₁ hp h' hk => ?_
  · obtain ⟨b, rfl, g1, l1, b1, z1, f1, k1⟩ := hv
    by_cases e : b = stop
    · subst e
      exact hS _ (hF _ _ (f1 rfl) rfl (bare_set b1 hb') fun _ _ q => q)
    · have eb : b = !stop := by cases b <;> cases stop <;> first | rfl | exact absurd rfl e
      subst eb
      cases n with
      | zero => exact False.elim (k1 e s₁ ⟨rfl, rfl, b1, Nat.le_refl _⟩)
      | succ m =>
        refine hG _ m (Nat.lt_succ_self m) ⟨g1, l1, bare_set b1 hb', gs', ?_, fun s' r => k1 e s' ((Rs.set b1 hb').trans r)⟩
        show (s₁.gens.setIfInBounds gi gs')[gi]? = some gs'
        rw [Array.getElem?_setIfInBounds_self_of_lt z1]
  · obtain ⟨b1, e1⟩ := hp
    exact hN _ (hE _ _ e1 rfl (bare_set b1 rfl) fun b o q => hk b o q)
end
section
variable {prog : Program} {w : World} {A : Around} {gi : Nat} {a : Addr} {End Fin : Shared → Prop}
theorem all_loop (hh : A.handled = none) (hroom : A.depth < recursionLimit)
    (hE : ∀ s s' : Shared, End s → s'.os = s.os → AllBare s'.gens → (∀ b o, s.heap.get? b = some o → s'.heap.get? b = some o) → End s')
    (hF : ∀ s s' : Shared, Fin s → s'.os = s.os → AllBare s'.gens → (∀ b o, s.heap.get? b = some o → s'.heap.get? b = some o) → Fin s') :
    ∀ (n : Nat) (s : Shared), Waits prog w A.in1 gi a false End Fin n s →
      codeAny (model prog w) A (.builtin "all.loop" ⟨[.ref a], []⟩) (fun r s' => (r = .ok (.ret (.bool true)) ∧ End s') ∨ (r = .ok (.ret (.bool false)) ∧ Fin s')) s := by
  intro n
  induction n using Nat.strongRecOn with
  | ind n ih =>
    intro s W
    refine codeAny_builtin PySem.F.entry_all_loop ?_
    rw [Around.under_plainId PySem.F.plain_all_loop]
    show wpAny (model prog w) A.in1 (pyNext (.ref a) >>= _) _ _ s
    refine wpAny_bind (waits_next (A := A.in1) hh hroom hE hF W (fun s' e => ?_) (fun s' e => ?_) fun s' m hm W' => ?_)
    · exact wpAny_bind (wpAny_rule (wpAny_pure (.inl ⟨rfl, e⟩)))
    · refine wpAny_bind (wpAny_holding (wpAny_truthy_bool ?_))
      refine wpAny_bind (wpAny_letGo ?_)
      exact wpAny_bind (wpAny_rule (wpAny_pure (.inr ⟨rfl, e⟩)))
    · refine wpAny_bind (wpAny_holding (wpAny_truthy_bool ?_))
      refine wpAny_bind (wpAny_letGo ?_)
      exact wpAny_pure ⟨plainId_quiet PySem.F.plain_all_loop _, ih m hm s' W'⟩
end
/-! ### all(elt for target in iter) -/
/-- the reading: W by the turn and a measure; P: the def's table, which may grow -/
def tAll (P : Addr) (wi : TI) (g : TG) (te : TE) (vs : List Nat) : TE := fun σ H Q => wi σ H fun J H1 => GxR.TabG H1 P ∧ ∃ W : Nat → Nat → Hp → Prop, (∀ H2, GxR.Tabbed P H1 H2 → ∃ m, W 0 m H2) ∧ ∀ i m H, W i m H →
  (J.stop i H ∧ Q (.bl true) H) ∨ (J.go i H ∧ ∃ Nx : Hp → Prop, (∀ H', Nx H' → ∃ m', m' < m ∧ W (i + 1) m' H') ∧ ∀ x H', J.yld i H x H' → g x (wipe σ vs) H' fun σ2 H2 => wipe σ2 vs = wipe σ vs ∧
    te σ2 H2 fun y H3 => ∃ b, y = .bl b ∧ if b = true then Nx H3 else Q (.bl false) H3)
section
variable {X : Cx}
theorem pe_all {k : Nat} {c P : Addr} {elt tg iter : Expr} {scope : Scope} {own : List (Str × Nat)} {p pos gpos : Pos} {wi : TI} {g : TG} {te : TE}
    (hr : Room (k + 1) X.A) (TB : GxR.TabB X.base X.mg c P) (hcode : X.env.code = .ref c) (hc : X.calm = true) (hN : X.N.Nodup) (hG : Gl X "all") (hM : X.mg "all" = none) (hi : PI X tg iter wi) (ok : BlkOk X.N X.env.scope scope own) (gk : GnOk scope) (hdN : (".0" : Str) ∉ X.N)
    (hg : ∀ (s : Shared) (H : Hp) (A' : Around) (C : Addr) (cl : List (Str × Addr)) (code : Value) (fp : List Addr), PG (gX X s H A' (genEnv scope cl C code builtinsNs X.env) fp) tg g)
    (he : ∀ (s : Shared) (H : Hp) (A' : Around) (C : Addr) (cl : List (Str × Addr)) (code : Value) (fp : List Addr), Room k A' → PE (gX X s H A' (genEnv scope cl C code builtinsNs X.env) fp) elt te)
    (hs : ∀ v, genFold iter X.env v = pure v := by intro _; rfl)
    (hst : starEach [.GeneratorExp elt [⟨tg, iter, [], 0⟩] scope gpos] X.env = (false, eval (.GeneratorExp elt [⟨tg, iter, [], 0⟩] scope gpos) X.env) :: starEach [] X.env := by rfl) :
    PE X (.Call (.Name "all" p) [.GeneratorExp elt [⟨tg, iter, [], 0⟩] scope gpos] [] pos) (tAll P wi g te (own.map (·.2))) := by
  refine ⟨fun pins s σ H Q I h => ?_⟩
  have hh : X.A.handled = none := hr.hd
  refine wpAny_Call_Name_kw (ld_blt I hG hM PyProof.Rows.boot_all ?_)
  refine PyProof.Rows.callWith_builtin1 ?_ hst (by rfl)
  rw [hst]
  show wpAny _ _ (spliced ((false, eval (.GeneratorExp elt [⟨tg, iter, [], 0⟩] scope gpos) X.env) :: backTo pos (starEach [] X.env))) _ _ s
  have hfree : ∀ y ∈ scope.names, y.2 = .free → ∃ c, X.env.cells.lookup y.1 = some c := fun y hy e =>
    (ok.free y hy e).elim (fun k => I.ok.has _ (.inl k)) fun k => I.ok.has _ (.inr k)
  refine Calls.spliced_cons (wpAny_GeneratorExp_make gk.co (closure_ok hfree) gk.nocell gk.dot ok.kind (by have := hr.dp; omega) (thn (hi.run pins s σ H _ I h) fun xv s1 hx => thn hx fun itv s2 h2 => ?_) hs)
  obtain ⟨it, fp, tn, J, H2, e, I2, T, st2, f2, ⟨ps, hP, ht⟩, W, w0, turn⟩ := h2
  subst e
  refine ⟨I2.nolimit, ?_⟩
  have hPs : s2.heap.get? P = some { cls := .none, data := .fields ps } := I2.hok P _ hP
  have cd : PySem.W.CodeHd s2.heap c P := TB.code.keeps fun b u e => I2.bk b u e
  have sz2 : ∀ b ∈ fp, b < s2.heap.objs.size := fun b hb => by
    obtain ⟨o, e, _⟩ := T.obj _ _ st2 b hb
    exact Heap.lt_size e
  have nfP : ∀ b ∈ fp, b ≠ P := fun b hb z => by
    have q := (f2 b hb).1
    rw [z, hP] at q
    cases q
  -- behind the table
  have cont : ∀ (code : Value) (h3 : Heap) (tk : Nat) (more : Array Value), s2.heap.objs.size ≤ h3.objs.size → (∀ b o, b ≠ P → s2.heap.get? b = some o → h3.get? b = some o) → h3.get? P = some { cls := .none, data := .fields (ps ++ more) } → TriplesOk (ps ++ more).toList →
      wpAny (model X.prog X.w) X.A (builtinsFor X.env.globals X.env.builtins) (fun bi s4 => ∀ h', h'.Ns s4.heap.objs.size (fun y => if y = ".0" then some (.ref it) else none) → Heap.SameBut s4.heap.objs.size (s4.heap.push { cls := .type "frame", data := .dict #[] }) h' →
        wpAny (model X.prog X.w) X.A (spliced (backTo pos (starEach [] X.env))) (fun vs s5 => wpAny (model X.prog X.w) X.A (call (.builtin "all") (.ref h'.objs.size :: vs)) (EP X pins σ Q) X.xe s5) X.xe { s4 with
            gens := s4.gens.push (.fresh (.compStart (.GeneratorExp elt [⟨tg, iter, [], 0⟩] scope gpos) 0 (.ref it) .none (genEnv scope (cloFrom X.env.cells scope.names []) s4.heap.objs.size code bi X.env))), toks := s4.toks + 1 + 1 + 1,
            heap := h'.push { cls := .type "generator", data := .fields #[.int s4.gens.size 0, .str "<genexpr>" (s4.toks + 1), .str (X.env.qual ++ "<genexpr>") (s4.toks + 1 + 1)] } }) X.xe { s2 with heap := h3, toks := tk } := by
    intro code h3 tk more hle3 hk3 hP3 ht3
    have I3 : Inv X pins σ (upd H2 P (.tbl (ps ++ more))) { s2 with heap := h3, gens := s2.gens, drawn := s2.drawn, toks := tk } := GxR.inv_tab I2 hP hk3 hP3 I2.bare
    have tab3 : GxR.Tabbed P H2 (upd H2 P (.tbl (ps ++ more))) := ⟨⟨_, upd_same, ht3⟩, fun b hb => upd_ne hb⟩
    have st3 : tn 0 h3 := T.keep _ _ _ st2 fun b hb o e => hk3 b o (nfP b hb) e
    have f3 : ∀ b ∈ fp, FpOk X pins (upd H2 P (.tbl (ps ++ more))) b := fun b hb => ⟨by rw [upd_ne (nfP b hb)]; exact (f2 b hb).1, (f2 b hb).2⟩
    generalize upd H2 P (.tbl (ps ++ more)) = H3 at I3 tab3 f3
    obtain ⟨m0, hw0⟩ := w0 H3 tab3
    have sz3 : ∀ b ∈ fp, b < h3.objs.size := fun b hb => Nat.lt_of_lt_of_le (sz2 b hb) hle3
    have hs3 : ({ s2 with heap := h3, gens := s2.gens, drawn := s2.drawn, toks := tk } : Shared) = { s2 with heap := h3, toks := tk } := rfl
    rw [hs3] at I3
    generalize hsh : ({ s2 with heap := h3, toks := tk } : Shared) = s3 at I3 ⊢
    have eh : h3 = s3.heap := by rw [← hsh]
    rw [eh] at st3 sz3
    clear hsh hs3 eh hP3 hk3 hle3
    obtain ⟨bm, ob, e1, e2, e3, e4, e5, e6, e7, e8⟩ := TB.bm
    refine wpAny_builtinsFor (m := X.mg) (by rw [I3.ok.glob]; exact I3.mod.glob.keeps I3.bk) e1 e2 (I3.bk _ _ e5) e6 e7 e8 ?_
    intro h' hn' hs'
    refine Calls.spliced_nil ?_
    have hsz : h'.objs.size = s3.heap.objs.size + 1 := by rw [hs'.1, Heap.size_push]
    generalize hgo : ({ cls := .type "generator", data := .fields #[.int s3.gens.size 0, .str "<genexpr>" (s3.toks + 1), .str (X.env.qual ++ "<genexpr>") (s3.toks + 1 + 1)] } : Obj) = go
    have kp5 : ∀ b o, s3.heap.get? b = some o → (h'.push go).get? b = some o := fun b o e => Heap.get?_push_of_some _ (hs'.extBut b o (Nat.ne_of_lt (Heap.lt_size e)) (Heap.get?_push_of_some _ e))
    generalize hce : genEnv scope (cloFrom X.env.cells scope.names []) s3.heap.objs.size code builtinsNs X.env = ce
    have hhA : (X.A.in1.in1.over (.compLoop (.GeneratorExp elt [⟨tg, iter, [], 0⟩] scope gpos) 0 (.ref it) .none ce) []).handled = none := hh
    have hFr : (X.A.in1.in1.over (.compLoop (.GeneratorExp elt [⟨tg, iter, [], 0⟩] scope gpos) 0 (.ref it) .none ce) []).frames = some (ce :: X.stack) := by
      show pushEnvs [ce] (pushEnvs [] X.A.frames) = _
      rw [I3.ok.frames]
      rfl
    have hRm : Room k (X.A.in1.in1.over (.compLoop (.GeneratorExp elt [⟨tg, iter, [], 0⟩] scope gpos) 0 (.ref it) .none ce) []) := by
      have z1 := hr.dp
      have z2 := hr.un
      refine ⟨hhA, ?_, ?_⟩
      · show X.A.depth + 0 + 1 + 3 * k + 5 < recursionLimit
        omega
      · show X.A.units + 1 + 1 + 0 + 3 + 16 * k + 200 < cLine
        omega
    generalize hAg : X.A.in1.in1.over (.compLoop (.GeneratorExp elt [⟨tg, iter, [], 0⟩] scope gpos) 0 (.ref it) .none ce) [] = Ag at hhA hFr hRm
    have I5 : Inv (gX X s3 H3 Ag ce fp) [(h'.objs.size, go)] (wipe σ (own.map (·.2))) H3 { s3 with heap := h'.push go, gens := s3.gens.push (.fresh (.compStart (.GeneratorExp elt [⟨tg, iter, [], 0⟩] scope gpos) 0 (.ref it) .none ce)), toks := s3.toks + 1 + 1 + 1 } := by
      have q := gen_start (code := code) (A' := Ag) (h5 := h'.push go) (g5 := s3.gens.push (.fresh (.compStart (.GeneratorExp elt [⟨tg, iter, [], 0⟩] scope gpos) 0 (.ref it) .none ce))) (t5 := s3.toks + 1 + 1 + 1) (go := go) I3 ok gk hN (fun b hb => ⟨f3 b hb, sz3 b hb⟩) hhA (by rw [hce]; exact hFr) kp5 (hn'.push _)
        (fun x hx => if_neg hx) hdN (I3.bare.push rfl) (a := h'.objs.size) (by omega) (Heap.get?_push_size _ (by rw [← hgo]; rfl)) (by rw [← hgo]; intro v z; cases z)
      rw [hce] at q
      exact q
    have st5 : tn 0 (h'.push go) := T.keep _ _ _ st3 fun b _ o e => kp5 b o e
    have nfp : ∀ b ∈ fp, H3 b = none := fun b hb => (f3 b hb).1
    have pg := hg s3 H3 Ag s3.heap.objs.size (cloFrom X.env.cells scope.names []) code fp
    have pe := he s3 H3 Ag s3.heap.objs.size (cloFrom X.env.cells scope.names []) code fp hRm
    rw [hce] at pg pe
    have cCo : ce.scope.isCoroutine = false := by rw [← hce]; exact gk.co
    clear hn' hs' kp5 w0 hce
    -- back in the def's context
    have back : ∀ {σ' : L2.St} {H' : Hp} {s' : Shared} {pl : List (Addr × Obj)}, Inv (gX X s3 H3 Ag ce fp) pl σ' H' s' → Inv X pins σ H' s' := fun {σ' H' s' pl} J => I3.call' (ch := fp) J.os J.base J.hok J.bare fun b hb =>
      ⟨(f3 b hb).2.2.2.1, (f3 b hb).2.1, (f3 b hb).2.2.2.2.1, (f3 b hb).2.2.2.2.2⟩
    have stat : ∀ {σ' : L2.St} {H' : Hp} {s' : Shared}, Inv (gX X s3 H3 Ag ce fp) [(h'.objs.size, go)] σ' H' s' → (∀ b ∈ fp, H' b = none) → ∀ b ∈ fp, FpOk (gX X s3 H3 Ag ce fp) [(h'.objs.size, go)] H' b := fun {σ' H' s'} J hn b hb =>
      ⟨hn b hb, (J.ok.exf b hb).1, J.ok.exfs b hb, .inl hb, fun x c e => (J.ok.exf b hb).2 x c e, fun p hp => by
        have hp : p = (h'.objs.size, go) := by simpa using hp
        rw [hp]
        exact Nat.ne_of_gt (Nat.lt_trans (sz3 b hb) (by rw [hsz]; exact Nat.lt_succ_self _))⟩
    have gen : ∀ {σ' : L2.St} {H' : Hp} {s' : Shared} {pl : List (Addr × Obj)}, Inv (gX X s3 H3 Ag ce fp) ([(h'.objs.size, go)] ++ pl) σ' H' s' → s'.heap.IsGen h'.objs.size s3.gens.size := fun {σ' H' s' pl} J => by
      have q := (J.pin (h'.objs.size, go) (by simp)).1
      exact ⟨go, _, _, q, by rw [← hgo], by rw [← hgo], by rw [← hgo]⟩
    -- the turns
    have loop : ∀ (m n i : Nat) (s₀ s : Shared) (H : Hp), m < n → W i m H → Inv (gX X s3 H3 Ag ce fp) [(h'.objs.size, go)] (wipe σ (own.map (·.2))) H s → tn i s.heap → (∀ b ∈ fp, H b = none) → s3.gens.size + 1 ≤ s.gens.size →
        Seg (model X.prog X.w) X.A.in1.in1 (fun n s₀ r s₁ => r = .ok .next ∧ gR (fun s => ∃ H', Inv X pins σ H' s ∧ Q (.bl true) H') n s₀ s₁) (gY s3.gens.size h'.objs.size false fun s => ∃ H', Inv X pins σ H' s ∧ Q (.bl false) H') n s₀
          (.compLoop (.GeneratorExp elt [⟨tg, iter, [], 0⟩] scope gpos) 0 (.ref it) .none ce) ((model X.prog X.w).den (.compLoop (.GeneratorExp elt [⟨tg, iter, [], 0⟩] scope gpos) 0 (.ref it) .none ce)) [] s := by
      intro m
      induction m using Nat.strongRecOn with
      | ind m ih =>
        intro n i s₀ s H hmn w J st nf hz
        show Seg (model X.prog X.w) _ _ _ n s₀ _ ((compTurn (.GeneratorExp elt [⟨tg, iter, [], 0⟩] scope gpos) 0 (.ref it) .none ce).onRaise (leaving ce)) [] s
        rw [compTurn_gen]
        rw [Sem.onRaise_eq_wrap]
        refine seg_bind_wrap (wpAny_standAt (seg_bind_wrap ?_))
        rw [hAg]
        rcases turn i m H w with ⟨stp, qq⟩ | ⟨go', Nx, hNx, step⟩
        · refine thnF (T.done (gX X s3 H3 Ag ce fp) rfl rfl rfl hc i _ s _ H (fun _ _ => False) J (stat J nf) st stp) fun r s6 ⟨hr6, J6⟩ => ?_
          subst hr6
          exact seg_end (.ok .next) ⟨rfl, J6.bare, H, back J6, qq⟩
        · refine GenW.wpAny_gsz hz (thnF (T.item (gX X s3 H3 Ag ce fp) rfl rfl rfl hc i _ s _ H (fun _ _ => False) J (stat J nf) st go') fun r s6 ⟨u, hr6, h6⟩ hz6 => ?_)
          subst hr6
          refine seg_bind_wrap ?_
          rw [hAg]
          refine GenW.wpAny_gsz hz6 (thnF h6 fun _ s7 ⟨x, H7, J7, r7, y7, st7, n7⟩ hz7 => ?_)
          have J7' := J7.pinned (stat J7 n7) (T.obj _ _ st7)
          refine seg_bind_wrap ?_
          rw [hAg]
          refine GenW.wpAny_gsz hz7 (thnF (pg.run _ s7 _ H7 x u _ J7' r7 (step x H7 y7)) fun _ s8 ⟨σ8, H8, J8, hw8, q8⟩ hz8 => ?_)
          simp only [List.forIn_nil]
          refine seg_bind_wrap (wpAny_pure ?_)
          simp only [if_true]
          have hy : ∀ v, yieldOut ce v = yieldValue v := fun v => by simp only [yieldOut, cCo, Bool.false_eq_true, if_false]
          simp only [hy]
          rw [Sem.bind_eq_wrap', Sem.bind_eq_wrap']
          rw [Sem.wrap_wrap, Sem.wrap_wrap]
          refine seg_wrap ?_
          rw [hAg]
          refine GenW.wpAny_gsz hz8 (thnF (pe.run _ s8 σ8 H8 _ J8 q8) fun z s9 ⟨yv, H9, J9, r9, b, eb, qb⟩ hz9 => ?_)
          subst eb
          obtain rfl : z = Value.bool b := r9
          obtain ⟨n', rfl⟩ : ∃ n', n = n' + 1 := ⟨n - 1, by omega⟩
          refine seg_at (seg_yield rfl rfl rfl ⟨b, rfl, gen J9, J9.nolimit, J9.bare, hz9, fun e => ?_, fun e s' r => ?_⟩)
          · subst e
            exact ⟨H9, back J9, qb⟩
          · have e : b = true := by
              cases b with
              | true => rfl
              | false => exact absurd rfl e
            subst e
            rw [if_pos rfl] at qb
            obtain ⟨m', hm', w'⟩ := hNx H9 qb
            have pin' : ∀ b ∈ fp, ∀ o, s7.heap.get? b = some o → s9.heap.get? b = some o ∧ H9 b = none := fun b hb o e =>
              let z := J9.pin (b, o) (List.mem_append_right _ (List.mem_append_right _ (mem_pinsAt hb e)))
              ⟨z.1, z.2.1⟩
            have hl : (wipe σ (own.map (·.2))).length = σ8.length := by rw [← hw8, wipe_length]
            have K9 : Inv (gX X s3 H3 Ag ce fp) [(h'.objs.size, go)] (wipe σ (own.map (·.2))) H9 s9 := J9.unpinned.weak hl fun j v e => by
              rw [← hw8] at e
              exact (wipe_some e).1
            refine seg_again rfl (ih m' hm' n' (i + 1) s' s' H9 (by omega) w' (r.inv K9) ?_ (fun b hb => ?_) (Nat.le_trans hz9 r.size))
            · rw [r.heap]
              exact T.keep _ _ _ st7 fun b hb o e => (pin' b hb o e).1
            · obtain ⟨o, e, _⟩ := T.obj _ _ st7 b hb
              exact (pin' b hb o e).2
    have mono : ∀ (b : Bool) (s s' : Shared), (∃ H', Inv X pins σ H' s ∧ Q (.bl b) H') → s'.os = s.os → AllBare s'.gens → (∀ b o, s.heap.get? b = some o → s'.heap.get? b = some o) → ∃ H', Inv X pins σ H' s' ∧ Q (.bl b) H' := fun b s s' ⟨H', J, q⟩ h1 h2 h3 =>
      ⟨H', inv_gens (J.kept (t' := s'.toks) h3) rfl h1 h2, q⟩
    generalize hs5 : ({ s3 with heap := h'.push go, gens := s3.gens.push (.fresh (.compStart (.GeneratorExp elt [⟨tg, iter, [], 0⟩] scope gpos) 0 (.ref it) .none ce)), toks := s3.toks + 1 + 1 + 1 } : Shared) = s5 at I5
    have hg5 : s5.gens[s3.gens.size]? = some (.fresh (.compStart (.GeneratorExp elt [⟨tg, iter, [], 0⟩] scope gpos) 0 (.ref it) .none ce)) := by
      rw [← hs5]
      exact Array.getElem?_push_size ..
    have hz5 : s3.gens.size + 1 ≤ s5.gens.size := by
      rw [← hs5]
      exact Nat.le_of_eq (Array.size_push ..).symm
    have ht5 : tn 0 s5.heap := by rw [← hs5]; exact st5
    have wt : Waits X.prog X.w X.A.in1 s3.gens.size h'.objs.size false (fun s => ∃ H', Inv X pins σ H' s ∧ Q (.bl true) H') (fun s => ∃ H', Inv X pins σ H' s ∧ Q (.bl false) H') (m0 + 1) s5 := by
      refine ⟨gen (pl := []) I5, I5.nolimit, I5.bare, _, hg5, fun s' r => ⟨rfl, ?_⟩⟩
      have lp := loop m0 (m0 + 1) 0 s' s' H3 (Nat.lt_succ_self _) hw0 (r.inv I5) (by rw [r.heap]; exact ht5) nfp (Nat.le_trans hz5 r.size)
      show Seg (model X.prog X.w) _ _ _ _ s' _ ((compStart (.GeneratorExp elt [⟨tg, iter, [], 0⟩] scope gpos) 0 (.ref it) .none ce).onRaise (leaving ce)) [] s'
      unfold compStart
      rw [Sem.onRaise_eq_wrap]
      show Seg (model X.prog X.w) _ _ _ _ s' _ ((ask >>= _).wrap _ _ _ _) [] s'
      refine seg_bind_wrap (wpAny_askSetting ?_)
      have ts : tn 0 s'.heap := by rw [r.heap]; exact ht5
      split
      · exact seg_again rfl lp
      · first
          | exact seg_bind_wrap (wpAny_rule (seg_bind_wrap (wpAny_standAt (seg_bind_wrap (T.self _ 0 s' _ _ ts (seg_again rfl lp))))))
          | (refine seg_bind_wrap (wpAny_rule ?_); show Seg (model X.prog X.w) _ _ _ _ s' _ ((standAt iter.pos >>= _).wrap _ _ _ _) [] s'; exact seg_bind_wrap (wpAny_standAt (seg_bind_wrap (T.self _ 0 s' _ _ ts (seg_again rfl lp)))))
    refine call_function_tree PySem.F.kind_all PySem.F.plain_all PySem.F.entry_all (PySem.F.args_all1 _) ?_
    unfold Builtin.«all»
    refine wpAny_bind (m := oneArg "all" _) (wpAny_pure ?_)
    refine wpAny_bind (wpAny_pyIter_gen (gen (pl := []) I5) ?_)
    refine wpAny_pure ⟨plainId_quiet PySem.F.plain_all_loop _, codeAny_mono (all_loop hh hr.depth (mono true) (mono false) (m0 + 1) s5 wt) fun r s' hq => ?_⟩
    rcases hq with ⟨rfl, H', J, q⟩ | ⟨rfl, H', J, q⟩
    · exact ⟨.bl true, H', J, rfl, q⟩
    · exact ⟨.bl false, H', J, rfl, q⟩
  cases hf : codeAmong gpos ps.toList with
  | none =>
    refine wpAny_genexprCodeX hcode (cd.code hPs ht) (cd.tab hPs) hf fun c' h' tk hx hge hlt hco' _ htab' _ => ?_
    obtain ⟨o1, vs, f1, tf, fl, tg1, inF, tx, tt, op, _, _, _, _, _, _, _, _, _, htr, _⟩ := hco'
    exact cont _ h' tk _ (Nat.le_trans hge (Nat.le_of_lt hlt)) (fun b o hb e => hx b o hb e) htab'.2 htr
  | some cv =>
    refine wpAny_genexprCode_hit hcode (cd.code hPs ht) hf ?_
    have := cont cv s2.heap s2.toks #[] (Nat.le_refl _) (fun _ _ _ e => e) (by rw [hPs]; simp) (by simpa using ht)
    exact this
end
def topS (i : Nat) : Stmt := PySem.Challenge.pw_friendfoe_k80_whole_sides_or_an_odd_ring.main.body.getD i (.Pass ⟨0, 0, 0, 0⟩)
abbrev s_neighbours : Stmt := topS 1
abbrev N_neighbours : List Str := ["web", "many", "ties", "around", "place", "one", "other", "kind"]
theorem sc_neighbours : FnScope N_neighbours ["web"] (defScope s_neighbours) := ⟨rfl, rfl, rfl, by decide +kernel, rfl, by decide +kernel, by decide +kernel⟩
abbrev s_sides_from : Stmt := topS 2
abbrev N_sides_from : List Str := ["start", "around", "sides", "waiting", "place", "other", "kind"]
theorem sc_sides_from : FnScope N_sides_from ["start", "around"] (defScope s_sides_from) := ⟨rfl, rfl, rfl, by decide +kernel, rfl, by decide +kernel, by decide +kernel⟩
abbrev s_is_whole : Stmt := topS 4
abbrev N_is_whole : List Str := ["thing"]
theorem sc_is_whole : FnScope N_is_whole ["thing"] (defScope s_is_whole) := ⟨rfl, rfl, rfl, by decide +kernel, rfl, by decide +kernel, by decide +kernel⟩
abbrev s_is_whole_from : Stmt := topS 5
abbrev N_is_whole_from : List Str := ["low", "thing"]
theorem sc_is_whole_from : FnScope N_is_whole_from ["low", "thing"] (defScope s_is_whole_from) := ⟨rfl, rfl, rfl, by decide +kernel, rfl, by decide +kernel, by decide +kernel⟩
abbrev s_is_whole_below : Stmt := topS 6
abbrev N_is_whole_below : List Str := ["limit", "thing"]
theorem sc_is_whole_below : FnScope N_is_whole_below ["limit", "thing"] (defScope s_is_whole_below) := ⟨rfl, rfl, rfl, by decide +kernel, rfl, by decide +kernel, by decide +kernel⟩
abbrev s_is_tuple_of : Stmt := topS 7
abbrev N_is_tuple_of : List Str := ["length", "thing"]
theorem sc_is_tuple_of : FnScope N_is_tuple_of ["length", "thing"] (defScope s_is_tuple_of) := ⟨rfl, rfl, rfl, by decide +kernel, rfl, by decide +kernel, by decide +kernel⟩
abbrev s_is_sides : Stmt := topS 9
abbrev N_is_sides : List Str := ["web", "thing", "side"]
theorem sc_is_sides : FnScope N_is_sides ["web", "thing"] (defScope s_is_sides) := ⟨rfl, rfl, rfl, by decide +kernel, rfl, by decide +kernel, by decide +kernel⟩
abbrev s_breaks : Stmt := topS 10
abbrev N_breaks : List Str := ["sides", "tie", "one", "other", "kind"]
theorem sc_breaks : FnScope N_breaks ["sides", "tie"] (defScope s_breaks) := ⟨rfl, rfl, rfl, by decide +kernel, rfl, by decide +kernel, by decide +kernel⟩
abbrev s_broken_by : Stmt := topS 11
abbrev N_broken_by : List Str := ["web", "sides", "number", "tie"]
theorem sc_broken_by : FnScope N_broken_by ["web", "sides"] (defScope s_broken_by) := ⟨rfl, rfl, rfl, by decide +kernel, rfl, by decide +kernel, by decide +kernel⟩
abbrev s_sides_hold : Stmt := topS 12
abbrev N_sides_hold : List Str := ["web", "thing"]
theorem sc_sides_hold : FnScope N_sides_hold ["web", "thing"] (defScope s_sides_hold) := ⟨rfl, rfl, rfl, by decide +kernel, rfl, by decide +kernel, by decide +kernel⟩
abbrev s_sides_of : Stmt := topS 13
abbrev N_sides_of : List Str := ["web", "around", "told", "start", "sides", "place"]
theorem sc_sides_of : FnScope N_sides_of ["web"] (defScope s_sides_of) := ⟨rfl, rfl, rfl, by decide +kernel, rfl, by decide +kernel, by decide +kernel⟩
abbrev s_is_row : Stmt := topS 15
abbrev N_is_row : List Str := ["many", "thing", "number"]
theorem sc_is_row : FnScope N_is_row ["many", "thing"] (defScope s_is_row) := ⟨rfl, rfl, rfl, by decide +kernel, rfl, by decide +kernel, by decide +kernel⟩
abbrev s_are_near : Stmt := topS 16
abbrev N_are_near : List Str := ["one", "other"]
theorem sc_are_near : FnScope N_are_near ["one", "other"] (defScope s_are_near) := ⟨rfl, rfl, rfl, by decide +kernel, rfl, by decide +kernel, by decide +kernel⟩
abbrev s_near_along : Stmt := topS 17
abbrev N_near_along : List Str := ["row", "tie", "one", "other", "kind", "swap"]
theorem sc_near_along : FnScope N_near_along ["row", "tie"] (defScope s_near_along) := ⟨rfl, rfl, rfl, by decide +kernel, rfl, by decide +kernel, by decide +kernel⟩
abbrev s_row_holds : Stmt := topS 18
abbrev N_row_holds : List Str := ["web", "number", "start", "thing", "tie"]
theorem sc_row_holds : FnScope N_row_holds ["web", "number", "start", "thing"] (defScope s_row_holds) := ⟨rfl, rfl, rfl, by decide +kernel, rfl, by decide +kernel, by decide +kernel⟩
abbrev s_layers_hold : Stmt := topS 19
abbrev N_layers_hold : List Str := ["web", "number", "thing", "start", "row"]
theorem sc_layers_hold : FnScope N_layers_hold ["web", "number", "thing"] (defScope s_layers_hold) := ⟨rfl, rfl, rfl, by decide +kernel, rfl, by decide +kernel, by decide +kernel⟩
abbrev s_are_unlike_below : Stmt := topS 21
abbrev N_are_unlike_below : List Str := ["limit", "thing", "number"]
theorem sc_are_unlike_below : FnScope N_are_unlike_below ["limit", "thing"] (defScope s_are_unlike_below) := ⟨rfl, rfl, rfl, by decide +kernel, rfl, by decide +kernel, by decide +kernel⟩
abbrev s_joins : Stmt := topS 22
abbrev N_joins : List Str := ["tie", "one", "other"]
theorem sc_joins : FnScope N_joins ["tie", "one", "other"] (defScope s_joins) := ⟨rfl, rfl, rfl, by decide +kernel, rfl, by decide +kernel, by decide +kernel⟩
abbrev s_ring_holds : Stmt := topS 23
abbrev N_ring_holds : List Str := ["web", "thing", "places", "ties", "followers", "tie", "one", "other"]
theorem sc_ring_holds : FnScope N_ring_holds ["web", "thing"] (defScope s_ring_holds) := ⟨rfl, rfl, rfl, by decide +kernel, rfl, by decide +kernel, by decide +kernel⟩
abbrev s_foes_in : Stmt := topS 24
abbrev N_foes_in : List Str := ["web", "ring", "tie"]
theorem sc_foes_in : FnScope N_foes_in ["web", "ring"] (defScope s_foes_in) := ⟨rfl, rfl, rfl, by decide +kernel, rfl, by decide +kernel, by decide +kernel⟩
abbrev s_odd_ring_holds : Stmt := topS 25
abbrev N_odd_ring_holds : List Str := ["web", "thing"]
theorem sc_odd_ring_holds : FnScope N_odd_ring_holds ["web", "thing"] (defScope s_odd_ring_holds) := ⟨rfl, rfl, rfl, by decide +kernel, rfl, by decide +kernel, by decide +kernel⟩
abbrev s_ties_around : Stmt := topS 27
abbrev N_ties_around : List Str := ["web", "numbers", "around", "number", "one", "other", "kind"]
theorem sc_ties_around : FnScope N_ties_around ["web", "numbers"] (defScope s_ties_around) := ⟨rfl, rfl, rfl, by decide +kernel, rfl, by decide +kernel, by decide +kernel⟩
abbrev s_walk_from : Stmt := topS 28
abbrev N_walk_from : List Str := ["start", "around", "walk", "reached", "steps", "following", "place", "other", "number"]
theorem sc_walk_from : FnScope N_walk_from ["start", "around"] (defScope s_walk_from) := ⟨rfl, rfl, rfl, by decide +kernel, rfl, by decide +kernel, by decide +kernel⟩
abbrev s_way_to : Stmt := topS 29
abbrev N_way_to : List Str := ["end", "walk", "places", "numbers", "steps", "ahead", "number"]
theorem sc_way_to : FnScope N_way_to ["end", "walk"] (defScope s_way_to) := ⟨rfl, rfl, rfl, by decide +kernel, rfl, by decide +kernel, by decide +kernel⟩
abbrev s_doubled : Stmt := topS 31
abbrev N_doubled : List Str := ["web", "ties", "one", "other", "kind", "swap"]
theorem sc_doubled : FnScope N_doubled ["web"] (defScope s_doubled) := ⟨rfl, rfl, rfl, by decide +kernel, rfl, by decide +kernel, by decide +kernel⟩
abbrev s_halved : Stmt := topS 32
abbrev N_halved : List Str := ["way", "places", "ties", "place", "tie"]
theorem sc_halved : FnScope N_halved ["way"] (defScope s_halved) := ⟨rfl, rfl, rfl, by decide +kernel, rfl, by decide +kernel, by decide +kernel⟩
abbrev s_row_of : Stmt := topS 33
abbrev N_row_of : List Str := ["many", "walk", "far", "place"]
theorem sc_row_of : FnScope N_row_of ["many", "walk", "far"] (defScope s_row_of) := ⟨rfl, rfl, rfl, by decide +kernel, rfl, by decide +kernel, by decide +kernel⟩
abbrev s_shortest_odd : Stmt := topS 34
abbrev N_shortest_odd : List Str := ["web", "double", "around", "walks", "place", "lengths", "walk", "length", "start", "ring"]
theorem sc_shortest_odd : FnScope N_shortest_odd ["web"] (defScope s_shortest_odd) := ⟨rfl, rfl, rfl, by decide +kernel, rfl, by decide +kernel, by decide +kernel⟩
abbrev s_l_well : Stmt := topS 36
abbrev N_l_well : List Str := ["_law_script", "_law_k", "_law_cell", "_law_great"]
theorem sc_l_well : FnScope N_l_well ["_law_script", "_law_k"] (defScope s_l_well) := ⟨rfl, rfl, rfl, by decide +kernel, rfl, by decide +kernel, by decide +kernel⟩
abbrev s_l_draw : Stmt := topS 37
abbrev N_l_draw : List Str := ["_law_well_here", "_law_many", "_law_digit", "_law_number"]
theorem sc_l_draw : FnScope N_l_draw ["_law_well_here", "_law_many"] (defScope s_l_draw) := ⟨rfl, rfl, rfl, by decide +kernel, rfl, by decide +kernel, by decide +kernel⟩
abbrev s_l_kind : Stmt := topS 38
abbrev N_l_kind : List Str := ["_law_sides", "_law_one", "_law_other"]
theorem sc_l_kind : FnScope N_l_kind ["_law_sides", "_law_one", "_law_other"] (defScope s_l_kind) := ⟨rfl, rfl, rfl, by decide +kernel, rfl, by decide +kernel, by decide +kernel⟩
abbrev s_l_ends : Stmt := topS 39
abbrev N_l_ends : List Str := ["_law_well_here", "_law_many", "_law_ties", "_law_one", "_law_other"]
theorem sc_l_ends : FnScope N_l_ends ["_law_well_here", "_law_many", "_law_ties"] (defScope s_l_ends) := ⟨rfl, rfl, rfl, by decide +kernel, rfl, by decide +kernel, by decide +kernel⟩
abbrev s_l_web : Stmt := topS 40
abbrev N_l_web : List Str := ["_law_well_here", "_law_many", "_law_size", "_law_way", "_law_sides", "_law_place", "_law_ties", "_law_k", "_law_one", "_law_other", "_law_kind_here", "_law_at"]
theorem sc_l_web : FnScope N_l_web ["_law_well_here"] (defScope s_l_web) := ⟨rfl, rfl, rfl, by decide +kernel, rfl, by decide +kernel, by decide +kernel⟩
abbrev s_l_beside : Stmt := topS 41
abbrev N_l_beside : List Str := ["_law_web_here", "_law_beside_here", "_law_place", "_law_number", "_law_tie", "_law_one", "_law_other", "_law_kind_here"]
theorem sc_l_beside : FnScope N_l_beside ["_law_web_here"] (defScope s_l_beside) := ⟨rfl, rfl, rfl, by decide +kernel, rfl, by decide +kernel, by decide +kernel⟩
abbrev s_l_walk : Stmt := topS 42
abbrev N_l_walk : List Str := ["_law_well_here", "_law_web_here", "_law_steps", "_law_beside_here", "_law_here", "_law_path", "_law_ways", "_law_rings", "_law_comings", "_law_start", "_law_foes", "_law_turn", "_law_number", "_law_there", "_law_foe", "_law_at", "_law_ring"]
theorem sc_l_walk : FnScope N_l_walk ["_law_well_here", "_law_web_here", "_law_steps"] (defScope s_l_walk) := ⟨rfl, rfl, rfl, by decide +kernel, rfl, by decide +kernel, by decide +kernel⟩
abbrev s_l_firsts : Stmt := topS 43
abbrev N_l_firsts : List Str := ["_law_web_here", "_law_beside_here", "_law_seen", "_law_found", "_law_place", "_law_line", "_law_turn", "_law_number", "_law_there", "_law_foe"]
theorem sc_l_firsts : FnScope N_l_firsts ["_law_web_here"] (defScope s_l_firsts) := ⟨rfl, rfl, rfl, by decide +kernel, rfl, by decide +kernel, by decide +kernel⟩
abbrev s_l_sides_right : Stmt := topS 44
abbrev N_l_sides_right : List Str := ["_law_web_here", "_law_sides", "_law_one", "_law_other", "_law_kind_here", "_law_place"]
theorem sc_l_sides_right : FnScope N_l_sides_right ["_law_web_here", "_law_sides"] (defScope s_l_sides_right) := ⟨rfl, rfl, rfl, by decide +kernel, rfl, by decide +kernel, by decide +kernel⟩
abbrev s_l_ring_right : Stmt := topS 45
abbrev N_l_ring_right : List Str := ["_law_web_here", "_law_ring", "_law_told", "_law_foes", "_law_number", "_law_odd"]
theorem sc_l_ring_right : FnScope N_l_ring_right ["_law_web_here", "_law_ring", "_law_told"] (defScope s_l_ring_right) := ⟨rfl, rfl, rfl, by decide +kernel, rfl, by decide +kernel, by decide +kernel⟩
abbrev s_l_right : Stmt := topS 46
abbrev N_l_right : List Str := ["_law_well_here", "_law_web_here", "_law_sides", "_law_told", "_law_k", "_law_rings", "_law_comings", "_law_steps", "_law_is_odd", "_law_ring"]
theorem sc_l_right : FnScope N_l_right ["_law_well_here"] (defScope s_l_right) := ⟨rfl, rfl, rfl, by decide +kernel, rfl, by decide +kernel, by decide +kernel⟩
abbrev s_law : Stmt := topS 47
abbrev N_law : List Str := ["_law_script", "_law_k"]
theorem sc_law : FnScope N_law ["_law_script"] (defScope s_law) := ⟨rfl, rfl, rfl, by decide +kernel, rfl, by decide +kernel, by decide +kernel⟩
/-! ### own rules: a list against [] -/
section
variable {X : Cx}
def rEqE (K : PySem.W.Frag) : R2 := fun x y H Q => ∃ (a b : Addr) (xs : List V), x = .ref a ∧ y = .ref b ∧ SqL K H a xs ∧ SqL K H b [] ∧ Q (.bl xs.isEmpty) H
def rNeE (K : PySem.W.Frag) : R2 := fun x y H Q => ∃ (a b : Addr) (xs : List V), x = .ref a ∧ y = .ref b ∧ SqL K H a xs ∧ SqL K H b [] ∧ Q (.bl (!xs.isEmpty)) H
theorem op_eqE (hu : X.A.units < cLine) : OpR X (compareOp .Eq) (rEqE X.K) := by
  intro pins s σ H x y v u Q I rx ry h
  obtain ⟨a, b, xs, rfl, rfl, ha, hb, q⟩ := h
  obtain rfl : v = Value.ref a := rx
  obtain rfl : u = Value.ref b := ry
  obtain ⟨its, r1, p1, _⟩ := I.list ha
  obtain ⟨its2, r2, p2, _⟩ := I.list hb
  cases r2
  cases xs with
  | nil =>
    cases r1
    exact SeqAt.eq_listAt (e := fun _ => true) p1.isList p2.isList rfl hu (fun j h1 _ => absurd h1 (by simp)) ⟨.bl true, H, I, rfl, q⟩
  | cons z zs =>
    cases r1 with
    | cons r t => exact SeqAt.eq_list_lengthsAt p1.isList p2.isList (by simp) hu ⟨.bl false, H, I, rfl, q⟩
theorem op_neE (hu : X.A.units < cLine) : OpR X (compareOp .NotEq) (rNeE X.K) := by
  intro pins s σ H x y v u Q I rx ry h
  obtain ⟨a, b, xs, rfl, rfl, ha, hb, q⟩ := h
  obtain rfl : v = Value.ref a := rx
  obtain rfl : u = Value.ref b := ry
  obtain ⟨its, r1, p1, _⟩ := I.list ha
  obtain ⟨its2, r2, p2, _⟩ := I.list hb
  cases r2
  cases xs with
  | nil =>
    cases r1
    exact SeqAt.RcNeAt.lists (e := fun _ => true) p1.isList p2.isList rfl hu (fun j h1 _ => absurd h1 (by simp)) _ _ _ _ ⟨.bl false, H, I, rfl, q⟩
  | cons z zs =>
    cases r1 with
    | cons r t => exact SeqAt.RcNeAt.lists_lengths p1.isList p2.isList (by simp) hu _ _ _ _ ⟨.bl true, H, I, rfl, q⟩
end
section
variable {P : Program} {w : World} {K : PySem.W.Frag} {mg : Str → Option Value} {base : Heap}
/-! ### webs -/
structure Tie where
  one : Int
  other : Int
  foe : Bool
def kindS : Bool → Str
  | true => "foe"
  | false => "friend"
def TieV (H : Hp) (v : V) (t : Tie) : Prop := ∃ a, v = .ref a ∧ H a = some (.tup [.int t.one, .int t.other, .str (kindS t.foe)])
def TieOk (n : Int) (t : Tie) : Prop := 0 ≤ t.one ∧ t.one < n ∧ 0 ≤ t.other ∧ t.other < n ∧ t.one ≠ t.other
def WebAt (H : Hp) (v : V) (n : Int) (ts : List Tie) : Prop := ∃ a b vs, v = .ref a ∧ H a = some (.tup [.int n, .ref b]) ∧ H b = some (.tup vs) ∧ Paired (TieV H) vs ts
structure WebOk (n : Int) (ts : List Tie) : Prop where
  lo : 1 ≤ n
  hi : n ≤ 40
  few : ts.length ≤ 120
  ok : ∀ t ∈ ts, TieOk n t
/-- tuples stay -/
def Tk (H H' : Hp) : Prop := ∀ b xs, H b = some (.tup xs) → H' b = some (.tup xs)
theorem Tk.trans {H H1 H2 : Hp} (a : Tk H H1) (b : Tk H1 H2) : Tk H H2 := fun x xs h => b x xs (a x xs h)
theorem Same.tk {H H' : Hp} (s : Same H H') : Tk H H' := fun b xs h => s b _ h
theorem tk_lst {H : Hp} {l : Addr} {xs ys : List V} (h : H l = some (.lst xs)) : Tk H (upd H l (.lst ys)) := fun b zs e => by
  rw [upd_ne (ne_of e h (by intro z; cases z))]
  exact e
theorem TieV.tk {H H' : Hp} (k : Tk H H') {v : V} {t : Tie} (h : TieV H v t) : TieV H' v t := by
  obtain ⟨a, rfl, e⟩ := h
  exact ⟨a, rfl, k _ _ e⟩
theorem ties_tk {H H' : Hp} (k : Tk H H') {vs : List V} {ts : List Tie} (h : Paired (TieV H) vs ts) : Paired (TieV H') vs ts := Paired.mono (fun _ _ x => x.tk k) h
theorem WebAt.tk {H H' : Hp} (k : Tk H H') {v : V} {n : Int} {ts : List Tie} (h : WebAt H v n ts) : WebAt H' v n ts := by
  obtain ⟨a, b, vs, rfl, h1, h2, h3⟩ := h
  exact ⟨a, b, vs, rfl, k _ _ h1, k _ _ h2, ties_tk k h3⟩
theorem Kp.tk {d : Addr} {b : Nat} {H H' : Hp} (k : Kp d d H H') (D : Well H d b) : Tk H H' := fun c xs e => by
  obtain ⟨g, st, n, h1, h2⟩ := D
  have ne := ne_of e h1 (by intro z; cases z)
  exact k c _ ne ne e
theorem Kp.mut {d c l : Addr} {H H' : Hp} {o : HO} (k : Kp d c H H') (h : H l = none) : Kp d c H (upd H' l o) := fun b u h1 h2 e => by
  rw [upd_ne (ne_of_none e h)]
  exact k b u h1 h2 e
theorem Paired.at {α β : Type} {F : α → β → Prop} : ∀ {l : List α} {m : List β} {i : Nat} {a : α}, Paired F l m → l[i]? = some a → ∃ b, m[i]? = some b ∧ F a b
  | _, _, _, _, .nil, e => by simp at e
  | _, _, 0, _, .cons r _, e => by simp at e; subst e; exact ⟨_, rfl, r⟩
  | _, _, i + 1, a, .cons _ t, e => by
    obtain ⟨u, h1, h2⟩ := Paired.at (i := i) (a := a) t (by simpa using e)
    exact ⟨u, by simpa using h1, h2⟩
theorem Paired.at' {α β : Type} {F : α → β → Prop} : ∀ {l : List α} {m : List β} {i : Nat} {b : β}, Paired F l m → m[i]? = some b → ∃ a, l[i]? = some a ∧ F a b
  | _, _, _, _, .nil, e => by simp at e
  | _, _, 0, _, .cons r _, e => by simp at e; subst e; exact ⟨_, rfl, r⟩
  | _, _, i + 1, b, .cons _ t, e => by
    obtain ⟨u, h1, h2⟩ := Paired.at' (i := i) (b := b) t (by simpa using e)
    exact ⟨u, by simpa using h1, h2⟩
theorem getI {α : Type} {xs : List α} {i : Int} (h0 : 0 ≤ i) (h1 : i < (xs.length : Int)) : ∃ v, atI xs i = some v ∧ xs[i.toNat]? = some v := by
  obtain ⟨j, rfl⟩ : ∃ j : Nat, i = (j : Int) := ⟨i.toNat, by omega⟩
  have h2 : j < xs.length := by omega
  exact ⟨xs[j], atI_nat (List.getElem?_eq_getElem h2), by rw [Int.toNat_natCast]; exact List.getElem?_eq_getElem h2⟩
theorem other_ne {n a b : Int} (h0 : 0 ≤ a) (h1 : a < n) (g0 : 0 ≤ b) (g1 : b < n - 1) : a ≠ (a + 1 + b) % n := by
  by_cases h : a + 1 + b < n
  · rw [Int.emod_eq_of_lt (by omega) h]
    omega
  · have e : a + 1 + b = (a + 1 + b - n) + 1 * n := by omega
    rw [e, Int.add_mul_emod_self_right, Int.emod_eq_of_lt (by omega) (by omega)]
    omega
theorem pick2 {α : Type} (a b : α) (k : Bool) : atI [a, b] (if k then 1 else 0) = some (if k then b else a) := by
  cases k <;> rfl
def spWeb : Sp := fun vs H Q _ => ∃ (d : Addr) (b : Nat), vs = [.ref d] ∧ Well H d b ∧ b < 2 ^ 50 ∧
  ∀ v n ts H', WebAt H' v n ts → WebOk n ts → Well H' d (b + 1000) → Kp d d H H' → Q v H'
theorem Kp.free {d c l : Addr} {H H' : Hp} (k : Kp d c H H') (h : H' l = none) (h1 : l ≠ d) (h2 : l ≠ c) : H l = none := by
  cases e : H l with
  | none => rfl
  | some o =>
    rw [k l o h1 h2 e] at h
    cases h
theorem atI_of {xs : List V} {i : Int} {v : V} (h0 : 0 ≤ i) (e : xs[i.toNat]? = some v) : atI xs i = some v := by
  obtain ⟨j, rfl⟩ : ∃ j : Nat, i = (j : Int) := ⟨i.toNat, by omega⟩
  exact atI_nat (by rw [Int.toNat_natCast] at e; exact e)
theorem atI_ints {xs : List Int} {i : Int} (h0 : 0 ≤ i) (h1 : i < xs.length) : ∃ x ∈ xs, xs[i.toNat]? = some x ∧ atI (xs.map V.int) i = some (.int x) := by
  have h : i.toNat < xs.length := by omega
  exact ⟨xs[i.toNat], List.getElem_mem h, List.getElem?_eq_getElem h, atI_of h0 (by rw [List.getElem?_map, List.getElem?_eq_getElem h]; rfl)⟩
theorem at0 {α : Type} (x : α) (xs : List α) : atI (x :: xs) 0 = some x := atI_nat (j := 0) rfl
theorem ix0 (n : Nat) : ixN (n + 1) 0 = some 0 := by
  unfold ixN
  rw [if_pos (by decide), if_pos (by omega)]
  rfl
/-! ### a draw -/
theorem ok_l_draw {f : Addr} {fd : FuncData} (F : Fun K "_law_draw" "_law_draw" s_l_draw f fd)  : FnOk P w K mg base CX0 1 f fd ["_law_well_here", "_law_many"] spDraw := by
  refine F.ok sc_l_draw (fun vs H Q E h => ?_) (fun cdv A outer s H vs Q E hr h => ?_)
  · obtain ⟨d, b, m, rfl, _⟩ := h
    rfl
  · obtain ⟨d, b, m, rfl, hD, hB, hm, hb, q⟩ := h
    refine ⟨_, (pss_cons (ps_if (pt_cmpR op_gt (pe_ix ix_list (pv 0) pe_int (fun _ _ => rfl)) pe_int (nomark _))
        (pss_cons (ps_set (i := 2) sc_l_draw.nd rfl (.inl rfl) (pe_op op_mod (pe_ix ix_list (pv 0) pe_int (fun _ _ => rfl)) (pv 1)))
        (pss_cons (ps_asg (pe_op op_fdivW (pe_ix ix_list (pv 0) pe_int (fun _ _ => rfl)) (pv 1)) (pg_sub (pv 0) pe_int set_list))
        (pss_one (ps_ret (pv 2)))))
        pss_nil)
      (pss_cons (ps_asg (pe_op op_add (pe_ix ix_list (pv 0) pe_int (fun _ _ => rfl)) pe_int) (pg_sub (pv 0) pe_int set_list))
      (Evl.pss_cut (ps_set (i := 3) sc_l_draw.nd rfl (.inl rfl) (pe_op op_mod (pe_op op_add (pe_ix ix_list (pv 0) pe_int (fun _ _ => rfl)) (pe_op op_mul pe_int (pe_ix ix_list (pv 0) pe_int (fun _ _ => rfl)))) pe_int))
      (Evl.pss_cut (ps_set (i := 3) sc_l_draw.nd rfl (.inl rfl) (pe_op op_mod (pe_op op_add (pe_op op_add (pe_op op_mul (pv 3) (pv 3)) (pe_op op_mul pe_int (pv 3))) (pe_op op_mul pe_int (pe_ix ix_list (pv 0) pe_int (fun _ _ => rfl)))) pe_int))
      (Evl.pss_cut (ps_set (i := 3) sc_l_draw.nd rfl (.inl rfl) (pe_op op_mod (pe_op op_add (pe_op op_add (pe_op op_mul (pv 3) (pv 3)) (pe_op op_mul pe_int (pv 3))) pe_int) pe_int))
      (pss_one (ps_ret (pe_op op_mod (pe_op op_fdiv (pv 3) pe_int) (pv 1))))))))), ?_⟩
    obtain ⟨g, st, n, hd, hn⟩ := hD
    refine ⟨.ref d, rfl, d, _, 0, .int g, rfl, rfl, SqL.of hd, rfl, g, 0, rfl, rfl, _, rfl, ite2 (fun _ => ?_) (fun _ => ?_)⟩
    · refine ⟨.ref d, rfl, d, _, 0, .int g, rfl, rfl, SqL.of hd, rfl, .int m, rfl, g, m, rfl, rfl, hm, ?_⟩
      refine ⟨.ref d, rfl, d, _, 0, .int g, rfl, rfl, SqL.of hd, rfl, .int m, rfl, g, m, rfl, rfl, wide_div hm hb (by decide) (by decide), .ref d, rfl, d, _, 0, 0, rfl, rfl, hd, rfl, ?_⟩
      exact ⟨.int (g % m), rfl, q _ _ (mod_rng hm).1 (mod_rng hm).2 ⟨g / m, st, n, by rw [upd_same]; rfl, by omega⟩ Kp.at_d⟩
    · refine ⟨.ref d, rfl, d, _, 2, .int n, rfl, rfl, SqL.of hd, rfl, n, 1, rfl, rfl, .ref d, rfl, d, _, 2, 2, rfl, rfl, hd, rfl, ?_⟩
      have hd2 : (upd H d (.lst ([V.int g, V.int st, V.int n].set 2 (.int (n + 1))))) d = some (.lst [.int g, .int st, .int ((n + 1 : Nat) : Int)]) := by rw [upd_same]; rfl
      have k2 : Kp d d H (upd H d (.lst ([V.int g, V.int st, V.int n].set 2 (.int (n + 1))))) := Kp.at_d
      generalize upd H d (.lst ([V.int g, V.int st, V.int n].set 2 (.int (n + 1)))) = H2 at hd2 k2
      refine ⟨fun σ' H5 => ∃ N : Int, σ' = [some (.ref d), some (.int m), none, some (.int N)] ∧ 0 ≤ N ∧ N < 2147483647 ∧ H5 = H2, ?_, ?_⟩
      · exact ⟨.ref d, rfl, d, _, 1, .int st, rfl, rfl, SqL.of hd2, rfl, .ref d, rfl, d, _, 2, _, rfl, rfl, SqL.of hd2, rfl, 48271, _, rfl, rfl, .inl ⟨by decide, by decide⟩, _, _, rfl, rfl, _, 2147483647, rfl, rfl, show (0 : Int) < 2147483647 by decide, _, rfl, (mod_rng (by decide)).1, (mod_rng (by decide)).2, rfl⟩
      rintro σ' H5 ⟨N, rfl, hN0, hN1, rfl⟩
      refine ⟨fun σ' H6 => ∃ M : Int, σ' = [some (.ref d), some (.int m), none, some (.int M)] ∧ 0 ≤ M ∧ M < 2147483629 ∧ H6 = H5, ?_, ?_⟩
      · exact ⟨.int N, rfl, .int N, rfl, N, N, rfl, rfl, .inl ⟨by omega, by omega⟩, .int N, rfl, 69621, N, rfl, rfl, .inl ⟨by decide, by decide⟩, _, _, rfl, rfl, .ref d, rfl, d, _, 2, _, rfl, rfl, SqL.of hd2, rfl, 5, _, rfl, rfl, .inl ⟨by decide, by decide⟩, _, _, rfl, rfl, _, 2147483629, rfl, rfl, show (0 : Int) < 2147483629 by decide, _, rfl, (mod_rng (by decide)).1, (mod_rng (by decide)).2, rfl⟩
      rintro σ' H6 ⟨M, rfl, hM0, hM1, rfl⟩
      refine ⟨fun σ' H7 => ∃ M : Int, σ' = [some (.ref d), some (.int m), none, some (.int M)] ∧ H7 = H6, ?_, ?_⟩
      · exact ⟨.int M, rfl, .int M, rfl, M, M, rfl, rfl, .inl ⟨by omega, by omega⟩, .int M, rfl, 16807, M, rfl, rfl, .inl ⟨by decide, by decide⟩, _, _, rfl, rfl, _, 11, rfl, rfl, _, 2147483587, rfl, rfl, show (0 : Int) < 2147483587 by decide, _, rfl, rfl⟩
      rintro σ' H7 ⟨M2, rfl, rfl⟩
      refine ⟨.int M2, rfl, _, 64, rfl, rfl, ⟨by decide, by decide⟩, .int m, rfl, _, m, rfl, rfl, hm, ?_⟩
      exact q _ _ (mod_rng hm).1 (mod_rng hm).2 ⟨g, st, n + 1, hd2, by omega⟩ k2
/-! ### the well is laid -/
def spWell (K : PySem.W.Frag) : Sp := fun vs H Q _ => ∃ (a : Addr) (ns : List Int) (k : Nat), vs = [.ref a, .int k] ∧ SqL K H a (ns.map V.int) ∧ k < 1000 ∧
  ∀ d H', Same H H' → H d = none → Well H' d 3 → Q (.ref d) H'
theorem ok_l_well {f : Addr} {fd : FuncData} (F : Fun K "_law_well" "_law_well" s_l_well f fd) (M : Free mg) (m_abs : mg "abs" = none) : FnOk P w K mg base CX0 1 f fd ["_law_script", "_law_k"] (spWell K) := by
  refine F.ok sc_l_well (fun vs H Q E h => ?_) (fun cdv A outer s H vs Q E hr h => ?_)
  · obtain ⟨a, ns, k, rfl, _⟩ := h
    rfl
  · obtain ⟨a, ns, k, rfl, hS, hk, q⟩ := h
    refine ⟨_, (pss_cons (ps_set (i := 2) sc_l_well.nd rfl (.inl rfl) (pe_op op_add (pe_op op_mul pe_int (pv 1)) pe_int))
      (Evl.pss_cut (ps_if (pt_cmpR (op_neE hr.units0) (pv 0) (pe_lst pa_nil) (nomark _))
        (pss_one (ps_set (i := 2) sc_l_well.nd rfl (.inl rfl) (pe_op op_add (pe_op op_mul (pe_op op_mod (pe_ix ix_list (pv 0) pe_int (fun _ _ => rfl)) pe_int) (pe_op op_add (pv 1) pe_int)) (pe_op op_mul pe_int (pv 1)))))
        pss_nil)
      (Evl.pss_cut (ps_if (pt_cmpR op_lt (pv 1) (pe_callB call_len_seq (by rfl) M.len PySem.boot_len (pa_cons (pv 0) pa_nil)) (nomark _))
        (pss_one (ps_set (i := 2) sc_l_well.nd rfl (.inl rfl) (pe_ix ix_list (pv 0) (pv 1) (fun _ _ => rfl))))
        pss_nil)
      (pss_cons (ps_set (i := 3) sc_l_well.nd rfl (.inl rfl) pe_int)
      (Evl.pss_cut (ps_if (pt_cmpR op_ge (pe_callB call_abs (by rfl) m_abs (by decide +kernel) (pa_cons (pv 2) pa_nil)) (pe_op op_pow pe_int pe_int) (nomark _))
        (pss_one (ps_set (i := 3) sc_l_well.nd rfl (.inl rfl) (pe_callB call_abs (by rfl) m_abs (by decide +kernel) (pa_cons (pv 2) pa_nil))))
        pss_nil)
      (pss_one (ps_ret (pe_lst (pa_cons (pv 3) (pa_cons (pe_op op_mod (pv 2) pe_int) (pa_cons pe_int pa_nil))))))))))), ?_⟩
    refine ⟨.int k, rfl, 7919, k, rfl, rfl, .inl ⟨by decide, by decide⟩, _, 3, rfl, rfl, ?_⟩
    refine ⟨fun σ' H' => ∃ x : Int, σ' = [some (.ref a), some (.int k), some (.int x), none] ∧ Same H H', ?_, ?_⟩
    · refine ⟨.ref a, rfl, Nat.zero_le _, fun Z nZ => ⟨a, Z, _, rfl, rfl, (same_new nZ).seq hS, SqL.of upd_same, _, rfl, ?_⟩⟩
      have sZ := same_new (o := .lst []) nZ
      by_cases hn : ns = []
      · subst hn
        exact ⟨_, rfl, sZ⟩
      · rw [show (!(ns.map V.int).isEmpty) = true from by cases ns; exact absurd rfl hn; rfl]
        have hpos : 0 < ns.length := List.length_pos_iff.mpr hn
        obtain ⟨x, _, _, hx⟩ := atI_ints (xs := ns) (i := 0) (by omega) (by omega)
        exact ⟨.ref a, rfl, a, _, 0, _, rfl, rfl, sZ.seq hS, hx, x, 1000003, rfl, rfl, (show (0 : Int) < 1000003 by decide), .int k, rfl, k, 2, rfl, rfl, _, _, rfl, rfl, .inr ⟨by omega, by omega⟩, .int k, rfl, 7919, k, rfl, rfl, .inl ⟨by decide, by decide⟩, _, _, rfl, rfl, _, rfl, sZ⟩
    rintro σ' H1 ⟨x0, rfl, s1⟩
    refine ⟨fun σ' H' => ∃ x : Int, σ' = [some (.ref a), some (.int k), some (.int x), none] ∧ Same H H', ?_, ?_⟩
    · refine ⟨.int k, rfl, .ref a, rfl, a, _, rfl, .inl (s1.seq hS), k, _, rfl, rfl, _, rfl, ite2 (fun e => ?_) (fun e => ?_)⟩
      · have hlt := of_decide_eq_true e
        rw [List.length_map] at hlt
        obtain ⟨x, _, _, hx⟩ := atI_ints (xs := ns) (i := k) (by omega) (by omega)
        exact ⟨.ref a, rfl, .int k, rfl, a, _, k, _, rfl, rfl, s1.seq hS, hx, x, rfl, s1⟩
      · exact ⟨_, rfl, s1⟩
    rintro σ' H2 ⟨x, rfl, s2⟩
    refine ⟨fun σ' H' => ∃ y : Int, σ' = [some (.ref a), some (.int k), some (.int x), some (.int y)] ∧ H' = H2, ?_, ?_⟩
    · refine ⟨.int x, rfl, x, rfl, 10, 18, rfl, rfl, ⟨by decide, by decide, by decide⟩, _, _, rfl, rfl, _, rfl, ite2 (fun _ => ?_) (fun _ => ?_)⟩
      · exact ⟨.int x, rfl, x, rfl, _, rfl, rfl⟩
      · exact ⟨0, rfl, rfl⟩
    rintro σ' H3 ⟨y, rfl, rfl⟩
    refine ⟨.int y, rfl, .int x, rfl, _, 2147483647, rfl, rfl, show (0 : Int) < 2147483647 by decide, by show 3 ≤ sizeLine; decide, fun d nd => ?_⟩
    exact q d _ (s2.trans (same_new nd)) (s2.free nd) ⟨y, _, 2, upd_same, by decide⟩
end
/-! ### tuples cut and put together -/
section
variable {X : Cx}
theorem cutV_whole {xs : List V} {lo hi : Option Int} (h : HT.sIx xs.length 0 lo = 0 ∧ HT.sIx xs.length xs.length hi = xs.length) : cutV xs lo hi = xs := by
  unfold cutV
  rw [h.1, h.2]
  simp
def rSlU : V → Option Int → Option Int → Hp → VK → Prop := fun x lo hi H Q => ∃ a xs, x = .ref a ∧ H a = some (.tup xs) ∧ ∀ r H', Same H H' → H' r = some (.tup (cutV xs lo hi)) → Q (.ref r) H'
theorem sl_tupU : SlR X rSlU := by
  intro pins s σ H x v vl vu lo hi sl Q I rx hs pl pu h
  obtain ⟨a, xs, rfl, hx, q⟩ := h
  refine sl_tupA pins s σ H _ v vl vu lo hi sl Q I rx hs pl pu ⟨a, xs, rfl, SqT.of hx, fun hw => ?_, fun _ p np => ?_⟩
  · exact q a H (Same.refl H) (by rw [cutV_whole hw]; exact hx)
  · exact q p _ (same_new np) upd_same
def rCatU : R2 := fun x y H Q => ∃ a b xs ys, x = .ref a ∧ y = .ref b ∧ H a = some (.tup xs) ∧ H b = some (.tup ys) ∧ xs.length + ys.length ≤ 100000 ∧ ∀ r H', Same H H' → H' r = some (.tup (xs ++ ys)) → Q (.ref r) H'
theorem op_catU : OpR X (binaryOp .Add) rCatU := by
  intro pins s σ H x y v u Q I rx ry h
  obtain ⟨a, b, xs, ys, rfl, rfl, ha, hb, hz, q⟩ := h
  refine op_catA pins s σ H _ _ v u Q I rx ry ⟨a, b, xs, ys, rfl, rfl, SqT.of ha, SqT.of hb, Evl.sz_of hz, fun e => ?_, fun _ e => ?_, fun _ _ p np => ?_⟩
  · subst e
    exact q b H (Same.refl H) hb
  · subst e
    exact q a H (Same.refl H) (by rw [List.append_nil]; exact ha)
  · exact q p _ (same_new np) upd_same
end
/-! ### things of any kind -/
/-- its kind is known -/
def Kn (H : Hp) : V → Prop
  | .non => True
  | .bl _ => True
  | .int _ => True
  | .str _ => True
  | .ref a => (∃ xs, H a = some (.lst xs)) ∨ (∃ xs, H a = some (.tup xs)) ∨ ∃ kvs, H a = some (.dK kvs)
  | _ => False
def isI : V → Bool
  | .int _ => true
  | .bl _ => true
  | _ => false
def isB : V → Bool
  | .bl _ => true
  | _ => false
def isW : V → Bool
  | .int _ => true
  | _ => false
def isT (H : Hp) : V → Bool
  | .ref a => match H a with
    | some (.tup _) => true
    | _ => false
  | _ => false
section
variable {K : PySem.W.Frag} {H : Hp}
theorem kn_int {v : V} (h : Kn H v) : ∃ t, TyX K H v t ∧ PySem.W.kitOne K t (.type "int") = some (isI v) := by
  cases v with
  | non => exact ⟨_, .base .non, kit_ty (r := false) (by decide +kernel)⟩
  | bl b => exact ⟨_, .base (.bl b), kit_ty (r := true) (by decide +kernel)⟩
  | int i => exact ⟨_, .base (.int i), kit_ty (r := true) (by decide +kernel)⟩
  | str x => exact ⟨_, .base (.str x), kit_ty (r := false) (by decide +kernel)⟩
  | ref a =>
    rcases h with ⟨xs, h⟩ | ⟨xs, h⟩ | ⟨xs, h⟩
    · exact ⟨_, .base (.lst h), kit_ty (r := false) (by decide +kernel)⟩
    · exact ⟨_, .base (.tup h), kit_ty (r := false) (by decide +kernel)⟩
    · exact ⟨_, .base (.dK h), kit_ty (r := false) (by decide +kernel)⟩
  | byt b => exact h.elim
  | flt b => exact h.elim
  | ty n => exact h.elim
theorem kn_bool {v : V} (h : Kn H v) : ∃ t, TyX K H v t ∧ PySem.W.kitOne K t (.type "bool") = some (isB v) := by
  cases v with
  | non => exact ⟨_, .base .non, kit_ty (r := false) (by decide +kernel)⟩
  | bl b => exact ⟨_, .base (.bl b), kit_ty (r := true) (by decide +kernel)⟩
  | int i => exact ⟨_, .base (.int i), kit_ty (r := false) (by decide +kernel)⟩
  | str x => exact ⟨_, .base (.str x), kit_ty (r := false) (by decide +kernel)⟩
  | ref a =>
    rcases h with ⟨xs, h⟩ | ⟨xs, h⟩ | ⟨xs, h⟩
    · exact ⟨_, .base (.lst h), kit_ty (r := false) (by decide +kernel)⟩
    · exact ⟨_, .base (.tup h), kit_ty (r := false) (by decide +kernel)⟩
    · exact ⟨_, .base (.dK h), kit_ty (r := false) (by decide +kernel)⟩
  | byt b => exact h.elim
  | flt b => exact h.elim
  | ty n => exact h.elim
theorem kn_tup {v : V} (h : Kn H v) : ∃ t, TyX K H v t ∧ PySem.W.kitOne K t (.type "tuple") = some (isT H v) := by
  cases v with
  | non => exact ⟨_, .base .non, kit_ty (r := false) (by decide +kernel)⟩
  | bl b => exact ⟨_, .base (.bl b), kit_ty (r := false) (by decide +kernel)⟩
  | int i => exact ⟨_, .base (.int i), kit_ty (r := false) (by decide +kernel)⟩
  | str x => exact ⟨_, .base (.str x), kit_ty (r := false) (by decide +kernel)⟩
  | ref a =>
    unfold isT
    rcases h with ⟨xs, h⟩ | ⟨xs, h⟩ | ⟨xs, h⟩
    · exact ⟨_, .base (.lst h), by simp only [h]; exact kit_ty (r := false) (by decide +kernel)⟩
    · exact ⟨_, .base (.tup h), by simp only [h]; exact kit_ty (r := true) (by decide +kernel)⟩
    · exact ⟨_, .base (.dK h), by simp only [h]; exact kit_ty (r := false) (by decide +kernel)⟩
  | byt b => exact h.elim
  | flt b => exact h.elim
  | ty n => exact h.elim
theorem isT_at {v : V} (h : isT H v = true) : ∃ a xs, v = .ref a ∧ H a = some (.tup xs) := by
  cases v with
  | ref a =>
    unfold isT at h
    cases e : H a with
    | none => simp only [e] at h; cases h
    | some o =>
      cases o with
      | tup xs => exact ⟨a, xs, rfl, e⟩
      | _ => simp only [e] at h; cases h
  | _ => cases h
theorem isT_of {a : Addr} {xs : List V} (h : H a = some (.tup xs)) : isT H (.ref a) = true := by
  unfold isT
  simp only [h]
end
section
variable {P : Program} {w : World} {K : PySem.W.Frag} {mg : Str → Option Value} {base : Heap}
def spWhole : Sp := fun vs H Q _ => ∃ v, vs = [v] ∧ Kn H v ∧ Q (.bl (isW v)) H
theorem and_whole {v : V} : (isI v && !isB v) = isW v := by cases v <;> rfl
theorem ok_is_whole {f : Addr} {fd : FuncData} (F : Fun K "is_whole" "is_whole" s_is_whole f fd) (M : Free mg) : FnOk P w K mg base CX0 1 f fd ["thing"] spWhole := by
  refine F.ok sc_is_whole (fun vs H Q E h => ?_) (fun cdv A outer s H vs Q E hr h => ?_)
  · obtain ⟨v, rfl, _⟩ := h
    rfl
  · obtain ⟨v, rfl, hk, q⟩ := h
    refine ⟨_, (pss_one (ps_ret (pe_and (pe_callB call_isi (by rfl) M.isinstance (by decide +kernel) (pa_cons (pv 0) (pa_cons (pe_bltn (v := .ty "int") (by rfl) M.int (by decide +kernel) rfl) pa_nil))) (pe_one (pe_not (pe_callB call_isi (by rfl) M.isinstance (by decide +kernel) (pa_cons (pv 0) (pa_cons (pe_bltn (v := .ty "bool") (by rfl) M.bool (by decide +kernel) rfl) pa_nil)))))))), ?_⟩
    obtain ⟨t1, h1, e1⟩ := kn_int (K := K) hk
    obtain ⟨t2, h2, e2⟩ := kn_bool (K := K) hk
    refine ⟨v, rfl, v, _, t1, _, _, rfl, .ty "int", h1, e1, _, rfl, ?_⟩
    rw [← and_whole] at q
    cases hi : isI v with
    | false =>
      rw [hi] at q
      exact q
    | true =>
      rw [hi] at q
      exact ⟨v, rfl, v, _, t2, _, _, rfl, .ty "bool", h2, e2, _, rfl, q⟩
def wfrom (lo : Int) : V → Bool
  | .int i => decide (lo ≤ i)
  | _ => false
def parts (H : Hp) : V → Option (List V)
  | .ref a => match H a with
    | some (.tup xs) => some xs
    | _ => none
  | _ => none
theorem parts_of' {H : Hp} {a : Addr} {xs : List V} (h : H a = some (.tup xs)) : parts H (.ref a) = some xs := by
  unfold parts
  simp only [h]
theorem parts_none {H : Hp} {v : V} (h : isT H v = false) : parts H v = none := by
  cases v with
  | ref a =>
    unfold isT at h
    unfold parts
    cases e : H a with
    | none => simp only [e]
    | some o =>
      cases o with
      | tup xs => simp only [e] at h; cases h
      | _ => simp only [e]
  | _ => rfl
def lenIs (H : Hp) (v : V) (n : Int) : Bool := match parts H v with
  | some xs => decide ((xs.length : Int) = n)
  | none => false
def spTupleOf : Sp := fun vs H Q _ => ∃ n v, vs = [.int n, v] ∧ Kn H v ∧ Q (.bl (lenIs H v n)) H
theorem dec_int (a b : Int) : decide (V.int a = V.int b) = decide (a = b) := by
  by_cases h : a = b
  · rw [decide_eq_true h, h, decide_eq_true rfl]
  · rw [decide_eq_false h, decide_eq_false (fun z => h (V.int.inj z))]
theorem ok_is_tuple_of {f : Addr} {fd : FuncData} (F : Fun K "is_tuple_of" "is_tuple_of" s_is_tuple_of f fd) (M : Free mg) : FnOk P w K mg base CX0 1 f fd ["length", "thing"] spTupleOf := by
  refine F.ok sc_is_tuple_of (fun vs H Q E h => ?_) (fun cdv A outer s H vs Q E hr h => ?_)
  · obtain ⟨n, v, rfl, _⟩ := h
    rfl
  · obtain ⟨n, v, rfl, hk, q⟩ := h
    refine ⟨_, (pss_one (ps_ret (pe_and (pe_callB call_isi (by rfl) M.isinstance (by decide +kernel) (pa_cons (pv 1) (pa_cons (pe_bltn (v := .ty "tuple") (by rfl) M.tuple (by decide +kernel) rfl) pa_nil))) (pe_one (pe_cmpR op_eq (pe_callB call_len_seq (by rfl) M.len PySem.boot_len (pa_cons (pv 1) pa_nil)) (pv 0) (nomark _)))))), ?_⟩
    obtain ⟨t1, h1, e1⟩ := kn_tup (K := K) hk
    refine ⟨v, rfl, v, _, t1, _, _, rfl, .ty "tuple", h1, e1, _, rfl, ?_⟩
    unfold lenIs at q
    cases hi : isT H v with
    | false =>
      rw [parts_none hi] at q
      exact q
    | true =>
      obtain ⟨a, xs, rfl, e⟩ := isT_at hi
      rw [parts_of' e] at q
      refine ⟨.ref a, rfl, a, xs, rfl, .inr (SqT.of e), .int n, rfl, rfl, ?_⟩
      rw [dec_int]
      exact q
def spFrom : Sp := fun vs H Q _ => ∃ lo v, vs = [.int lo, v] ∧ Kn H v ∧ Q (.bl (wfrom lo v)) H
theorem ok_is_whole_from {f : Addr} {fd : FuncData} (F : Fun K "is_whole_from" "is_whole_from" s_is_whole_from f fd) (Dw : Df P w K mg base 1 "is_whole" ["thing"] spWhole) : FnOk P w K mg base CX0 2 f fd ["low", "thing"] spFrom := by
  obtain ⟨fW, fdW, GW, gW, kW, bW⟩ := Dw
  refine F.ok sc_is_whole_from (fun vs H Q E h => ?_) (fun cdv A outer s H vs Q E hr h => ?_)
  · obtain ⟨lo, v, rfl, _⟩ := h
    rfl
  · obtain ⟨lo, v, rfl, hk, q⟩ := h
    refine ⟨_, (pss_one (ps_ret (pe_and (pe_call GW hr (by rfl) gW kW bW .nil pass0 (pa_cons (pv 1) pa_nil)) (pe_one (pe_cmpR op_ge (pv 1) (pv 0) (nomark _)))))), ?_⟩
    refine ⟨v, rfl, v, rfl, hk, _, rfl, ?_⟩
    cases v with
    | int i => exact ⟨.int i, rfl, .int lo, rfl, i, lo, rfl, rfl, q⟩
    | _ => exact q
/-! ### a def whose code object stands at c: its own table is at Pt -/
structure FunC (K : PySem.W.Frag) (x qual : Str) (st : Stmt) (f : Addr) (fd : FuncData) (c : Addr) : Prop where
  ex : ∃ (oc : Value) (od : Option Addr) (kV doc pm : Value) (an : Option Addr) (ct : Value) (osl : Array (Option Value)),
    fd = PySem.W.fnOf x qual (defArgs st) (defBody st) (defScope st) .none kV doc pm an (.ref c) ct ∧ K.lookup f = some ⟨oc, od, .func fd, osl⟩ ∧ PySem.W.codeIn K (.ref c) qual = true
  kp : PySem.W.keepIn K (.ref f) = true
theorem FunC.ok {x qual : Str} {st : Stmt} {f c : Addr} {fd : FuncData} {N ps : List Str} {k : Nat} {sp : Sp} (F : FunC K x qual st f fd c) (S : FnScope N ps (defScope st)) (len : ∀ vs H Q E, sp vs H Q E → vs.length = ps.length)
    (hbody : ∀ (A : Around) (outer : List Env) (s : Shared) (H : Hp) (vs : List V) (Q : VK) (E : XK), Room k (A.deeper (envOfC qual (defScope st) s.heap.objs.size f (.ref c))) → sp vs H Q E →
      ∃ t, PSs (cxOf CX0 P w K mg base N qual (defScope st) f (.ref c) A outer s H E).nox (defBody st) t ∧ t { nx := fun _ H' => Q .non H', rt := Q } (start N vs) H) : FnOk P w K mg base CX0 (k + 1) f fd ps sp := by
  obtain ⟨oc, od, kV, doc, pm, an, ct, osl, rfl, lk, hcd⟩ := F.ex
  refine fn_of lk hcd S len fun A outer s H vs Q E hr hsp => ?_
  obtain ⟨t, h, q⟩ := hbody A outer s H vs Q E hr hsp
  exact ⟨t, h.nox, q⟩
theorem FunC.fn {x qual : Str} {st : Stmt} {f c : Addr} {fd : FuncData} (F : FunC K x qual st f fd c) : Fun K x qual st f fd := by
  obtain ⟨oc, od, kV, doc, pm, an, ct, osl, rfl, lk, hcd⟩ := F.ex
  exact ⟨⟨oc, od, kV, doc, pm, an, _, ct, osl, rfl, lk, hcd⟩, F.kp⟩
theorem parts_at {H : Hp} {v : V} {xs : List V} (h : parts H v = some xs) : ∃ a, v = .ref a ∧ H a = some (.tup xs) := by
  cases v with
  | ref a =>
    unfold parts at h
    cases e : H a with
    | none => simp only [e] at h; cases h
    | some o =>
      cases o with
      | tup ys => simp only [e] at h; cases h; exact ⟨a, rfl, e⟩
      | _ => simp only [e] at h; cases h
  | _ => cases h
end
/-! ### all but the tables is kept -/
structure Kt (Ps : List Addr) (H H' : Hp) : Prop where
  tab : ∀ P ∈ Ps, GxR.TabG H' P
  keep : ∀ b o, b ∉ Ps → H b = some o → H' b = some o
def Tabs (Ps : List Addr) (H : Hp) : Prop := ∀ P ∈ Ps, GxR.TabG H P
theorem Kt.refl {Ps : List Addr} {H : Hp} (h : Tabs Ps H) : Kt Ps H H := ⟨h, fun _ _ _ e => e⟩
theorem Kt.trans {Ps : List Addr} {H H1 H2 : Hp} (a : Kt Ps H H1) (b : Kt Ps H1 H2) : Kt Ps H H2 := ⟨b.tab, fun x o h e => b.keep x o h (a.keep x o h e)⟩
theorem Kt.same {Ps : List Addr} {H H' : Hp} (h : Tabs Ps H) (s : Same H H') : Kt Ps H H' := ⟨fun P hP => by obtain ⟨ps, e, t⟩ := h P hP; exact ⟨ps, s _ _ e, t⟩, fun b o _ e => s b o e⟩
theorem Kt.tabbed {Ps : List Addr} {P : Addr} {H H' : Hp} (h : Tabs Ps H) (hP : P ∈ Ps) (t : GxR.Tabbed P H H') : Kt Ps H H' := by
  refine ⟨fun Q hQ => ?_, fun b o hb e => ?_⟩
  · by_cases e : Q = P
    · rw [e]
      exact t.1
    · obtain ⟨ps, e1, t1⟩ := h Q hQ
      exact ⟨ps, by rw [t.2 Q e]; exact e1, t1⟩
  · rw [t.2 b (fun z => hb (by rw [z]; exact hP))]
    exact e
theorem Tabs.out {Ps : List Addr} {H : Hp} {a : Addr} {o : HO} (t : Tabs Ps H) (h : H a = some o) (no : ∀ ps, o ≠ .tbl ps) : a ∉ Ps := fun z => by
  obtain ⟨ps, e, _⟩ := t a z
  rw [e] at h
  cases h
  exact no _ rfl
theorem Kt.tup {Ps : List Addr} {a : Addr} {H H' : Hp} {xs : List V} (k : Kt Ps H H') (t : Tabs Ps H) (h : H a = some (.tup xs)) : H' a = some (.tup xs) := k.keep a _ (t.out h fun _ z => by cases z) h
theorem Kt.lst {Ps : List Addr} {a : Addr} {H H' : Hp} {xs : List V} (k : Kt Ps H H') (t : Tabs Ps H) (h : H a = some (.lst xs)) : H' a = some (.lst xs) := k.keep a _ (t.out h fun _ z => by cases z) h
theorem Kt.dct {Ps : List Addr} {a : Addr} {H H' : Hp} {xs : List (Key × V)} (k : Kt Ps H H') (t : Tabs Ps H) (h : H a = some (.dK xs)) : H' a = some (.dK xs) := k.keep a _ (t.out h fun _ z => by cases z) h
theorem Kt.tk {Ps : List Addr} {H H' : Hp} (k : Kt Ps H H') (t : Tabs Ps H) : Tk H H' := fun _ _ e => k.tup t e
theorem Kt.kn {Ps : List Addr} {H H' : Hp} (k : Kt Ps H H') (t : Tabs Ps H) {v : V} (h : Kn H v) : Kn H' v := by
  cases v with
  | ref a =>
    rcases h with ⟨xs, h⟩ | ⟨xs, h⟩ | ⟨xs, h⟩
    · exact .inl ⟨xs, k.lst t h⟩
    · exact .inr (.inl ⟨xs, k.tup t h⟩)
    · exact .inr (.inr ⟨xs, k.dct t h⟩)
  | _ => exact h
theorem Kt.well {Ps : List Addr} {d : Addr} {b : Nat} {H H' : Hp} (k : Kt Ps H H') (t : Tabs Ps H) (D : Well H d b) : Well H' d b := by
  obtain ⟨g, st, n, e1, e2⟩ := D
  exact ⟨g, st, n, k.lst t e1, e2⟩
theorem Tabs.kp {Ps : List Addr} {d : Addr} {b : Nat} {H H' : Hp} (t : Tabs Ps H) (k : Kp d d H H') (D : Well H d b) : Tabs Ps H' := fun P hP => by
  obtain ⟨ps, e, x⟩ := t P hP
  obtain ⟨g, st, n, e1, e2⟩ := D
  have ne : P ≠ d := ne_of e e1 (by intro z; cases z)
  exact ⟨ps, k _ _ ne ne e, x⟩
theorem Tabs.same {Ps : List Addr} {H H' : Hp} (t : Tabs Ps H) (s : Same H H') : Tabs Ps H' := (Kt.same t s).tab
theorem Tabs.new {Ps : List Addr} {H : Hp} {a : Addr} {o : HO} (t : Tabs Ps H) (h : H a = none) : Tabs Ps (upd H a o) := t.same (same_new h)
/-! ### x in t of data of any depth -/
def rInT (K : PySem.W.Frag) : R2 := fun x y H Q => ∃ d ds, Dp K H x d ∧ Dp K H y (.tuple ds) ∧ SeqAt.shaped d = true ∧ SeqAt.shaped (.tuple ds) = true ∧ Q (.bl (ds.any fun z => PyData.eqv z d)) H
theorem op_inTup {X : Cx} (hu : X.A.units + 65 < cLine) : OpR X (compareOp .In) (rInT X.K) := by
  intro pins s σ H x y v u Q I rx ry want
  obtain ⟨d, ds, hd, he, sd, se, q⟩ := want
  obtain ⟨as, r1⟩ := Dp.reads I d x v hd rx
  obtain ⟨bs, r2⟩ := Dp.reads I (.tuple ds) y u he ry
  have lay : PyData.canLayAll0 ds = true := by
    have z := SeqAt.canLay_of_shaped se
    rw [PyData.canLay0] at z
    exact z
  have deep := SeqAt.depth_of_shaped sd
  exact SeqAt.in_tuple_reads r2 r1 lay (SeqAt.canLay_of_shaped sd) (by omega) ⟨.bl _, H, I, rfl, q⟩
/-! ### ties, walks, parts: the mathematics -/
def Adj (ts : List Tie) (a b : Int) (foe : Bool) : Prop := ∃ t ∈ ts, t.foe = foe ∧ ((t.one = a ∧ t.other = b) ∨ (t.one = b ∧ t.other = a))
theorem Adj.symm {ts : List Tie} {a b : Int} {k : Bool} (h : Adj ts a b k) : Adj ts b a k := by
  obtain ⟨t, ht, e, h⟩ := h
  exact ⟨t, ht, e, h.symm⟩
/-- a walk with so many foes, even or odd -/
inductive RP (ts : List Tie) (a : Int) : Int → Bool → Prop
  | nil : RP ts a a false
  | step {b c : Int} {p k : Bool} : RP ts a b p → Adj ts b c k → RP ts a c (p ^^ k)
def Rch (ts : List Tie) (a b : Int) : Prop := ∃ p, RP ts a b p
theorem RP.trans {ts : List Tie} {a b c : Int} {p q : Bool} (h : RP ts a b p) (g : RP ts b c q) : RP ts a c (p ^^ q) := by
  induction g with
  | nil =>
    rw [Bool.xor_false]
    exact h
  | step _ k ih =>
    rw [← Bool.xor_assoc]
    exact ih.step k
theorem RP.one {ts : List Tie} {a b : Int} {k : Bool} (h : Adj ts a b k) : RP ts a b k := by
  have q := RP.nil.step h
  rw [Bool.false_xor] at q
  exact q
theorem RP.symm {ts : List Tie} {a b : Int} {p : Bool} (h : RP ts a b p) : RP ts b a p := by
  induction h with
  | nil => exact .nil
  | step _ k ih =>
    have q := (RP.one k.symm).trans ih
    rw [Bool.xor_comm] at q
    exact q
theorem Rch.refl {ts : List Tie} {a : Int} : Rch ts a a := ⟨_, .nil⟩
theorem Rch.symm {ts : List Tie} {a b : Int} (h : Rch ts a b) : Rch ts b a := by
  obtain ⟨p, h⟩ := h
  exact ⟨p, h.symm⟩
theorem Rch.trans {ts : List Tie} {a b c : Int} (h : Rch ts a b) (g : Rch ts b c) : Rch ts a c := by
  obtain ⟨p, h⟩ := h
  obtain ⟨q, g⟩ := g
  exact ⟨_, h.trans g⟩
theorem Rch.adj {ts : List Tie} {a b : Int} {k : Bool} (h : Adj ts a b k) : Rch ts a b := ⟨_, RP.one h⟩
theorem Rch.ind {ts : List Tie} {a b : Int} (C : Int → Prop) (h : Rch ts a b) (h0 : C a) (hs : ∀ x y k, C x → Adj ts x y k → C y) : C b := by
  obtain ⟨p, h⟩ := h
  induction h with
  | nil => exact h0
  | step _ k ih => exact hs _ _ _ ih k
theorem Adj.rng {ts : List Tie} {n a b : Int} {k : Bool} (ok : ∀ t ∈ ts, TieOk n t) (h : Adj ts a b k) : 0 ≤ b ∧ b < n := by
  obtain ⟨t, ht, _, h⟩ := h
  obtain ⟨h1, h2, h3, h4, _⟩ := ok t ht
  rcases h with ⟨e1, e2⟩ | ⟨e1, e2⟩
  · omega
  · omega
theorem Rch.rng {ts : List Tie} {n a b : Int} (ok : ∀ t ∈ ts, TieOk n t) (ha : 0 ≤ a ∧ a < n) (h : Rch ts a b) : 0 ≤ b ∧ b < n := h.ind (fun x => 0 ≤ x ∧ x < n) ha fun _ _ _ _ k => k.rng ok
def leader (ts : List Tie) (s : Int) : Prop := ∀ q, Rch ts s q → s ≤ q
/-- rising lists of the same numbers are one -/
theorem rising_ext : ∀ {xs ys : List Int}, xs.Pairwise (· < ·) → ys.Pairwise (· < ·) → (∀ z, z ∈ xs ↔ z ∈ ys) → xs = ys
  | [], [], _, _, _ => rfl
  | [], y :: ys, _, _, h => by have := (h y).mpr (by simp); simp at this
  | x :: xs, [], _, _, h => by have := (h x).mp (by simp); simp at this
  | x :: xs, y :: ys, hx, hy, h => by
    rw [List.pairwise_cons] at hx hy
    have e : x = y := by
      have h1 := (h x).mp (by simp)
      have h2 := (h y).mpr (by simp)
      rcases List.mem_cons.mp h1 with e | e
      · exact e
      · rcases List.mem_cons.mp h2 with e' | e'
        · exact e'.symm
        · have := hx.1 y e'
          have := hy.1 x e
          omega
    subst e
    rw [rising_ext hx.2 hy.2 fun z => ?_]
    constructor
    · intro hz
      rcases List.mem_cons.mp ((h z).mp (List.mem_cons_of_mem _ hz)) with e | e
      · have := hx.1 z hz
        omega
      · exact e
    · intro hz
      rcases List.mem_cons.mp ((h z).mpr (List.mem_cons_of_mem _ hz)) with e | e
      · have := hy.1 z hz
        omega
      · exact e
/-- 0, 1, .., n - 1 -/
def rng (n : Nat) : List Int := (List.range n).map fun (i : Nat) => (i : Int)
theorem mem_rng {n : Nat} {z : Int} : z ∈ rng n ↔ 0 ≤ z ∧ z < n := by
  unfold rng
  rw [List.mem_map]
  constructor
  · rintro ⟨i, hi, rfl⟩
    have := List.mem_range.mp hi
    omega
  · rintro ⟨h1, h2⟩
    exact ⟨z.toNat, List.mem_range.mpr (by omega), by omega⟩
theorem rng_rising (n : Nat) : (rng n).Pairwise (· < ·) := by
  unfold rng
  rw [List.pairwise_map]
  exact List.pairwise_lt_range.imp (by intro a b h; omega)
theorem rng_succ (n : Nat) : rng (n + 1) = rng n ++ [(n : Int)] := by
  unfold rng
  rw [List.range_succ, List.map_append]
  rfl
theorem rng_length (n : Nat) : (rng n).length = n := by
  unfold rng
  rw [List.length_map, List.length_range]
open Classical in
/-- the part of s -/
noncomputable def partOf (ts : List Tie) (n : Nat) (s : Int) : List Int := (rng n).filter fun p => decide (Rch ts s p)
open Classical in
/-- the parts by their first places, below i -/
noncomputable def partsTo (ts : List Tie) (n i : Nat) : List (List Int) := ((rng i).filter fun s => decide (leader ts s)).map (partOf ts n)
open Classical in
theorem partsTo_succ (ts : List Tie) (n i : Nat) : partsTo ts n (i + 1) = partsTo ts n i ++ (if leader ts i then [partOf ts n i] else []) := by
  unfold partsTo
  rw [rng_succ, List.filter_append, List.map_append]
  congr 1
  by_cases h : leader ts (i : Int)
  · rw [if_pos h, List.filter_cons, if_pos (decide_eq_true h)]
    rfl
  · rw [if_neg h, List.filter_cons, if_neg (by simpa using h)]
    rfl
theorem part_rising (ts : List Tie) (n : Nat) (s : Int) : (partOf ts n s).Pairwise (· < ·) := (rng_rising n).filter _
theorem mem_part {ts : List Tie} {n : Nat} {s z : Int} : z ∈ partOf ts n s ↔ (0 ≤ z ∧ z < n) ∧ Rch ts s z := by
  unfold partOf
  rw [List.mem_filter, mem_rng]
  simp
/-! ### the least place that each comes to, gone over again and again -/
def relax (f : Int → Int) (t : Tie) : Int → Int := fun x => if x = t.one ∨ x = t.other then min (f t.one) (f t.other) else f x
def rounds (ts : List Tie) : Nat → Int → Int
  | 0 => fun x => x
  | r + 1 => ts.foldl relax (rounds ts r)
theorem relax_le (f : Int → Int) (t : Tie) (x : Int) : relax f t x ≤ f x := by
  unfold relax
  split
  · rename_i h
    rcases h with rfl | rfl <;> omega
  · exact Int.le_refl _
theorem fold_le : ∀ (l : List Tie) (f : Int → Int) (x : Int), l.foldl relax f x ≤ f x
  | [], _, _ => Int.le_refl _
  | t :: l, f, x => Int.le_trans (fold_le l (relax f t) x) (relax_le f t x)
theorem fold_tie : ∀ (l : List Tie) (f : Int → Int) (t : Tie), t ∈ l → l.foldl relax f t.one ≤ min (f t.one) (f t.other) ∧ l.foldl relax f t.other ≤ min (f t.one) (f t.other)
  | t' :: l, f, t, h => by
    rcases List.mem_cons.mp h with e | e
    · subst e
      have h1 := fold_le l (relax f t) t.one
      have h2 := fold_le l (relax f t) t.other
      have e1 : relax f t t.one = min (f t.one) (f t.other) := by unfold relax; rw [if_pos (.inl rfl)]
      have e2 : relax f t t.other = min (f t.one) (f t.other) := by unfold relax; rw [if_pos (.inr rfl)]
      rw [e1] at h1
      rw [e2] at h2
      exact ⟨h1, h2⟩
    · have ih := fold_tie l (relax f t') t e
      have h1 := relax_le f t' t.one
      have h2 := relax_le f t' t.other
      exact ⟨Int.le_trans ih.1 (by omega), Int.le_trans ih.2 (by omega)⟩
theorem fold_rch {ts : List Tie} : ∀ (l : List Tie) (f : Int → Int), (∀ t ∈ l, t ∈ ts) → (∀ x, Rch ts x (f x)) → ∀ x, Rch ts x (l.foldl relax f x)
  | [], _, _, h => h
  | t :: l, f, hl, h => fold_rch l (relax f t) (fun t' ht => hl t' (List.mem_cons_of_mem _ ht)) fun x => by
    have ad : Rch ts t.one t.other := Rch.adj (k := t.foe) ⟨t, hl t (by simp), rfl, .inl ⟨rfl, rfl⟩⟩
    unfold relax
    split
    · rename_i hx
      have key : Rch ts x t.one ∧ Rch ts x t.other := by
        rcases hx with e | e <;> subst e
        · exact ⟨Rch.refl, ad⟩
        · exact ⟨ad.symm, Rch.refl⟩
      rcases Int.le_total (f t.one) (f t.other) with q | q
      · rw [Int.min_eq_left q]
        exact key.1.trans (h _)
      · rw [Int.min_eq_right q]
        exact key.2.trans (h _)
    · exact h x
theorem rounds_rch (ts : List Tie) : ∀ (r : Nat) (x : Int), Rch ts x (rounds ts r x)
  | 0, _ => Rch.refl
  | r + 1, x => fold_rch ts _ (fun _ h => h) (rounds_rch ts r) x
theorem filter_lt {p q : Int → Bool} : ∀ {l : List Int}, (∀ x ∈ l, q x = true → p x = true) → (∃ x ∈ l, p x = true ∧ q x = false) → (l.filter q).length < (l.filter p).length
  | [], _, ⟨x, hx, _⟩ => by simp at hx
  | y :: l, hi, ⟨x, hx, hp, hq⟩ => by
    have mono : (l.filter q).length ≤ (l.filter p).length := by
      have hi' : ∀ x ∈ l, q x = true → p x = true := fun x h => hi x (List.mem_cons_of_mem _ h)
      clear hi hx hp hq
      induction l with
      | nil => exact Nat.le_refl _
      | cons z l ih =>
        have ih := ih fun x h => hi' x (List.mem_cons_of_mem _ h)
        rw [List.filter_cons, List.filter_cons]
        have hz := hi' z (by simp)
        cases h1 : q z <;> cases h2 : p z <;> simp_all <;> omega
    rw [List.filter_cons, List.filter_cons]
    rcases List.mem_cons.mp hx with e | e
    · subst e
      rw [hq, hp]
      simp
      omega
    · have ih := filter_lt (l := l) (fun x h => hi x (List.mem_cons_of_mem _ h)) ⟨x, e, hp, hq⟩
      have hy := hi y (by simp)
      cases h1 : q y <;> cases h2 : p y <;> simp_all <;> omega
open Classical in
/-- behind as many rounds as there are places each has its part's least place -/
theorem rounds_least {ts : List Tie} {n : Nat} (ok : ∀ t ∈ ts, TieOk n t) {m p : Int} (hm : leader ts m) (h0 : 0 ≤ m ∧ m < n) (hp : Rch ts m p) : rounds ts n p = m := by
  have ge : ∀ r x, Rch ts m x → m ≤ rounds ts r x := fun r x hx => hm _ (hx.trans (rounds_rch ts r x))
  have mono : ∀ r x, rounds ts (r + 1) x ≤ rounds ts r x := fun r x => fold_le ts _ x
  have atm : ∀ r, rounds ts r m = m := fun r => by
    have h1 := ge r m Rch.refl
    have h2 : rounds ts r m ≤ m := by
      induction r with
      | zero => exact Int.le_refl _
      | succ r ih => exact Int.le_trans (mono r m) (ih (ge r m Rch.refl))
    omega
  have cnt : ∀ r, ((rng n).filter fun x => decide (Rch ts m x ∧ rounds ts r x ≠ m)).length ≤ n - r := fun r => by
    induction r with
    | zero =>
      refine Nat.le_trans (List.length_filter_le _ _) ?_
      rw [rng_length]
      omega
    | succ r ih =>
      by_cases hex : ∃ x, Rch ts m x ∧ rounds ts r x ≠ m
      · obtain ⟨x, hx, hne⟩ := hex
        -- an edge over which it comes
        have edge : ∃ a b k, Rch ts m a ∧ rounds ts r a = m ∧ Adj ts a b k ∧ rounds ts r b ≠ m := by
          by_cases hn : ∃ a b k, Rch ts m a ∧ rounds ts r a = m ∧ Adj ts a b k ∧ rounds ts r b ≠ m
          · exact hn
          · exfalso
            refine hne (hx.ind (fun y => Rch ts m y ∧ rounds ts r y = m) ⟨Rch.refl, atm r⟩ fun a b k ha k' => ⟨ha.1.trans (Rch.adj k'), ?_⟩).2
            by_cases hb : rounds ts r b = m
            · exact hb
            · exact absurd ⟨a, b, k, ha.1, ha.2, k', hb⟩ hn
        obtain ⟨a, b, k, ha, ha2, hab, hb⟩ := edge
        have hmb : Rch ts m b := ha.trans (Rch.adj hab)
        have hb' : rounds ts (r + 1) b = m := by
          have h1 := ge (r + 1) b hmb
          obtain ⟨t, ht, _, h⟩ := hab
          have ft := fold_tie ts (rounds ts r) t ht
          have h2 : rounds ts (r + 1) b ≤ m := by
            rcases h with ⟨e1, e2⟩ | ⟨e1, e2⟩
            · have q := ft.2
              rw [e1, e2, ha2] at q
              exact Int.le_trans q (by omega)
            · have q := ft.1
              rw [e1, e2, ha2] at q
              exact Int.le_trans q (by omega)
          omega
        have lt := filter_lt (p := fun x => decide (Rch ts m x ∧ rounds ts r x ≠ m)) (q := fun x => decide (Rch ts m x ∧ rounds ts (r + 1) x ≠ m)) (l := rng n) (fun x _ hq => by
          have hq := of_decide_eq_true hq
          refine decide_eq_true ⟨hq.1, fun z => hq.2 ?_⟩
          have h1 := ge (r + 1) x hq.1
          have h2 := mono r x
          omega) ⟨b, mem_rng.mpr (hmb.rng ok h0), decide_eq_true ⟨hmb, hb⟩, decide_eq_false fun z => z.2 hb'⟩
        omega
      · have e : (rng n).filter (fun x => decide (Rch ts m x ∧ rounds ts (r + 1) x ≠ m)) = [] := by
          rw [List.filter_eq_nil_iff]
          intro x _ hq
          have hq := of_decide_eq_true hq
          refine hex ⟨x, hq.1, fun z => hq.2 ?_⟩
          have h1 := ge (r + 1) x hq.1
          have h2 := mono r x
          omega
        rw [e]
        exact Nat.zero_le _
  have c := cnt n
  rw [Nat.sub_self] at c
  have e := List.eq_nil_of_length_eq_zero (Nat.le_zero.mp c)
  by_cases hne : rounds ts n p = m
  · exact hne
  · rw [List.filter_eq_nil_iff] at e
    exact absurd (decide_eq_true ⟨hp, hne⟩) (e p (mem_rng.mpr (hp.rng ok h0)))
open Classical in
/-- each has a least place -/
theorem has_leader {ts : List Tie} {n : Nat} (ok : ∀ t ∈ ts, TieOk n t) {p : Int} (h0 : 0 ≤ p ∧ p < n) : ∃ m, leader ts m ∧ (0 ≤ m ∧ m < n) ∧ Rch ts m p := by
  have key : ∀ (k : Nat) (x : Int), x = k → Rch ts p x → ∃ m, leader ts m ∧ (0 ≤ m ∧ m < n) ∧ Rch ts m p := by
    intro k
    induction k using Nat.strongRecOn with
    | ind k ih =>
      intro x hx hr
      have hxr := hr.rng ok h0
      by_cases hl : leader ts x
      · exact ⟨x, hl, hxr, hr.symm⟩
      · have hl' : ∃ q, Rch ts x q ∧ q < x := by
          by_cases h : ∃ q, Rch ts x q ∧ q < x
          · exact h
          · exfalso
            refine hl fun q hq => ?_
            by_cases h' : q < x
            · exact absurd ⟨q, hq, h'⟩ h
            · omega
        obtain ⟨q, hq, hlt⟩ := hl'
        have hqr := hq.rng ok hxr
        exact ih q.toNat (by omega) q (by omega) (hr.trans hq)
  exact key p.toNat p (by omega) Rch.refl
/-! ### tuples that are known to have no dict: their methods -/
def NoD (H : Hp) (p : Addr) (xs : List V) : Prop := ∃ o : Obj, o.dict = none ∧ H p = some (.frz o (.tup xs))
theorem NoD.same {H H' : Hp} {p : Addr} {xs : List V} (h : NoD H p xs) (s : Same H H') : NoD H' p xs := by
  obtain ⟨o, h1, h2⟩ := h
  exact ⟨o, h1, s _ _ h2⟩
theorem NoD.sq {K : PySem.W.Frag} {H : Hp} {p : Addr} {xs : List V} (h : NoD H p xs) : SqT K H p xs := by
  obtain ⟨o, h1, h2⟩ := h
  exact .inl (.inr ⟨o, h2⟩)
theorem NoD.kp {H H' : Hp} {d p : Addr} {b : Nat} {xs : List V} (h : NoD H p xs) (k : Kp d d H H') (D : Well H d b) : NoD H' p xs := by
  obtain ⟨o, h1, h2⟩ := h
  obtain ⟨g, st, n, e1, _⟩ := D
  have ne : p ≠ d := ne_of h2 e1 (by intro z; cases z)
  exact ⟨o, h1, k _ _ ne ne h2⟩
section
variable {X : Cx}
theorem call_tuple_ofZ : CallR X (.type "tuple") (fun xs H Q => ∃ p ys, xs = [.ref p] ∧ SqL X.K H p ys ∧ ∀ l o, o.dict = none → H l = none → Q (.ref l) (upd H l (.frz o (.tup ys)))) := by
  intro pins s σ H xs us Q I r h
  obtain ⟨p, ys, rfl, hq, q⟩ := h
  obtain ⟨u, rfl, rx⟩ := vals1 r
  cases rx
  obtain ⟨its, r', pl, hz⟩ := I.list hq
  have hlen := r'.length
  refine call_tuple_list pl.isList (fun h' kp => ?_) (by simp only [List.size_toArray] <;> omega)
  have I1 : Inv X pins σ H { s with heap := h' } := I.kept (t' := s.toks) kp
  have I2 : Inv X pins σ (upd H h'.objs.size (.frz { cls := .type "tuple", data := .seq its.toArray } (.tup ys))) { s with heap := h'.push { cls := .type "tuple", data := .seq its.toArray } } :=
    I1.laid (t' := s.toks) (fun b o e => Heap.get?_push_of_some _ e) (Nat.le_refl _) (show ObjOk X.prog X.w _ _ _ (.frz { cls := .type "tuple", data := .seq its.toArray } (.tup ys)) from ⟨Heap.get?_push_size _ rfl, hz, its, r', IsTup.new _ _⟩)
  exact ⟨.ref h'.objs.size, _, I2, rfl, q _ _ rfl (I1.hok.fresh (Nat.le_refl _))⟩
def tTupRgZ (te : L2.St → Hp → (Int → Int → Hp → Prop) → Prop) : TE := fun σ H Q => te σ H fun a b H1 => RgOk a b ∧ ∀ q o, o.dict = none → H1 q = none → Q (.ref q) (upd H1 q (.frz o (.tup (rgV a b))))
theorem pe_tupRgZ {e : Expr} {te : L2.St → Hp → (Int → Int → Hp → Prop) → Prop} {p pos : Pos} (hc : X.calm = true) (hg : Gl X "tuple") (hm : X.mg "tuple" = none) (he : PRg X e te) (na : starEach [e] X.env = (false, eval e X.env) :: starEach [] X.env := by rfl) : PE X (.Call (.Name "tuple" p) [e] [] pos) (tTupRgZ te) := by
  refine ⟨fun pins s σ H Q I h => ?_⟩
  refine Call_ (ld_blt I hg hm boot_tuple (PyProof.Rows.callWith_type1 (args_cons (thn (he pins s σ H _ I h) fun x s1 ⟨r, a, b, t, u, v, H1, ex, hr, I1, ok, q⟩ => args_nil ?_) na) na))
  subst ex
  obtain ⟨b1, b2, b3, b4, b5⟩ := ok
  refine call_tuple_range (n := (b - a).toNat) (I1.ok.hd hc) hr (small_one b1 b2 b3 b4) (rangeSize_nat a b) b5 fun h' tk acc hk hi => ?_
  have I2 : Inv X pins σ H1 { s1 with heap := h', toks := tk } := I1.kept hk
  refine ⟨.ref h'.objs.size, upd H1 h'.objs.size (.frz { cls := .type "tuple", data := .seq acc } (.tup (rgV a b))), I2.laid (t' := tk) (fun c o e => Heap.get?_push_of_some _ e) (Nat.le_refl _) (show ObjOk X.prog X.w _ _ _ (.frz { cls := .type "tuple", data := .seq acc } (.tup (rgV a b))) from ⟨Heap.get?_push_size _ rfl, ?_, acc.toList, vals_rg hi, ?_⟩), rfl, q _ _ rfl (I2.hok.fresh (Nat.le_refl _))⟩
  · rw [rgV_length, sizeLine_eq]; omega
  · rw [Array.toArray_toList]; exact IsTup.new _ _
/-- a method of such a tuple -/
def tBMT (r : V → List V → Hp → VK → Prop) (to : TE) (t : TA) : TE := fun σ H Q => to σ H fun x H1 => (∃ p xs, x = .ref p ∧ NoD H1 p xs) ∧ t σ H1 fun xs H2 => r x xs H2 Q
theorem pe_bmT {o e : Expr} {es : List Expr} {to : TE} {t : TA} {name : Str} {apos cpos : Pos} {id : String} {r : V → List V → Hp → VK → Prop} (slot : Slot "tuple" name id) (hty : typeOf (.builtin id) = pure (.type "method_descriptor")) (hm : MtR X id r) (ho : PE X o to) (ha : PA X (e :: es) t)
    (hbase : attributeBase o name X.env (eval o X.env) = eval o X.env := by rfl)
    (hfew : ((backTo cpos (starEach (e :: es) X.env)).all (fun x => !x.1) && (backToKw cpos (keywordEach [] X.env)).all (fun x => x.1.isSome)
      && decide ((e :: es).length + ([] : List Keyword).length + (if ([] : List Keyword).isEmpty then 0 else 1) < 30)) = true := by rfl)
    (hline : (apos.endLine == cpos.line) = true := by rfl) (hs : starEach (e :: es) X.env = (false, eval e X.env) :: starEach es X.env := by rfl) (hplain : (backTo cpos (starEach es X.env)).any (·.1) = false := by rfl) :
    PE X (.Call (.Attribute o name apos) (e :: es) [] cpos) (tBMT r to t) := by
  refine ⟨fun pins s σ H Q I h => ?_⟩
  refine wpAny_Call_method_late hbase hfew hline rfl (thn (ho.run pins s σ H _ I h) fun v s1 ⟨x, H1, I1, r1, ⟨p, xs, ex, ob, od, hp⟩, q1⟩ => ?_)
  subst ex
  obtain rfl : v = Value.ref p := r1
  obtain ⟨e1, hz, its, rv, o2, e2, c2, n2, d2⟩ := (show ObjOk X.prog X.w H1 s1.heap p (.frz ob (.tup xs)) from I1.hok p _ hp)
  rw [e1] at e2
  cases e2
  refine ⟨"tuple", id, PySem.F.plainAttrs_tuple, slot, hty, ⟨ob, e1, c2⟩, fun a ea => ?_, ?_⟩
  · cases ea
    exact ⟨ob, e1, od⟩
  have hA := ha.run cpos pins s1 σ H1 _ I1 q1
  rw [hs] at hA ⊢
  refine Calls.callWith_builtin (by show (false || (backTo cpos (starEach es X.env)).any (·.1)) = false; rw [hplain] <;> rfl) (Calls.evalArgs_plain ?_)
  exact thn hA fun us s2 ⟨vs, H2, I2, r2, q2⟩ => hm pins s2 σ H2 (.ref p) vs (.ref p) us Q I2 rfl r2 q2
def rCntT (K : PySem.W.Frag) : V → List V → Hp → VK → Prop := fun x xs H Q => ∃ (p : Addr) (ns : List Int) (k : Int), x = .ref p ∧ xs = [.int k] ∧ SqT K H p (ns.map V.int) ∧ Q (.int (ns.count k : Nat)) H
theorem mt_tcount : MtR X "tuple.count" (rCntT X.K) := by
  intro pins s σ H x xs v us Q I rx rxs h
  obtain ⟨p, ns, k, rfl, rfl, hs, q⟩ := h
  cases rx
  obtain ⟨u, rfl, ru⟩ := rxs.one
  obtain ⟨t, rfl⟩ := ru
  obtain ⟨its, rv, ⟨⟨cls, dd, data, sl⟩, ho, hc, n, hd⟩, hlen⟩ := I.tuple hs
  simp only at hc hd
  subst hc hd
  have hi := ints_of_vals rv
  refine call_meets PySem.F.slot_tuple_count ⟨_, ho, rfl⟩ PySem.F.entry_tuple_count (PySem.F.args_tuple_count_2 _ _)
    (SeqAt.tuple_countAt p its.toArray n dd sl (.int k t) (eqk k)) ⟨ho, fun y hy => (eqk_gives hi y (by simpa using hy)).at _ _, ?_⟩
  have ec : its.toArray.toList.countP (eqk k) = ns.count k := eqk_count hi
  refine ⟨.int (ns.count k : Nat), H, I.tok _, ⟨s.toks, ?_⟩, q⟩
  show Value.int ((its.toArray.toList.countP (eqk k) : Nat) : Int) s.toks = Value.int ((ns.count k : Nat) : Int) s.toks
  rw [ec]
end
/-! ### zip of two tuples -/
theorem walk_zipT {K : PySem.W.Frag} {a b : Addr} {xs ys : List V} {n : Nat} (hn : n = min xs.length ys.length) : Walk (RZ.ItzT K a b) n (fun H => SqT K H a xs ∧ SqT K H b ys) (YPair (fun i => xs[i]?) (fun i => ys[i]?)) := by
  subst hn
  refine ⟨fun i _ hi q => ?_, fun _ q => ⟨xs, ys, q.1, q.2, by omega⟩, fun i H v H' _ q y => ?_⟩
  · have h1 : i < xs.length := by omega
    have h2 : i < ys.length := by omega
    exact ⟨xs, ys, xs[i], ys[i], q.1, q.2, by simp [h1], by simp [h2]⟩
  · obtain ⟨T, x, z, h1, h2, h3, h4, h5⟩ := y
    exact ⟨T, x, z, h1, h2, h3, h4 xs q.1, h5 ys q.2⟩
/-! ### rows of numbers as data -/
def IntsV (H : Hp) (v : V) (xs : List Int) : Prop := ∃ b, v = .ref b ∧ H b = some (.tup (xs.map V.int))
theorem IntsV.tk {H H' : Hp} (k : Tk H H') {v : V} {xs : List Int} (h : IntsV H v xs) : IntsV H' v xs := by
  obtain ⟨a, rfl, e⟩ := h
  exact ⟨a, rfl, k _ _ e⟩
def intsD (xs : List Int) : PyData := .tuple (xs.map PyData.int)
section
variable {K : PySem.W.Frag} {H : Hp}
theorem dp_ints : ∀ (xs : List Int), DpAll K H (xs.map V.int) (xs.map PyData.int)
  | [] => .nil
  | x :: xs => .cons (.int x) (dp_ints xs)
theorem IntsV.dp {v : V} {xs : List Int} (h : IntsV H v xs) : Dp K H v (intsD xs) := by
  obtain ⟨b, rfl, e⟩ := h
  exact .tup (SqT.of e) (dp_ints xs)
end
theorem lay_ints : ∀ xs : List Int, PyData.canLayAll0 (xs.map PyData.int) = true
  | [] => by simp [PyData.canLayAll0]
  | x :: xs => by simp [PyData.canLayAll0, PyData.canLay0, lay_ints xs]
theorem deep_ints : ∀ xs : List Int, PyData.depthAll (xs.map PyData.int) = 0
  | [] => by simp [PyData.depthAll]
  | x :: xs => by simp [PyData.depthAll, PyData.depth, deep_ints xs]
theorem lay_intsD (xs : List Int) : (intsD xs).canLay0 = true := by
  unfold intsD
  rw [PyData.canLay0]
  exact lay_ints xs
theorem deep_intsD (xs : List Int) : (intsD xs).depth = 1 := by
  unfold intsD
  rw [PyData.depth, deep_ints]
theorem shaped_intsD (xs : List Int) : SeqAt.shaped (intsD xs) = true := by
  unfold SeqAt.shaped
  rw [lay_intsD, deep_intsD]
  rfl
theorem eqv_nil (xs : List Int) : PyData.eqv (intsD xs) (intsD []) = xs.isEmpty := by
  unfold intsD
  rw [PyData.eqv]
  cases xs <;> rfl
/-! ### enumerate of a tuple -/
set_option maxHeartbeats 1000000 in
theorem meets_enumOne {v : Value} {o : Obj} {S : Heap → Prop} (B : Begins v o S) : Meets (Builtin.«enumerate.__new__» ⟨[.type "enumerate", v], []⟩) (fun _ R s => S s.heap ∧
      R (.ok (.ret (.ref (s.heap.push o).objs.size))) { s with heap := (s.heap.push o).push { cls := .type "enumerate", data := .fields #[.none, .bool false, .ref s.heap.objs.size, rawInt 0, .none, .none] } }) :=
  .of_wp fun prog w A R s h => by
    obtain ⟨hp, g, d, tk, os⟩ := s
    obtain ⟨h1, h⟩ := h
    have sub0 := sub_enumerate
    have begun : ∀ {A' : PySem.Around} {E : Value → Shared → Prop} {Q : Value → Shared → Prop}, Q (.ref hp.objs.size) ⟨hp.push o, g, d, tk, os⟩ → wpAny (model prog w) A' (pyIter v) Q E ⟨hp, g, d, tk, os⟩ := fun q => B.iter prog w _ _ ⟨hp, g, d, tk, os⟩ _ h1 q
    wp_walk using begun
    refine wpAny_stack_any fun st => wpAny_pure ?_
    split
    · rename_i c _ _ _ _ _
      cases (c == Value.type "enumerate")
      all_goals
        wp_walk using begun
        exact ⟨_, rfl, h⟩
    · wp_walk using begun
      exact ⟨_, rfl, h⟩
theorem call_enumT {P : Program} {w : World} {A : PySem.Around} {E : Value → Shared → Prop} {s : Shared} {t : Addr} {items : Array Value} {Q : Value → Shared → Prop} (ht : s.heap.IsTuple t items)
    (h : ∀ h', IsEnum h' (s.heap.objs.size + 1) s.heap.objs.size 0 .none → h'.IsTupleIter s.heap.objs.size t 0 → (∀ b o, s.heap.get? b = some o → h'.get? b = some o) → Q (.ref (s.heap.objs.size + 1)) { s with heap := h' }) : wpAny (model P w) A (call (.type "enumerate") [.ref t]) Q E s := by
  refine callType_new PySem.F.called_enumerate (by decide) (PySem.F.typeCall_enumerate_1 _) (PySem.F.newCall_enumerate_1 _) (fun ob => PySem.F.args_object_init_2 ob _) PySem.F.entry_enumerate_new (meets_enumOne (begins_tuple t items)) ⟨ht, ?_⟩
  have size1 := Heap.size_push s.heap { cls := .type "tuple_iterator", data := .fields #[.ref t, .int 0 0] }
  have en := Heap.get?_push_size (s.heap.push { cls := .type "tuple_iterator", data := .fields #[.ref t, .int 0 0] }) (o := { cls := .type "enumerate", data := .fields #[.none, .bool false, .ref s.heap.objs.size, rawInt 0, .none, .none] }) rfl
  rw [size1] at en
  show _ ∧ _
  rw [size1]
  exact ⟨⟨_, en, rfl⟩, h _ en ⟨_, Heap.get?_push_of_some _ (Heap.get?_push_size _ rfl), rfl, rfl⟩ fun b o e => Heap.get?_push_of_some _ (Heap.get?_push_of_some _ e)⟩
/-- the turns: a new pair each, of the number and the part -/
def ItN (K : PySem.W.Frag) (a : Addr) : It where
  go := fun i H => ∃ (xs : List V) (x : V), SqT K H a xs ∧ xs[i]? = some x
  yld := fun i H v H' => ∃ T x, v = .ref T ∧ H T = none ∧ H' = upd H T (.tup [.int (i : Nat), x]) ∧ ∀ xs, SqT K H a xs → xs[i]? = some x
  stop := fun i H => ∃ xs : List V, SqT K H a xs ∧ xs.length ≤ i
theorem turn_enumT {P : Program} {w : World} {K : PySem.W.Frag} {elts : List Expr} {kk : Nat} {tpos : Pos} (a e it : Addr) (n1 : e ≠ it) (n2 : a ≠ it) (n3 : e ≠ a) :
    Turn P w K (.Tuple elts kk tpos) (ItN K a) [e, it] e (fun i h => (∃ old, IsEnum h e it ((i : Nat) : Int) old) ∧ h.IsTupleIter it a i) where
  mem := List.mem_cons_self
  obj := by
    rintro i h ⟨⟨old, he⟩, o, ho, hc, hd⟩ b hb
    rcases List.mem_cons.mp hb with rfl | hb
    · exact ⟨_, he, fun v q => nomatch q⟩
    · rw [List.mem_singleton.mp hb]
      exact ⟨o, ho, fun v q => by rw [hd] at q; cases q⟩
  keep := by
    rintro i h h' ⟨⟨old, he⟩, hit⟩ kp
    exact ⟨⟨old, kp e (by simp) _ he⟩, hit.at fun o q => kp it (by simp) o q⟩
  item := by
    intro X hP hw hK hc i pins s σ H E I hf st hg
    subst hP hw hK
    obtain ⟨⟨old, he⟩, hit⟩ := st
    obtain ⟨xs, x, hq, hx⟩ := hg
    obtain ⟨its, rv, tup, _⟩ := I.tuple hq
    obtain ⟨u, hu, ru⟩ := rv.get hx
    have le := Heap.lt_size he
    have li : it < s.heap.objs.size := let ⟨_, q, _⟩ := hit; Heap.lt_size q
    have lt : i < its.toArray.size := by simpa using (List.getElem?_eq_some_iff.mp hu).1
    refine wpAny_pyNext_enum_itemD (Draws.tuple (A := X.A.in1) (I.ok.hd hc) it a n2 its.toArray) he ⟨hit, tup⟩ lt n1 (by simp [n1, n3]) fun x' h' tk ex out st' new _ kp => ?_
    obtain rfl : u = x' := Option.some.inj (((by simpa using hu) : its.toArray[i]? = some u).symm.trans ex)
    refine ⟨_, rfl, wpAny_letOwnedTupleGo_enum (s := { s with heap := h', toks := tk + 1 }) out fun h2 he2 sb => ?_⟩
    have new2 : h2.get? s.heap.objs.size = some { cls := .type "tuple", data := .seq #[.int i tk, u] } := (sb.2 _ (Nat.ne_of_gt le)).trans new
    have objT : ObjOk X.prog X.w (upd H s.heap.objs.size (.tup [.int (i : Nat), x])) h2 s.heap.objs.size (.tup [.int (i : Nat), x]) := ⟨by show 2 ≤ sizeLine; decide, [.int i tk, u], .cons ⟨_, rfl⟩ (.cons ru .nil), ⟨_, new2, rfl, _, rfl⟩⟩
    have J : Inv X pins σ (upd H s.heap.objs.size (.tup [.int (i : Nat), x])) { s with heap := h2, toks := tk + 1 } := I.turnedNew (ch := [e, it]) (fun b ob hb q => by
      simp only [List.mem_cons, List.not_mem_nil, or_false, not_or] at hb
      exact (sb.2 b hb.1).trans (kp b ob hb.1 hb.2 q)) hf (Nat.le_refl _) objT
    refine ⟨.ref s.heap.objs.size, _, J, rfl, ⟨_, x, rfl, I.hok.fresh (Nat.le_refl _), rfl, fun ys hy => by rw [I.tuple_inj hy hq]; exact hx⟩, ⟨⟨u, ?_⟩, st'.1.at fun o q => (sb.2 it (Ne.symm n1)).trans q⟩, fun b hb => ?_⟩
    · rw [show ((i + 1 : Nat) : Int) = (i : Int) + 1 from by omega]
      exact he2
    · have lb : b < s.heap.objs.size := by
        rcases List.mem_cons.mp hb with rfl | hb
        · exact le
        · rw [List.mem_singleton.mp hb]
          exact li
      rw [upd_ne (Nat.ne_of_lt lb)]
      exact (hf b hb).1
  done := by
    intro X hP hw hK hc i pins s σ H E I hf st hg
    subst hP hw hK
    obtain ⟨⟨old, he⟩, hit⟩ := st
    obtain ⟨xs, hq, hx⟩ := hg
    obtain ⟨its, rv, tup, _⟩ := I.tuple hq
    have hl := rv.length
    obtain ⟨f0, f1, f2, f3, f4, f5⟩ := hf it (by simp)
    have D : Draws X.prog X.w X.A.in1 it [it, a] i (fun _ _ => False) (fun j h => j = i ∧ h.IsTupleIter it a i ∧ h.IsTuple a its.toArray) := {
      live := fun j h z => let ⟨_, ⟨o, q, _⟩, _⟩ := z; ⟨o, q⟩
      frame := fun j h h' z kp => ⟨z.1, z.2.1.at fun o q => kp it (by simp) o q, z.2.2.at fun o q => kp a (by simp) o q⟩
      item := fun j s' Q E' hj z => absurd z.1 (Nat.ne_of_lt hj)
      done := fun s' Q E' z fin => wpAny_nextOf_tuple_end (I.ok.hd hc) z.2.1 z.2.2 (by simp; omega) fin }
    exact wpAny_pyNext_enum_endD D he ⟨rfl, hit, tup⟩ fun h' eb => ⟨rfl, I.turned (t' := s.toks) (fun b o hb q => eb b o hb q) f0 f1 f3 f4 f5⟩
  self := fun A i s Q E st h => let ⟨⟨_, he⟩, _⟩ := st; wpAny_pyIter_enum he h
def iEnT (K : PySem.W.Frag) (ta : TA) : TI := fun σ H R => ta σ H fun vs H1 => ∃ a xs, vs = [.ref a] ∧ SqT K H1 a xs ∧ R (ItN K a) H1
theorem pi_enumT {X : Cx} {e : Expr} {ta : TA} {p pos tpos : Pos} {elts : List Expr} {kk : Nat} (hg : Gl X "enumerate") (hm : X.mg "enumerate" = none) (ha : PA X [e] ta) (hs : starEach [e] X.env = [(false, eval e X.env)] := by rfl) :
    PI X (.Tuple elts kk tpos) (.Call (.Name "enumerate" p) [e] [] pos) (iEnT X.K ta) := by
  refine ⟨fun pins s σ H R I want => Call_ (ld_blt I hg hm boot_enumerate (PyProof.Rows.callWith_type1 (thn (ha.run pos pins s σ H _ I want) fun us s1 got => ?_) hs rfl))⟩
  obtain ⟨vs, H1, J, rel, a, xs, ex, hq, q⟩ := got
  subst ex
  obtain ⟨u, eu, r1⟩ := vals1 rel
  subst eu
  obtain rfl : u = Value.ref a := r1
  obtain ⟨its, rv, tup, _⟩ := J.tuple hq
  have la : a < s1.heap.objs.size := let ⟨_, q, _⟩ := tup; Heap.lt_size q
  refine call_enumT (items := its.toArray) tup fun h' he hit kp => wpAny_pyIter_enum he ?_
  have J2 : Inv X pins σ H1 { s1 with heap := h' } := J.kept (t' := s1.toks) kp
  refine ⟨s1.heap.objs.size + 1, [s1.heap.objs.size + 1, s1.heap.objs.size], _, _, H1, rfl, J2, turn_enumT a (s1.heap.objs.size + 1) s1.heap.objs.size (Nat.succ_ne_self _) (Nat.ne_of_lt la) (Nat.ne_of_gt (Nat.lt_succ_of_lt la)), ⟨⟨.none, he⟩, hit⟩, fun b hb => ?_, q⟩
  have lb : s1.heap.objs.size ≤ b := by
    rcases List.mem_cons.mp hb with rfl | hb
    · exact Nat.le_succ _
    · rw [List.mem_singleton.mp hb]
      exact Nat.le_refl _
  exact J.fpOk lb (J.hok.fresh lb)
theorem walk_enumT {K : PySem.W.Frag} {a : Addr} {xs : List V} : Walk (ItN K a) xs.length (fun H => SqT K H a xs) (YPair (fun i => some (.int (i : Nat))) (fun i => xs[i]?)) :=
  ⟨fun i H hi h => ⟨xs, xs[i], h, List.getElem?_eq_getElem hi⟩, fun H h => ⟨xs, h, Nat.le_refl _⟩, fun i H x H' hi h y => by
    obtain ⟨T, z, e1, e2, e3, e4⟩ := y
    exact ⟨T, _, z, e1, e2, e3, rfl, e4 xs h⟩⟩
/-! ### the law: the least place that each comes to -/
def lf (f : Int → Int) (n : Nat) : List V := (rng n).map fun i => V.int (f i)
theorem lf_len (f : Int → Int) (n : Nat) : (lf f n).length = n := by unfold lf; rw [List.length_map, rng_length]
theorem lf_get? (f : Int → Int) {n j : Nat} (h : j < n) : (lf f n)[j]? = some (.int (f j)) := by
  unfold lf rng
  rw [List.map_map, List.getElem?_map, List.getElem?_range h]
  rfl
theorem lf_at (f : Int → Int) {n : Nat} {i : Int} (h0 : 0 ≤ i) (h1 : i < n) : atI (lf f n) i = some (.int (f i)) := by
  have e : ((i.toNat : Nat) : Int) = i := by omega
  refine atI_of h0 ?_
  rw [lf_get? f (by omega), e]
theorem lf_set (f : Int → Int) {n : Nat} {i y : Int} (h0 : 0 ≤ i) (h1 : i < n) : (lf f n).set i.toNat (.int y) = lf (fun x => if x = i then y else f x) n := by
  refine List.ext_getElem? fun j => ?_
  rw [List.getElem?_set]
  by_cases hj : j < n
  · by_cases e : i.toNat = j
    · rw [if_pos e, if_pos (by rw [lf_len]; omega), lf_get? _ hj, if_pos (by omega)]
    · rw [if_neg e, lf_get? _ hj, lf_get? _ hj, if_neg (by omega)]
  · have e : i.toNat ≠ j := by omega
    rw [if_neg e, List.getElem?_eq_none (by rw [lf_len]; omega), List.getElem?_eq_none (by rw [lf_len]; omega)]
theorem ixN_of {n : Nat} {i : Int} (h0 : 0 ≤ i) (h1 : i < n) : ixN n i = some i.toNat := by
  unfold ixN
  rw [if_pos (by omega), if_pos (by omega)]
/-! ### stems (mathematics) -/
theorem Rch.mono {ts ts' : List Tie} (h : ∀ t ∈ ts, t ∈ ts') {a b : Int} (r : Rch ts a b) : Rch ts' a b :=
  r.ind (fun x => Rch ts' a x) .refl fun x y k hx ad => by
    obtain ⟨t, ht, e⟩ := ad
    exact hx.trans (Rch.adj (k := k) ⟨t, h t ht, e⟩)
theorem rch_pq {ts : List Tie} {t : Tie} {p q : Int} (h : (p = t.one ∧ q = t.other) ∨ (p = t.other ∧ q = t.one)) : Rch (ts ++ [t]) p q := by
  refine Rch.adj (k := t.foe) ⟨t, List.mem_append_right _ (by simp), rfl, ?_⟩
  rcases h with ⟨h1, h2⟩ | ⟨h1, h2⟩
  · exact .inl ⟨h1.symm, h2.symm⟩
  · exact .inr ⟨h2.symm, h1.symm⟩
theorem rch_snoc {ts : List Tie} {t : Tie} {p q : Int} (h : (p = t.one ∧ q = t.other) ∨ (p = t.other ∧ q = t.one)) {a b : Int} : Rch (ts ++ [t]) a b ↔ Rch ts a b ∨ (Rch ts a p ∧ Rch ts q b) ∨ (Rch ts a q ∧ Rch ts p b) := by
  have up : ∀ {x y : Int}, Rch ts x y → Rch (ts ++ [t]) x y := fun r => r.mono fun t ht => List.mem_append_left _ ht
  constructor
  · intro r
    refine r.ind (fun x => Rch ts a x ∨ (Rch ts a p ∧ Rch ts q x) ∨ (Rch ts a q ∧ Rch ts p x)) (.inl .refl) fun x y k hx ad => ?_
    obtain ⟨t', ht, e1, e2⟩ := ad
    rcases List.mem_append.mp ht with ht | ht
    · have st : Rch ts x y := Rch.adj (k := k) ⟨t', ht, e1, e2⟩
      rcases hx with h1 | ⟨h1, h2⟩ | ⟨h1, h2⟩
      · exact .inl (h1.trans st)
      · exact .inr (.inl ⟨h1, h2.trans st⟩)
      · exact .inr (.inr ⟨h1, h2.trans st⟩)
    · rw [List.mem_singleton] at ht
      subst ht
      have xy : (x = p ∧ y = q) ∨ (x = q ∧ y = p) := by
        rcases e2 with ⟨e2, e3⟩ | ⟨e2, e3⟩ <;> rcases h with ⟨h1, h2⟩ | ⟨h1, h2⟩
        · exact .inl ⟨by omega, by omega⟩
        · exact .inr ⟨by omega, by omega⟩
        · exact .inr ⟨by omega, by omega⟩
        · exact .inl ⟨by omega, by omega⟩
      rcases xy with ⟨rfl, rfl⟩ | ⟨rfl, rfl⟩
      · rcases hx with h1 | ⟨h1, h2⟩ | ⟨h1, h2⟩
        · exact .inr (.inl ⟨h1, .refl⟩)
        · exact .inr (.inl ⟨h1, .refl⟩)
        · exact .inl h1
      · rcases hx with h1 | ⟨h1, h2⟩ | ⟨h1, h2⟩
        · exact .inr (.inr ⟨h1, .refl⟩)
        · exact .inl h1
        · exact .inr (.inr ⟨h1, .refl⟩)
  · rintro (h1 | ⟨h1, h2⟩ | ⟨h1, h2⟩)
    · exact up h1
    · exact (up h1).trans ((rch_pq h).trans (up h2))
    · exact (up h1).trans ((rch_pq h).symm.trans (up h2))
theorem rch_nil {a b : Int} (h : Rch [] a b) : a = b := h.ind (fun x => a = x) rfl fun x y k _ ad => by
  obtain ⟨t, ht, _⟩ := ad
  simp at ht
def tieN (ts : List Tie) (k : Nat) : Tie := ts.getD k ⟨0, 0, false⟩
theorem tieN_of {ts : List Tie} {k : Nat} {t : Tie} (h : ts[k]? = some t) : tieN ts k = t := by
  unfold tieN
  rw [List.getD_eq_getElem?_getD, h]
  rfl
open Classical in
noncomputable def stemB (ts : List Tie) (k : Nat) : Bool := decide (¬ Rch (ts.take k) (tieN ts k).one (tieN ts k).other)
noncomputable def stemsTo (ts : List Tie) (k : Nat) : List Int := (rng k).filter fun i => stemB ts i.toNat
theorem stemsTo_succ (ts : List Tie) (k : Nat) : stemsTo ts (k + 1) = stemsTo ts k ++ (if stemB ts k = true then [(k : Int)] else []) := by
  unfold stemsTo
  rw [rng_succ, List.filter_append, List.filter_cons, Int.toNat_natCast]
  rfl
theorem stemsTo_len (ts : List Tie) (k : Nat) : (stemsTo ts k).length ≤ k := by
  unfold stemsTo
  have := List.length_filter_le (fun i => stemB ts i.toNat) (rng k)
  rw [rng_length] at this
  exact this
open Classical in
theorem stem_iff {ts : List Tie} {k : Nat} {t : Tie} (h : ts[k]? = some t) : stemB ts k = true ↔ ¬ Rch (ts.take k) t.one t.other := by
  unfold stemB
  rw [tieN_of h]
  exact decide_eq_true_iff
theorem take_snoc {α : Type} {ts : List α} {k : Nat} {t : α} (h : ts[k]? = some t) : ts.take (k + 1) = ts.take k ++ [t] := by
  rw [List.take_add_one, h]
  rfl
/-- labels: alike just where ties lead -/
def Lab (ts : List Tie) (n : Nat) (g : Int → Int) : Prop := ∀ i j : Int, 0 ≤ i → i < n → 0 ≤ j → j < n → (g i = g j ↔ Rch ts i j)
def mrg (g : Int → Int) (old new : Int) : Int → Int := fun x => if g x = old then new else g x
theorem lab_nil (n : Nat) : Lab [] n (fun i => i) := fun i j _ _ _ _ => ⟨fun h => by rw [show i = j from h]; exact .refl, fun h => rch_nil h⟩
theorem lab_same {ts : List Tie} {n : Nat} {g : Int → Int} {t : Tie} (h : Lab ts n g) (ok : TieOk n t) (e : g t.one = g t.other) : Lab (ts ++ [t]) n g := fun i j i0 i1 j0 j1 => by
  obtain ⟨o1, o2, o3, o4, _⟩ := ok
  have r : Rch ts t.one t.other := (h _ _ o1 o2 o3 o4).mp e
  rw [rch_snoc (.inl ⟨rfl, rfl⟩), h i j i0 i1 j0 j1]
  constructor
  · exact .inl
  · rintro (h1 | ⟨h1, h2⟩ | ⟨h1, h2⟩)
    · exact h1
    · exact h1.trans (r.trans h2)
    · exact h1.trans (r.symm.trans h2)
theorem lab_step {ts : List Tie} {n : Nat} {g : Int → Int} {t : Tie} {p q : Int} (h : Lab ts n g) (ok : TieOk n t) (e : (p = t.one ∧ q = t.other) ∨ (p = t.other ∧ q = t.one)) : Lab (ts ++ [t]) n (mrg g (g p) (g q)) := fun i j i0 i1 j0 j1 => by
  have pr : (0 ≤ p ∧ p < n) ∧ (0 ≤ q ∧ q < n) := by
    obtain ⟨o1, o2, o3, o4, _⟩ := ok
    rcases e with ⟨rfl, rfl⟩ | ⟨rfl, rfl⟩
    · exact ⟨⟨o1, o2⟩, o3, o4⟩
    · exact ⟨⟨o3, o4⟩, o1, o2⟩
  obtain ⟨⟨p0, p1⟩, q0, q1⟩ := pr
  rw [rch_snoc e]
  unfold mrg
  have ip := h i p i0 i1 p0 p1
  have jp := h j p j0 j1 p0 p1
  have iq := h i q i0 i1 q0 q1
  have jq := h j q j0 j1 q0 q1
  have ij := h i j i0 i1 j0 j1
  by_cases hi : g i = g p <;> by_cases hj : g j = g p
  · rw [if_pos hi, if_pos hj]
    exact ⟨fun _ => .inl (ij.mp (hi.trans hj.symm)), fun _ => rfl⟩
  · rw [if_pos hi, if_neg hj]
    constructor
    · intro z
      exact .inr (.inl ⟨ip.mp hi, (jq.mp z.symm).symm⟩)
    · rintro (z | ⟨_, z⟩ | ⟨_, z⟩)
      · exact absurd ((ij.mpr z).symm.trans hi) hj
      · exact (jq.mpr z.symm).symm
      · exact absurd (jp.mpr z.symm) hj
  · rw [if_neg hi, if_pos hj]
    constructor
    · intro z
      exact .inr (.inr ⟨iq.mp z, (jp.mp hj).symm⟩)
    · rintro (z | ⟨z, _⟩ | ⟨z, _⟩)
      · exact absurd ((ij.mpr z).trans hj) hi
      · exact absurd (ip.mpr z) hi
      · exact iq.mpr z
  · rw [if_neg hi, if_neg hj]
    constructor
    · intro z
      exact .inl (ij.mp z)
    · rintro (z | ⟨z, _⟩ | ⟨_, z⟩)
      · exact ij.mpr z
      · exact absurd (ip.mpr z) hi
      · exact absurd (jp.mpr z.symm) hj
/-- heads: labels that are places of their own; how many -/
structure Heads (ts : List Tie) (n i : Nat) (g : Int → Int) : Prop where
  lab : Lab (ts.take i) n g
  rng : ∀ x : Int, 0 ≤ x → x < n → 0 ≤ g x ∧ g x < n
  idem : ∀ x : Int, 0 ≤ x → x < n → g (g x) = g x
  cnt : ((FF.rng n).filter fun x => decide (g x = x)).length + (stemsTo ts i).length = n
theorem heads_nil (ts : List Tie) (n : Nat) : Heads ts n 0 (fun i => i) := by
  refine ⟨by rw [List.take_zero]; exact lab_nil n, fun x h0 h1 => ⟨h0, h1⟩, fun x _ _ => rfl, ?_⟩
  have e : ((FF.rng n).filter fun x => decide (x = x)) = FF.rng n := by
    rw [List.filter_eq_self]
    intro x _
    exact decide_eq_true rfl
  show ((FF.rng n).filter fun x => decide (x = x)).length + 0 = n
  rw [e, rng_length, Nat.add_zero]
theorem filter_drop {p q : Int → Bool} {h : Int} : ∀ {l : List Int}, l.Nodup → h ∈ l → p h = true → (∀ x ∈ l, q x = (p x && decide (x ≠ h))) → (l.filter q).length + 1 = (l.filter p).length
  | x :: l, nd, hm, hp, hq => by
    rw [List.nodup_cons] at nd
    have hx := hq x (by simp)
    rw [List.filter_cons, List.filter_cons, hx]
    by_cases e : x = h
    · subst e
      have same : l.filter q = l.filter p := List.filter_congr fun y hy => by
        rw [hq y (List.mem_cons_of_mem _ hy), decide_eq_true (show y ≠ x from fun z => nd.1 (by rw [← z]; exact hy)), Bool.and_true]
      rw [same, hp]
      simp
    · have hm' : h ∈ l := (List.mem_cons.mp hm).elim (fun z => absurd z.symm e) id
      have ih := filter_drop (l := l) nd.2 hm' hp fun y hy => hq y (List.mem_cons_of_mem _ hy)
      rw [decide_eq_true (show x ≠ h from e), Bool.and_true]
      cases p x
      · simpa using ih
      · simp
        omega
theorem heads_same {ts : List Tie} {n i : Nat} {g : Int → Int} {t : Tie} (h : Heads ts n i g) (et : ts[i]? = some t) (ok : TieOk n t) (e : g t.one = g t.other) : Heads ts n (i + 1) g := by
  refine ⟨by rw [take_snoc et]; exact lab_same h.lab ok e, h.rng, h.idem, ?_⟩
  have no : ¬ stemB ts i = true := fun z => (stem_iff et).mp z ((h.lab _ _ ok.1 ok.2.1 ok.2.2.1 ok.2.2.2.1).mp e)
  rw [stemsTo_succ, if_neg no, List.append_nil]
  exact h.cnt
theorem heads_step {ts : List Tie} {n i : Nat} {g : Int → Int} {t : Tie} {p q : Int} (h : Heads ts n i g) (et : ts[i]? = some t) (ok : TieOk n t) (e : (p = t.one ∧ q = t.other) ∨ (p = t.other ∧ q = t.one)) (ne : g p ≠ g q) : Heads ts n (i + 1) (mrg g (g p) (g q)) := by
  have pr : (0 ≤ p ∧ p < n) ∧ (0 ≤ q ∧ q < n) := by
    obtain ⟨o1, o2, o3, o4, _⟩ := ok
    rcases e with ⟨rfl, rfl⟩ | ⟨rfl, rfl⟩
    · exact ⟨⟨o1, o2⟩, o3, o4⟩
    · exact ⟨⟨o3, o4⟩, o1, o2⟩
  obtain ⟨⟨p0, p1⟩, q0, q1⟩ := pr
  have gp := h.rng p p0 p1
  have gq := h.rng q q0 q1
  have ip := h.idem p p0 p1
  have iq := h.idem q q0 q1
  refine ⟨by rw [take_snoc et]; exact lab_step h.lab ok e, fun x x0 x1 => ?_, fun x x0 x1 => ?_, ?_⟩
  · unfold mrg
    split
    · exact gq
    · exact h.rng x x0 x1
  · have ix := h.idem x x0 x1
    by_cases hx : g x = g p
    · have e1 : mrg g (g p) (g q) x = g q := if_pos hx
      rw [e1]
      show (if g (g q) = g p then g q else g (g q)) = g q
      rw [iq, if_neg (Ne.symm ne)]
    · have e1 : mrg g (g p) (g q) x = g x := if_neg hx
      rw [e1]
      show (if g (g x) = g p then g q else g (g x)) = g x
      rw [ix, if_neg hx]
  · have yes : stemB ts i = true := (stem_iff et).mpr fun z => by
      have hl := (h.lab _ _ ok.1 ok.2.1 ok.2.2.1 ok.2.2.2.1).mpr z
      rcases e with ⟨rfl, rfl⟩ | ⟨rfl, rfl⟩
      · exact ne hl
      · exact ne hl.symm
    have drop := filter_drop (p := fun x => decide (g x = x)) (q := fun x => decide (mrg g (g p) (g q) x = x)) (h := g p) (l := FF.rng n) ((rng_rising n).imp fun h => by omega) (mem_rng.mpr gp) (decide_eq_true ip) (fun x hx => ?_)
    · rw [stemsTo_succ, if_pos yes, List.length_append]
      have := h.cnt
      simp only [List.length_cons, List.length_nil]
      omega
    · have xr := mem_rng.mp hx
      rw [Bool.eq_iff_iff, Bool.and_eq_true, decide_eq_true_iff, decide_eq_true_iff, decide_eq_true_iff]
      show (if g x = g p then g q else g x) = x ↔ _
      by_cases hx : g x = g p
      · rw [if_pos hx]
        constructor
        · intro z
          exact absurd (by rw [← z, iq] at hx; exact hx.symm) ne
        · rintro ⟨z1, z2⟩
          exact absurd (z1.symm.trans hx) z2
      · rw [if_neg hx]
        exact ⟨fun z => ⟨z, fun y => hx (by rw [y]; exact ip)⟩, fun z => z.1⟩
/-- stems are told by the places of the ties alone -/
theorem rch_frames : ∀ {ts us : List Tie}, ts.length = us.length → (∀ (i : Nat) t u, ts[i]? = some t → us[i]? = some u → (u.one = t.one ∧ u.other = t.other) ∨ (u.one = t.other ∧ u.other = t.one)) → ∀ {a b : Int}, Rch ts a b → Rch us a b := by
  intro ts us hl h a b r
  refine r.ind (fun x => Rch us a x) .refl fun x y k hx ad => ?_
  obtain ⟨t, ht, _, e⟩ := ad
  obtain ⟨i, hi, rfl⟩ := List.getElem_of_mem ht
  have hu : us[i]? = some us[i] := List.getElem?_eq_getElem (by omega)
  have w := h i _ _ (List.getElem?_eq_getElem hi) hu
  refine hx.trans (Rch.adj (k := us[i].foe) ⟨us[i], List.getElem_mem _, rfl, ?_⟩)
  rcases w with ⟨w1, w2⟩ | ⟨w1, w2⟩ <;> rcases e with ⟨e1, e2⟩ | ⟨e1, e2⟩
  · exact .inl ⟨by omega, by omega⟩
  · exact .inr ⟨by omega, by omega⟩
  · exact .inr ⟨by omega, by omega⟩
  · exact .inl ⟨by omega, by omega⟩
def Framed (ts us : List Tie) : Prop := ts.length = us.length ∧ ∀ (i : Nat) t u, ts[i]? = some t → us[i]? = some u → (u.one = t.one ∧ u.other = t.other) ∨ (u.one = t.other ∧ u.other = t.one)
theorem Framed.symm {ts us : List Tie} (h : Framed ts us) : Framed us ts := ⟨h.1.symm, fun i u t e1 e2 => by
  rcases h.2 i t u e2 e1 with ⟨w1, w2⟩ | ⟨w1, w2⟩
  · exact .inl ⟨w1.symm, w2.symm⟩
  · exact .inr ⟨w2.symm, w1.symm⟩⟩
theorem Framed.take {ts us : List Tie} (h : Framed ts us) (k : Nat) : Framed (ts.take k) (us.take k) := by
  refine ⟨by rw [List.length_take, List.length_take, h.1], fun i t u e1 e2 => ?_⟩
  by_cases hk : i < k
  · rw [List.getElem?_take_of_lt hk] at e1 e2
    exact h.2 i t u e1 e2
  · rw [List.getElem?_take] at e1
    rw [if_neg hk] at e1
    cases e1
theorem Framed.map {ts : List Tie} {f : Tie → Tie} (h : ∀ t ∈ ts, ((f t).one = t.one ∧ (f t).other = t.other) ∨ ((f t).one = t.other ∧ (f t).other = t.one)) : Framed ts (ts.map f) := by
  refine ⟨by rw [List.length_map], fun i t u e1 e2 => ?_⟩
  rw [List.getElem?_map, e1] at e2
  cases e2
  exact h t (List.mem_of_getElem? e1)
theorem stems_framed {ts us : List Tie} (h : Framed ts us) : stemsTo us us.length = stemsTo ts ts.length := by
  unfold stemsTo
  rw [← h.1]
  refine List.filter_congr fun i hi => ?_
  have ir := mem_rng.mp hi
  have e1 : ts[i.toNat]? = some ts[i.toNat] := List.getElem?_eq_getElem (by omega)
  have l := h.1
  have e2 : us[i.toNat]? = some us[i.toNat] := List.getElem?_eq_getElem (by omega)
  have ht := h.take i.toNat
  rw [Bool.eq_iff_iff, stem_iff e1, stem_iff e2]
  have both : ∀ a b : Int, Rch (ts.take i.toNat) a b ↔ Rch (us.take i.toNat) a b := fun a b => ⟨fun r => rch_frames ht.1 ht.2 r, fun r => rch_frames ht.symm.1 ht.symm.2 r⟩
  rcases h.2 _ _ _ e1 e2 with ⟨w1, w2⟩ | ⟨w1, w2⟩
  · rw [w1, w2, both]
  · rw [w1, w2, both]
    exact ⟨fun z y => z y.symm, fun z y => z y.symm⟩
theorem stemsTo_rising (ts : List Tie) (k : Nat) : (stemsTo ts k).Pairwise (· < ·) := (rng_rising k).filter _
theorem stemsTo_mem {ts : List Tie} {k : Nat} {i : Int} : i ∈ stemsTo ts k ↔ (0 ≤ i ∧ i < k) ∧ stemB ts i.toNat = true := by
  unfold stemsTo
  rw [List.mem_filter, mem_rng]
theorem stems_own (ts : List Tie) : stemsTo ((stemsTo ts ts.length).map fun i => tieN ts i.toNat) (stemsTo ts ts.length).length = rng (stemsTo ts ts.length).length := by
  generalize hS : stemsTo ts ts.length = S
  unfold stemsTo
  rw [List.filter_eq_self]
  intro j hj
  have jr := mem_rng.mp hj
  have hjl : j.toNat < S.length := by omega
  have ej : (S.map fun i => tieN ts i.toNat)[j.toNat]? = some (tieN ts S[j.toNat].toNat) := by
    rw [List.getElem?_map, List.getElem?_eq_getElem hjl]
    rfl
  have hm : S[j.toNat] ∈ stemsTo ts ts.length := by rw [hS]; exact List.getElem_mem _
  obtain ⟨⟨m0, m1⟩, mb⟩ := stemsTo_mem.mp hm
  have et : ts[S[j.toNat].toNat]? = some (tieN ts S[j.toNat].toNat) := by
    have h : S[j.toNat].toNat < ts.length := by omega
    rw [List.getElem?_eq_getElem h, tieN_of (List.getElem?_eq_getElem h)]
  rw [stem_iff ej]
  rw [stem_iff et] at mb
  refine fun r => mb (r.mono fun t ht => ?_)
  rw [← List.map_take, List.mem_map] at ht
  obtain ⟨x, hx, rfl⟩ := ht
  obtain ⟨a, ha, rfl⟩ := List.getElem_of_mem hx
  rw [List.length_take] at ha
  rw [List.getElem_take]
  have hx' : S[a] ∈ stemsTo ts ts.length := by rw [hS]; exact List.getElem_mem _
  obtain ⟨⟨x0, x1⟩, _⟩ := stemsTo_mem.mp hx'
  have rise : S.Pairwise (· < ·) := by rw [← hS]; exact stemsTo_rising _ _
  have lt : S[a] < S[j.toNat] := List.pairwise_iff_getElem.mp rise a j.toNat (by omega) hjl (by omega)
  have h : S[a].toNat < ts.length := by omega
  rw [tieN_of (List.getElem?_eq_getElem h)]
  rw [List.mem_iff_getElem]
  exact ⟨S[a].toNat, by rw [List.length_take]; omega, by rw [List.getElem_take]⟩
theorem Same.mut {H H' : Hp} {a : Addr} {o : HO} (s : Same H H') (h : H a = none) : Same H (upd H' a o) := fun b x e => by
  rw [upd_ne (ne_of_none e h)]
  exact s b x e
theorem paired_set {α β : Type} {F : α → β → Prop} : ∀ {l : List α} {m : List β} {j : Nat} {x : α} {y : β}, Paired F l m → F x y → Paired F (l.set j x) (m.set j y)
  | _, _, _, _, _, .nil, _ => by simp; exact .nil
  | _, _, 0, _, _, .cons _ t, h => .cons h t
  | _, _, j + 1, _, _, .cons r t, h => .cons r (paired_set (j := j) t h)
/-! ### k15: the web -/
def spKind15 : Sp := fun vs H Q _ => ∃ (S : Addr) (ys : List Int) (x y : Int), vs = [.ref S, .int x, .int y] ∧ H S = some (.lst (ys.map V.int)) ∧ (0 ≤ x ∧ x < (ys.length : Int)) ∧ (0 ≤ y ∧ y < (ys.length : Int)) ∧ ∀ (b : Bool) H', Same H H' → Q (.str (kindS b)) H'
def spEnds : Sp := fun vs H Q _ => ∃ (d L : Addr) (b : Nat) (n : Nat) (us : List V) (ts : List Tie), vs = [.ref d, .int n, .ref L] ∧ Well H d b ∧ b < 2 ^ 55 ∧ 2 ≤ n ∧ n ≤ 40 ∧ H L = some (.lst us) ∧ L ≠ d ∧ us.length ≤ 200 ∧ Paired (TieV H) us ts ∧ (∀ t ∈ ts, TieOk n t) ∧ ∀ r x y H', H' r = some (.tup [.int x, .int y]) → TieOk n ⟨x, y, false⟩ → Well H' d (b + 5) → Kp d d H H' → Q (.ref r) H'
theorem pickK (v : Int) (h0 : 0 ≤ v) (h1 : v < 2) : ∃ fo : Bool, atI [V.str "friend", V.str "foe"] v = some (.str (kindS fo)) := by
  have h01 : v = 0 ∨ v = 1 := by omega
  rcases h01 with e | e <;> subst e
  · exact ⟨false, rfl⟩
  · exact ⟨true, rfl⟩
section
variable {P : Program} {w : World} {K : PySem.W.Frag} {mg : Str → Option Value} {base : Heap}
theorem ok_l_kind {f : Addr} {fd : FuncData} (F : Fun K "_law_kind" "_law_kind" s_l_kind f fd) (M : Free mg) : FnOk P w K mg base CX0 1 f fd ["_law_sides", "_law_one", "_law_other"] spKind15 := by
  refine F.ok sc_l_kind (fun vs H Q E h => ?_) (fun cdv A outer s H vs Q E hr h => ?_)
  · obtain ⟨S, ys, x, y, rfl, _⟩ := h
    rfl
  · obtain ⟨S, ys, x, y, rfl, hS, hx, hy, q⟩ := h
    refine ⟨_, (pss_one (ps_ret (pe_ix ix_list (pe_lst (pa_cons pe_str (pa_cons pe_str pa_nil))) (pe_callTy call_int1 (by rfl) M.int (by decide +kernel) (pa_cons (pe_cmpR op_ne (pe_ix ix_list (pv 0) (pv 1) (fun _ _ => rfl)) (pe_ix ix_list (pv 0) (pv 2) (fun _ _ => rfl)) (nomark _)) pa_nil)) (fun _ _ => rfl)))), ?_⟩
    refine ⟨by show 2 ≤ sizeLine; decide, fun p np => ?_⟩
    have ep := same_new (o := .lst [.str "friend", .str "foe"]) np
    obtain ⟨a, _, _, ea⟩ := atI_ints (xs := ys) hx.1 hx.2
    obtain ⟨b, _, _, eb⟩ := atI_ints (xs := ys) hy.1 hy.2
    refine ⟨.ref S, rfl, .int x, rfl, S, _, x, _, rfl, rfl, SqL.of (ep _ _ hS), ea, .ref S, rfl, .int y, rfl, S, _, y, _, rfl, rfl, SqL.of (ep _ _ hS), eb, rfl, .inr ⟨_, rfl, p, _, _, _, rfl, rfl, SqL.of upd_same, pick2 _ _ _, ?_⟩⟩
    generalize (!decide (V.int a = V.int b)) = c
    have := q c _ ep
    cases c <;> exact this
theorem ok_l_ends {f : Addr} {fd : FuncData} (F : Fun K "_law_ends" "_law_ends" s_l_ends f fd) (M : Free mg) (D_l_draw : Df P w K mg base 1 "_law_draw" ["_law_well_here", "_law_many"] spDraw) : FnOk P w K mg base CX0 2 f fd ["_law_well_here", "_law_many", "_law_ties"] spEnds := by
  obtain ⟨f_l_draw, fd_l_draw, G_l_draw, g_l_draw, k_l_draw, b_l_draw⟩ := D_l_draw
  refine F.ok sc_l_ends (fun vs H Q E h => ?_) (fun cdv A outer s H vs Q E hr h => ?_)
  · obtain ⟨d, L, b, n, us, ts, rfl, _⟩ := h
    rfl
  · obtain ⟨d, L, b, n, us, ts, rfl, hD, hB, n2, n40, hL, hLd, few, hp, ok, q⟩ := h
    refine ⟨_, (pss_cons (ps_set (i := 3) sc_l_ends.nd rfl (.inl rfl) (pe_call G_l_draw (hr.mono (by decide)) (by rfl) g_l_draw k_l_draw b_l_draw .nil pass0 (pa_cons (pv 0) (pa_cons (pv 1) pa_nil))))
      (pss_cons (ps_set (i := 4) sc_l_ends.nd rfl (.inl rfl) (pe_op op_mod (pe_op op_add (pe_op op_add (pv 3) pe_int) (pe_call G_l_draw (hr.mono (by decide)) (by rfl) g_l_draw k_l_draw b_l_draw .nil pass0 (pa_cons (pv 0) (pa_cons (pe_op op_sub (pv 1) pe_int) pa_nil)))) (pv 1)))
      (Evl.pss_cut (ps_if (PW.pt (pw_and (pt_cmpR (op_neE hr.units0) (pv 2) (pe_lst pa_nil) (nomark _)) (pw_and1 (pt_cmpR op_eq (pe_call G_l_draw (hr.mono (by decide)) (by rfl) g_l_draw k_l_draw b_l_draw .nil pass0 (pa_cons (pv 0) (pa_cons pe_int pa_nil))) pe_int (nomark _)))))
        (pss_cons (ps_asg (pe_slice sl_tupU (pe_ix ix_list (pv 2) (pe_call G_l_draw (hr.mono (by decide)) (by rfl) g_l_draw k_l_draw b_l_draw .nil pass0 (pa_cons (pv 0) (pa_cons (pe_callB call_len_seq (by rfl) M.len PySem.boot_len (pa_cons (pv 2) pa_nil)) pa_nil))) (fun _ _ => rfl)) po_none (po_some pe_int)) (pg_tup rfl (pgs_cons (pg_name (i := 3) sc_l_ends.nd rfl (.inl rfl)) (pgs_cons (pg_name (i := 4) sc_l_ends.nd rfl (.inl rfl)) pgs_nil))))
        (pss_one (ps_if (pt_cmpR op_eq (pe_call G_l_draw (hr.mono (by decide)) (by rfl) g_l_draw k_l_draw b_l_draw .nil pass0 (pa_cons (pv 0) (pa_cons pe_int pa_nil))) pe_int (nomark _))
          (pss_one (ps_par (i := 3) (j := 4) rfl sc_l_ends.nd rfl rfl (by decide) rfl rfl (pa_cons (pv 4) (pa_cons (pv 3) pa_nil)) rfl))
          pss_nil)))
        pss_nil)
      (pss_one (ps_ret (pe_tup (pa_cons (pv 3) (pa_cons (pv 4) pa_nil)))))))), ?_⟩
    have lu : us.length = ts.length := Paired.length hp
    refine ⟨.ref d, rfl, .int n, rfl, d, b, n, rfl, hD, by omega, by omega, by omega, fun v1 H1 a1 b1 D1 K1 => ?_⟩
    refine ⟨.int v1, rfl, v1, 1, rfl, rfl, .ref d, rfl, .int n, rfl, n, 1, rfl, rfl, d, _, (n : Int) - 1, rfl, D1, by omega, by omega, by omega, fun v2 H2 a2 b2 D2 K2 => ⟨v1 + 1, v2, rfl, rfl, .int n, rfl, _, n, rfl, rfl, show (0 : Int) < n by omega, ?_⟩⟩
    have ok1 : TieOk n ⟨v1, (v1 + 1 + v2) % n, false⟩ := ⟨a1, b1, (mod_rng (by omega)).1, (mod_rng (by omega)).2, other_ne a1 b1 a2 b2⟩
    have K12 := K1.trans K2
    have tk2 := (K1.tk hD).trans (K2.tk D1)
    have hL2 := K12 _ _ hLd hLd hL
    have hp2 := ties_tk tk2 hp
    refine ⟨fun σ' H' => ∃ x y : Int, σ' = [some (.ref d), some (.int n), some (.ref L), some (.int x), some (.int y)] ∧ TieOk n ⟨x, y, false⟩ ∧ Well H' d (b + 5) ∧ Kp d d H H', ?_, ?_⟩
    · refine ⟨.ref L, rfl, Nat.zero_le _, fun Z nZ => ⟨L, Z, us, rfl, rfl, SqL.of (same_new nZ _ _ hL2), SqL.of upd_same, _, rfl, ?_⟩⟩
      have eZ := same_new (o := .lst []) nZ
      by_cases hu : us = []
      · subst hu
        exact ⟨_, _, rfl, ok1, (D2.same eZ).mono (by omega), K12.trans (Same.kp eZ)⟩
      have hpos : 0 < us.length := List.length_pos_iff.mpr hu
      rw [show (!us.isEmpty) = true from by cases us; exact absurd rfl hu; rfl]
      refine ⟨.ref d, rfl, d, _, 4, rfl, D2.same eZ, by omega, by decide, by decide, fun v3 H3 a3 b3 D3 K3 => ⟨rfl, _, rfl, ?_⟩⟩
      have K13 := (K12.trans (Same.kp eZ)).trans K3
      have hL3 := K13 _ _ hLd hLd hL
      have hp3 := ties_tk (K3.tk (D2.same eZ)) (ties_tk (Same.tk eZ) hp2)
      refine ite2 (fun _ => ?_) (fun _ => ⟨_, _, rfl, ok1, D3.mono (by omega), K13⟩)
      refine ⟨.ref L, rfl, .ref d, rfl, .ref L, rfl, L, us, rfl, .inl (SqL.of hL3), d, _, (us.length : Int), rfl, D3, by omega, by omega, by omega, fun v4 H4 a4 b4 D4 K4 => ?_⟩
      have K14 := K13.trans K4
      have hL4 := K14 _ _ hLd hLd hL
      have hp4 := ties_tk (K4.tk D3) hp3
      obtain ⟨u, e1, e2⟩ := getI a4 b4
      obtain ⟨t, e3, c, rfl, hc⟩ := Paired.at hp4 e2
      have okt := ok t (List.mem_of_getElem? e3)
      refine ⟨L, us, v4, .ref c, rfl, rfl, SqL.of hL4, e1, 2, rfl, c, _, rfl, hc, fun r5 H5 s5 h5 => ?_⟩
      have h5 : H5 r5 = some (.tup [.int t.one, .int t.other]) := h5
      refine ⟨r5, _, rfl, SqT.of h5, rfl, _, _, rfl, _, _, rfl, rfl, ?_⟩
      refine ⟨.ref d, rfl, d, _, 2, rfl, D4.same s5, by omega, by decide, by decide, fun v6 H6 a6 b6 D6 K6 => ⟨rfl, _, rfl, ?_⟩⟩
      have K16 := (K14.trans (Same.kp s5)).trans K6
      refine ite2 (fun _ => ?_) (fun _ => ⟨_, _, rfl, okt, D6, K16⟩)
      exact ⟨_, rfl, _, rfl, _, _, rfl, _, _, rfl, ⟨okt.2.2.1, okt.2.2.2.1, okt.1, okt.2.1, Ne.symm okt.2.2.2.2⟩, D6, K16⟩
    rintro σ' H3 ⟨x, y, rfl, okt, D3, K3⟩
    refine ⟨.int x, rfl, .int y, rfl, by show 2 ≤ sizeLine; decide, fun r nr => ?_⟩
    have er := same_new (o := .tup [.int x, .int y]) nr
    exact q r x y _ upd_same okt (D3.same er) (K3.trans (Same.kp er))
theorem ok_l_web {f : Addr} {fd : FuncData} (F : Fun K "_law_web" "_law_web" s_l_web f fd) (M : Free mg) (D_l_draw : Df P w K mg base 1 "_law_draw" ["_law_well_here", "_law_many"] spDraw) (D_l_ends : Df P w K mg base 2 "_law_ends" ["_law_well_here", "_law_many", "_law_ties"] spEnds) (D_l_kind : Df P w K mg base 1 "_law_kind" ["_law_sides", "_law_one", "_law_other"] spKind15) : FnOk P w K mg base CX0 3 f fd ["_law_well_here"] spWeb := by
  obtain ⟨f_l_draw, fd_l_draw, G_l_draw, g_l_draw, k_l_draw, b_l_draw⟩ := D_l_draw
  obtain ⟨f_l_ends, fd_l_ends, G_l_ends, g_l_ends, k_l_ends, b_l_ends⟩ := D_l_ends
  obtain ⟨f_l_kind, fd_l_kind, G_l_kind, g_l_kind, k_l_kind, b_l_kind⟩ := D_l_kind
  refine F.ok sc_l_web (fun vs H Q E h => ?_) (fun cdv A outer s H vs Q E hr h => ?_)
  · obtain ⟨d, b, rfl, _⟩ := h
    rfl
  · obtain ⟨d, b, rfl, hD, hB, q⟩ := h
    refine ⟨_, (Evl.pss_cut (ps_set (i := 1) sc_l_web.nd rfl (.inl rfl) (pe_op op_add pe_int (pe_call G_l_draw (hr.mono (by decide)) (by rfl) g_l_draw k_l_draw b_l_draw .nil pass0 (pa_cons (pv 0) (pa_cons pe_int pa_nil)))))
      (pss_cons (ps_set (i := 2) sc_l_web.nd rfl (.inl rfl) (pe_call G_l_draw (hr.mono (by decide)) (by rfl) g_l_draw k_l_draw b_l_draw .nil pass0 (pa_cons (pv 0) (pa_cons pe_int pa_nil))))
      (Evl.pss_cut (ps_if (pt_cmpR op_eq (pe_call G_l_draw (hr.mono (by decide)) (by rfl) g_l_draw k_l_draw b_l_draw .nil pass0 (pa_cons (pv 0) (pa_cons pe_int pa_nil))) pe_int (nomark _))
        (pss_cons (ps_set (i := 1) sc_l_web.nd rfl (.inl rfl) (pe_op op_add pe_int (pe_call G_l_draw (hr.mono (by decide)) (by rfl) g_l_draw k_l_draw b_l_draw .nil pass0 (pa_cons (pv 0) (pa_cons pe_int pa_nil)))))
        (pss_one (ps_set (i := 2) sc_l_web.nd rfl (.inl rfl) (pe_call G_l_draw (hr.mono (by decide)) (by rfl) g_l_draw k_l_draw b_l_draw .nil pass0 (pa_cons (pv 0) (pa_cons pe_int pa_nil))))))
        pss_nil)
      (pss_cons (ps_set (i := 3) sc_l_web.nd rfl (.inl rfl) (pe_call G_l_draw (hr.mono (by decide)) (by rfl) g_l_draw k_l_draw b_l_draw .nil pass0 (pa_cons (pv 0) (pa_cons pe_int pa_nil))))
      (Evl.pss_cut (ps_setLc (i := 4) (own := [("_law_place", 5)]) (g := (gName 5)) (tt := tYes) rfl sc_l_web.nd rfl rfl (sw_true rfl rfl rfl (by decide +kernel)) (pi_range1 (by rfl) M.range (pa_cons (pv 1) pa_nil)) (blkOk_by (N := N_l_web) (sc := defScope s_l_web) (own := [("_law_place", 5)]) (by decide +kernel)) (fun _ _ _ _ _ => (pg_name (i := 5) sc_l_web.nd rfl (.inl rfl))) (fun _ _ _ _ _ => pts_nil) (fun _ _ _ _ _ => (pe_call G_l_draw (hr.mono (by decide)) (by rfl) g_l_draw k_l_draw b_l_draw .nil pass0 (pa_cons (pv 0) (pa_cons pe_int pa_nil)))))
      (pss_cons (ps_set (i := 6) sc_l_web.nd rfl (.inl rfl) (pe_lst pa_nil))
      (Evl.pss_cut (ps_for PassesOwn.never rfl (pi_range1 (by rfl) M.range (pa_cons (pe_op op_mul (pv 2) (pe_callTy call_int1 (by rfl) M.int (by decide +kernel) (pa_cons (pe_cmpR op_gt (pv 1) pe_int (nomark _)) pa_nil))) pa_nil)) (pg_name (i := 7) sc_l_web.nd rfl (.inl rfl))
        (Evl.pss_cut (ps_asg (pe_call G_l_ends (hr.mono (by decide)) (by rfl) g_l_ends k_l_ends b_l_ends .nil pass0 (pa_cons (pv 0) (pa_cons (pv 1) (pa_cons (pv 6) pa_nil)))) (pg_tup rfl (pgs_cons (pg_name (i := 8) sc_l_web.nd rfl (.inl rfl)) (pgs_cons (pg_name (i := 9) sc_l_web.nd rfl (.inl rfl)) pgs_nil))))
        (pss_cons (ps_set (i := 10) sc_l_web.nd rfl (.inl rfl) (pe_call G_l_kind (hr.mono (by decide)) (by rfl) g_l_kind k_l_kind b_l_kind .nil pass0 (pa_cons (pv 4) (pa_cons (pv 8) (pa_cons (pv 9) pa_nil)))))
        (Evl.pss_cut (ps_if (pt_cmpR op_lt (pv 3) pe_int (nomark _))
          (pss_one (ps_set (i := 10) sc_l_web.nd rfl (.inl rfl) (pe_ix ix_list (pe_lst (pa_cons pe_str (pa_cons pe_str pa_nil))) (pe_call G_l_draw (hr.mono (by decide)) (by rfl) g_l_draw k_l_draw b_l_draw .nil pass0 (pa_cons (pv 0) (pa_cons pe_int pa_nil))) (fun _ _ => rfl))))
          pss_nil)
        (pss_one (ps_expr (pe_bm PySem.F.plainAttrs_list PySem.F.slot_list_append PySem.F.type_list_append mt_append (pv 6) (pa_cons (pe_tup (pa_cons (pv 8) (pa_cons (pv 9) (pa_cons (pv 10) pa_nil)))) pa_nil))))))))
      (Evl.pss_cut (ps_if (PW.pt (pw_and (pt_cmpR op_eq (pv 3) pe_int (nomark _)) (pw_and1 (pt_cmpR (op_neE hr.units0) (pv 6) (pe_lst pa_nil) (nomark _)))))
        (pss_cons (ps_set (i := 11) sc_l_web.nd rfl (.inl rfl) (pe_call G_l_draw (hr.mono (by decide)) (by rfl) g_l_draw k_l_draw b_l_draw .nil pass0 (pa_cons (pv 0) (pa_cons (pe_callB call_len_seq (by rfl) M.len PySem.boot_len (pa_cons (pv 6) pa_nil)) pa_nil))))
        (pss_cons (ps_asg (pe_ix ix_list (pv 6) (pv 11) (fun _ _ => rfl)) (pg_tup rfl (pgs_cons (pg_name (i := 8) sc_l_web.nd rfl (.inl rfl)) (pgs_cons (pg_name (i := 9) sc_l_web.nd rfl (.inl rfl)) (pgs_cons (pg_name (i := 10) sc_l_web.nd rfl (.inl rfl)) pgs_nil)))))
        (pss_one (ps_asg (pe_tup (pa_cons (pv 8) (pa_cons (pv 9) (pa_cons (pe_ix ix_list (pe_lst (pa_cons pe_str (pa_cons pe_str pa_nil))) (pe_callTy call_int1 (by rfl) M.int (by decide +kernel) (pa_cons (pe_cmpR op_eq (pv 10) pe_str (nomark _)) pa_nil)) (fun _ _ => rfl)) pa_nil)))) (pg_sub (pv 6) (pv 11) set_list)))))
        pss_nil)
      (pss_one (ps_ret (pe_tup (pa_cons (pv 1) (pa_cons (pe_callTy call_tuple_of (by rfl) M.tuple (by decide +kernel) (pa_cons (pv 6) pa_nil)) pa_nil))))))))))))), ?_⟩
    refine ⟨fun σ' H' => ∃ n : Nat, σ' = [some (.ref d), some (.int n), none, none, none, none, none, none, none, none, none, none] ∧ 1 ≤ n ∧ n ≤ 40 ∧ Well H' d (b + 1) ∧ Kp d d H H', ?_, ?_⟩
    · refine ⟨.ref d, rfl, d, b, 6, rfl, hD, by omega, by decide, by decide, fun v H1 a1 b1 D1 K1 => ⟨1, v, rfl, rfl, (1 + v).toNat, ?_, by omega, by omega, D1, K1⟩⟩
      rw [show (((1 + v).toNat : Nat) : Int) = 1 + v from by omega]
      rfl
    rintro σ' H1 ⟨n0, rfl, n01, n02, D1, K1⟩
    refine ⟨.ref d, rfl, d, _, 13, rfl, D1, by omega, by decide, by decide, fun z0 H2 a2 b2 D2 K2 => ?_⟩
    refine ⟨fun σ' H' => ∃ (n : Nat) (z : Int), σ' = [some (.ref d), some (.int n), some (.int z), none, none, none, none, none, none, none, none, none] ∧ 1 ≤ n ∧ n ≤ 40 ∧ 0 ≤ z ∧ z ≤ 120 ∧ Well H' d (b + 5) ∧ Kp d d H H', ?_, ?_⟩
    · refine ⟨.ref d, rfl, d, _, 8, rfl, D2, by omega, by decide, by decide, fun v3 H3 a3 b3 D3 K3 => ⟨rfl, _, rfl, ?_⟩⟩
      have K13 := (K1.trans K2).trans K3
      refine ite2 (fun _ => ?_) (fun _ => ⟨n0, z0, rfl, n01, n02, a2, by omega, D3.mono (by omega), K13⟩)
      refine ⟨.ref d, rfl, d, _, 40, rfl, D3, by omega, by decide, by decide, fun v4 H4 a4 b4 D4 K4 => ⟨1, v4, rfl, rfl, ?_⟩⟩
      refine ⟨.ref d, rfl, d, _, 121, rfl, D4, by omega, by decide, by decide, fun v5 H5 a5 b5 D5 K5 => ⟨(1 + v4).toNat, v5, ?_, by omega, by omega, a5, by omega, D5, (K13.trans K4).trans K5⟩⟩
      rw [show (((1 + v4).toNat : Nat) : Int) = 1 + v4 from by omega]
      rfl
    clear D1 K1 D2 K2 H1 H2 n01 n02 n0 a2 b2 z0
    rintro σ' H1 ⟨n, z, rfl, n1, n40, z0, z1, D1, K1⟩
    refine ⟨.ref d, rfl, d, _, 4, rfl, D1, by omega, by decide, by decide, fun wy H2 a2 b2 D2 K2 => ?_⟩
    have K12 := K1.trans K2
    -- sides
    refine ⟨fun σ' H' => ∃ (y5 : Option V) (S : Addr) (ys : List Int), σ' = [some (.ref d), some (.int n), some (.int z), some (.int wy), some (.ref S), y5, none, none, none, none, none, none] ∧ H' S = some (.lst (ys.map V.int)) ∧ S ≠ d ∧ ys.length = n ∧ Well H' d (b + 46) ∧ Kp d d H H' ∧ H S = none, ?_, ?_⟩
    · refine ⟨.int n, rfl, n, rfl, by omega, by omega, fun Z nZ => ?_⟩
      have zd := D2.ned nZ
      have nZ0 := K12.free nZ zd zd
      refine lc_range (lo := 0) (n := n) (fun j H' => ∃ ys : List Int, H' Z = some (.lst (ys.map V.int)) ∧ ys.length = j ∧ Well H' d (b + 6 + j) ∧ Kp d d H H') ⟨[], upd_same, rfl, D2.new nZ, K12.trans (Kp.new nZ)⟩ ?_ ?_
      · rintro j H3 hj ⟨ys, hZ, ly, D3, K3⟩
        refine ⟨rfl, .ref d, rfl, d, _, 2, rfl, D3, by omega, by decide, by decide, fun v H4 a4 b4 D4 K4 => ?_⟩
        exact ⟨_, K4 _ _ zd zd hZ, by rw [List.length_map]; exact small1000 (by omega), ys ++ [v], by rw [upd_same, List.map_append]; rfl, by simp [ly], (D4.mut zd).mono (by omega), (K3.trans K4).mut nZ0⟩
      · rintro H3 ⟨ys, hZ, ly, D3, K3⟩
        exact ⟨_, Z, ys, rfl, hZ, zd, ly, D3.mono (by omega), K3, nZ0⟩
    clear D1 K1 D2 K2 K12 H1 H2
    rintro σ' H1 ⟨y5, S, ys, rfl, hS, sd, ly, D1, K1, nS⟩
    refine ⟨Nat.zero_le _, fun L nL => ?_⟩
    have ld := D1.ned nL
    have nL0 := K1.free nL ld ld
    have lS : L ≠ S := (ne_of_none hS nL).symm
    have eL := same_new (o := .lst []) nL
    have hS2 := eL _ _ hS
    have hL2 := upd_same (H := H1) (a := L) (o := .lst [])
    have D2 := D1.same eL
    have K2 := K1.trans (Same.kp eL)
    generalize upd H1 L (.lst []) = H2 at hS2 hL2 D2 K2
    refine ⟨fun σ' H' => ∃ (y5 y7 y8 y9 y10 y11 : Option V) (us : List V) (ts : List Tie), σ' = [some (.ref d), some (.int n), some (.int z), some (.int wy), some (.ref S), y5, some (.ref L), y7, y8, y9, y10, y11] ∧ H' L = some (.lst us) ∧ Paired (TieV H') us ts ∧ (∀ t ∈ ts, TieOk n t) ∧ ts.length ≤ 120 ∧ Well H' d (b + 46 + 6 * 120) ∧ Kp d d H H', ?_, ?_⟩
    · have zN : z * (if decide ((1 : Int) < n) = true then 1 else 0) ≤ 120 ∧ 0 ≤ z * (if decide ((1 : Int) < n) = true then 1 else 0) ∧ (0 < z * (if decide ((1 : Int) < n) = true then 1 else 0) → 2 ≤ n) := by
        by_cases h : (1 : Int) < n
        · rw [decide_eq_true h, if_pos rfl, Int.mul_one]
          exact ⟨by omega, by omega, fun _ => by omega⟩
        · rw [decide_eq_false h, if_neg (by simp), Int.mul_zero]
          exact ⟨by omega, by omega, fun z => by omega⟩
      refine ⟨.int z, rfl, .int n, rfl, n, 1, rfl, rfl, .inr ⟨_, rfl, z, _, rfl, rfl, .inl ⟨by omega, by omega⟩, _, rfl, by omega, by omega, ?_⟩⟩
      generalize hN : z * (if decide ((1 : Int) < n) = true then 1 else 0) = N at zN
      refine for_range (lo := 0) (n := N.toNat) (fun i σ' H' => ∃ (y5 y7 y8 y9 y10 y11 : Option V) (us : List V) (ts : List Tie), σ' = [some (.ref d), some (.int n), some (.int z), some (.int wy), some (.ref S), y5, some (.ref L), y7, y8, y9, y10, y11] ∧ H' L = some (.lst us) ∧ H' S = some (.lst (ys.map V.int)) ∧ Paired (TieV H') us ts ∧ (∀ t ∈ ts, TieOk n t) ∧ ts.length = i ∧ Well H' d (b + 46 + 6 * i) ∧ Kp d d H H') ⟨_, none, none, none, none, none, [], [], rfl, hL2, hS2, .nil, fun t ht => (by cases ht), rfl, D2, K2⟩ ?_ ?_
      · clear hL2 hS2 D2 K2
        rintro i σ' H3 hi ⟨y5, y7, y8, y9, y10, y11, us, ts, rfl, hL, hS, hp, ok, lt, D3, K3⟩
        have n2 := zN.2.2 (by omega)
        have lu : us.length = ts.length := Paired.length hp
        refine ⟨fun σ' H' => ∃ (x y : Int) (y7 : Option V), σ' = [some (.ref d), some (.int n), some (.int z), some (.int wy), some (.ref S), y5, some (.ref L), y7, some (.int x), some (.int y), y10, y11] ∧ TieOk n ⟨x, y, false⟩ ∧ H' L = some (.lst us) ∧ H' S = some (.lst (ys.map V.int)) ∧ Paired (TieV H') us ts ∧ Well H' d (b + 46 + 6 * i + 5) ∧ Kp d d H H', ?_, ?_⟩
        · refine ⟨.ref d, rfl, .int n, rfl, .ref L, rfl, d, L, _, n, us, ts, rfl, D3, by omega, n2, n40, hL, ld, by omega, hp, ok, fun r x y H4 hr4 okt D4 K4 => ?_⟩
          exact ⟨r, _, rfl, SqT.of hr4, rfl, _, _, rfl, _, _, rfl, rfl, x, y, _, rfl, okt, K4 _ _ ld ld hL, K4 _ _ sd sd hS, ties_tk (K4.tk D3) hp, D4, K3.trans K4⟩
        clear hL hS hp D3 K3 H3
        rintro σ' H3 ⟨x, y, y7, rfl, okt, hL, hS, hp, D3, K3⟩
        refine ⟨.ref S, rfl, .int x, rfl, .int y, rfl, S, ys, x, y, rfl, hS, ⟨okt.1, by rw [ly]; exact okt.2.1⟩, ⟨okt.2.2.1, by rw [ly]; exact okt.2.2.2.1⟩, fun bb H4 s4 => ?_⟩
        refine ⟨fun σ' H' => ∃ (fo : Bool), σ' = [some (.ref d), some (.int n), some (.int z), some (.int wy), some (.ref S), y5, some (.ref L), y7, some (.int x), some (.int y), some (.str (kindS fo)), y11] ∧ H' L = some (.lst us) ∧ H' S = some (.lst (ys.map V.int)) ∧ Paired (TieV H') us ts ∧ Well H' d (b + 46 + 6 * i + 6) ∧ Kp d d H H', ?_, ?_⟩
        · refine ⟨.int wy, rfl, wy, 2, rfl, rfl, _, rfl, ?_⟩
          refine ite2 (fun _ => ?_) (fun _ => ⟨bb, rfl, s4 _ _ hL, s4 _ _ hS, ties_tk (Same.tk s4) hp, (D3.same s4).mono (by omega), K3.trans (Same.kp s4)⟩)
          refine ⟨by show 2 ≤ sizeLine; decide, fun p np => ?_⟩
          have ep := same_new (o := .lst [.str "friend", .str "foe"]) np
          have D4 := (D3.same s4).same ep
          have pd := (D3.same s4).ned np
          refine ⟨.ref d, rfl, d, _, 2, rfl, D4, by omega, by decide, by decide, fun v H5 a5 b5 D5 K5 => ?_⟩
          obtain ⟨fo, ef⟩ := pickK v a5 b5
          refine ⟨p, _, v, _, rfl, rfl, SqL.of (K5 _ _ pd pd upd_same), ef, ?_⟩
          have s45 := s4.trans ep
          exact ⟨fo, rfl, K5 _ _ ld ld (s45 _ _ hL), K5 _ _ sd sd (s45 _ _ hS), ties_tk (K5.tk D4) (ties_tk (Same.tk s45) hp), D5, (K3.trans (Same.kp s45)).trans K5⟩
        clear hL hS hp D3 K3 s4 H4 bb
        rintro σ' H4 ⟨fo, rfl, hL, hS, hp, D4, K4⟩
        refine ⟨.ref L, rfl, .inl ⟨rfl, _, SqL.of hL⟩, .int x, rfl, .int y, rfl, .str (kindS fo), rfl, by show 3 ≤ sizeLine; decide, fun c nc => ?_⟩
        have ec := same_new (o := .tup [.int x, .int y, .str (kindS fo)]) nc
        refine ⟨L, us, _, rfl, rfl, ec _ _ hL, small1000 (by omega), ?_⟩
        have tk := tk_lst (ys := us ++ [.ref c]) (ec _ _ hL)
        refine ⟨_, _, _, _, _, _, us ++ [.ref c], ts ++ [⟨x, y, fo⟩], rfl, upd_same, by rw [upd_ne (Ne.symm lS)]; exact ec _ _ hS, Paired.snoc (ties_tk ((Same.tk ec).trans tk) hp) ⟨c, rfl, tk _ _ upd_same⟩, fun t ht => ?_, by simp [lt], ((D4.same ec).mut ld).mono (by omega), (K4.trans (Same.kp ec)).mut nL0⟩
        rcases List.mem_append.mp ht with h | h
        · exact ok t h
        · rw [List.mem_singleton.mp h]
          exact okt
      · rintro σ' H3 ⟨y5, y7, y8, y9, y10, y11, us, ts, rfl, hL, hS, hp, ok, lt, D3, K3⟩
        exact ⟨_, _, _, _, _, _, us, ts, rfl, hL, hp, ok, by omega, D3.mono (by omega), K3⟩
    clear hL2 hS2 D2 K2 hS D1 K1
    rintro σ' H3 ⟨y5, y7, y8, y9, y10, y11, us, ts, rfl, hL, hp, ok, lt, D3, K3⟩
    have lu : us.length = ts.length := Paired.length hp
    refine ⟨fun σ' H' => ∃ (y5 y7 y8 y9 y10 y11 : Option V) (us : List V) (ts : List Tie), σ' = [some (.ref d), some (.int n), some (.int z), some (.int wy), some (.ref S), y5, some (.ref L), y7, y8, y9, y10, y11] ∧ H' L = some (.lst us) ∧ Paired (TieV H') us ts ∧ (∀ t ∈ ts, TieOk n t) ∧ ts.length ≤ 120 ∧ Well H' d (b + 1000) ∧ Kp d d H H', ?_, ?_⟩
    · refine ⟨.int wy, rfl, rfl, _, rfl, ?_⟩
      refine ite2 (fun _ => ?_) (fun _ => ⟨_, _, _, _, _, _, us, ts, rfl, hL, hp, ok, lt, D3.mono (by omega), K3⟩)
      refine ⟨.ref L, rfl, Nat.zero_le _, fun Z nZ => ⟨L, Z, us, rfl, rfl, SqL.of (same_new nZ _ _ hL), SqL.of upd_same, _, rfl, ?_⟩⟩
      have eZ := same_new (o := .lst []) nZ
      have hL4 := eZ _ _ hL
      have hp4 := ties_tk (Same.tk eZ) hp
      have D4 := D3.same eZ
      have K4 := K3.trans (Same.kp eZ)
      generalize upd H3 Z (.lst []) = H4 at hL4 hp4 D4 K4
      by_cases hu : us = []
      · subst hu
        exact ⟨_, _, _, _, _, _, [], ts, rfl, hL4, hp4, ok, lt, D4.mono (by omega), K4⟩
      have hpos : 0 < us.length := List.length_pos_iff.mpr hu
      rw [show (!us.isEmpty) = true from by cases us; exact absurd rfl hu; rfl]
      refine ⟨.ref d, rfl, .ref L, rfl, L, us, rfl, .inl (SqL.of hL4), d, _, (us.length : Int), rfl, D4, by omega, by omega, by omega, fun v H5 a5 b5 D5 K5 => ?_⟩
      have hL5 := K5 _ _ ld ld hL4
      have hp5 := ties_tk (K5.tk D4) hp4
      obtain ⟨u, e1, e2⟩ := getI a5 b5
      obtain ⟨t, e3, c, rfl, hc⟩ := Paired.at hp5 e2
      refine ⟨.ref L, rfl, .int v, rfl, L, us, v, .ref c, rfl, rfl, SqL.of hL5, e1, c, _, rfl, SqT.of hc, rfl, _, _, rfl, _, _, rfl, _, _, rfl, rfl, ?_⟩
      refine ⟨.int t.one, rfl, .int t.other, rfl, by show 2 ≤ sizeLine; decide, fun p np => ⟨.str (kindS t.foe), rfl, rfl, .inr ⟨_, rfl, p, _, _, _, rfl, rfl, SqL.of upd_same, pick2 _ _ _, by show 3 ≤ sizeLine; decide, fun r nr => ?_⟩⟩⟩
      have ek : ∃ fo : Bool, (if decide (V.str (kindS t.foe) = V.str "friend") = true then V.str "foe" else V.str "friend") = V.str (kindS fo) := by
        generalize decide (V.str (kindS t.foe) = V.str "friend") = c
        cases c
        · exact ⟨false, rfl⟩
        · exact ⟨true, rfl⟩
      obtain ⟨fo, ek⟩ := ek
      rw [ek]
      have ep := same_new (o := .lst [.str "friend", .str "foe"]) np
      have er := same_new (o := .tup [.int t.one, .int t.other, .str (kindS fo)]) nr
      have s6 := ep.trans er
      have hL6 := s6 _ _ hL5
      have okt := ok t (List.mem_of_getElem? e3)
      refine ⟨.ref L, rfl, .int v, rfl, L, us, v, v.toNat, rfl, rfl, hL6, ixN_of a5 b5, ?_⟩
      have tk := tk_lst (ys := us.set v.toNat (.ref r)) hL6
      refine ⟨_, _, _, _, _, _, us.set v.toNat (.ref r), ts.set v.toNat ⟨t.one, t.other, fo⟩, rfl, upd_same, paired_set (ties_tk ((Same.tk s6).trans tk) hp5) ⟨r, rfl, tk _ _ upd_same⟩, fun x hx => ?_, by rw [List.length_set]; exact lt, ((D5.same s6).mut ld).mono (by omega), ((K4.trans K5).trans (Same.kp s6)).mut nL0⟩
      rcases List.mem_or_eq_of_mem_set hx with h | h
      · exact ok x h
      · rw [h]
        exact okt
    clear hL hp ok lt D3 K3 H3 lu us ts
    rintro σ' H3 ⟨y5, y7, y8, y9, y10, y11, us, ts, rfl, hL, hp, ok, lt, D3, K3⟩
    refine ⟨.int n, rfl, .ref L, rfl, L, us, rfl, .inl ⟨SqL.of hL, fun e ne => ⟨by show 2 ≤ sizeLine; decide, fun a na => ?_⟩⟩⟩
    have s2 := (same_new (o := .tup us) ne).trans (same_new (o := .tup [.int n, .ref e]) na)
    exact q _ n ts _ ⟨a, e, us, rfl, upd_same, same_new na _ _ upd_same, ties_tk (Same.tk s2) hp⟩ ⟨by omega, by omega, by omega, ok⟩ (D3.same s2) (K3.trans (Same.kp s2))
end
/-! ### ties that sides break -/
def sd (ss : List Int) (i : Int) : Int := ss.getD i.toNat 0
def tieAt (ts : List Tie) (i : Int) : Tie := ts.getD i.toNat ⟨0, 0, false⟩
def brk (ss : List Int) (t : Tie) : Bool := decide (sd ss t.one = sd ss t.other) == t.foe
def badTo (ss : List Int) (ts : List Tie) (k : Nat) : List Int := (rng k).filter fun i => brk ss (tieAt ts i)
def bad (ss : List Int) (ts : List Tie) : List Int := badTo ss ts ts.length
theorem badTo_succ (ss : List Int) (ts : List Tie) (k : Nat) : badTo ss ts (k + 1) = badTo ss ts k ++ (if brk ss (tieAt ts k) = true then [(k : Int)] else []) := by
  unfold badTo
  rw [rng_succ, List.filter_append, List.filter_cons]
  rfl
theorem badTo_len (ss : List Int) (ts : List Tie) (k : Nat) : (badTo ss ts k).length ≤ k := by
  unfold badTo
  have := List.length_filter_le (fun i => brk ss (tieAt ts i)) (rng k)
  rw [rng_length] at this
  exact this
theorem atI_sd {ss : List Int} {i : Int} (h0 : 0 ≤ i) (h1 : i < ss.length) : atI (ss.map V.int) i = some (.int (sd ss i)) := by
  have h : i.toNat < ss.length := by omega
  refine atI_of h0 ?_
  unfold sd
  rw [List.getElem?_map, List.getElem?_eq_getElem h, List.getD_eq_getElem?_getD, List.getElem?_eq_getElem h]
  rfl
theorem tieAt_of {ts : List Tie} {i : Nat} {t : Tie} (h : ts[i]? = some t) : tieAt ts i = t := by
  unfold tieAt
  rw [Int.toNat_natCast, List.getD_eq_getElem?_getD, h]
  rfl
theorem eq_brk (x y : Int) (f : Bool) : decide (V.bl (decide (V.int x = V.int y)) = V.bl (decide (V.str (kindS f) = V.str "foe"))) = (decide (x = y) == f) := by
  have e : decide (V.int x = V.int y) = decide (x = y) := by
    by_cases h : x = y
    · rw [decide_eq_true h, decide_eq_true (by rw [h])]
    · rw [decide_eq_false h, decide_eq_false (fun z => h (V.int.inj z))]
  rw [e]
  cases decide (x = y) <;> cases f <;> rfl
theorem ne_brk (x y : Int) (f : Bool) : (!decide (V.bl (!decide (V.int x = V.int y)) = V.bl (decide (V.str (kindS f) = V.str "foe")))) = (decide (x = y) == f) := by
  have e : decide (V.int x = V.int y) = decide (x = y) := by
    by_cases h : x = y
    · rw [decide_eq_true h, decide_eq_true (by rw [h])]
    · rw [decide_eq_false h, decide_eq_false (fun z => h (V.int.inj z))]
  rw [e]
  cases decide (x = y) <;> cases f <;> rfl
def spBreaks : Sp := fun vs H Q _ => ∃ (a b : Addr) (ss : List Int) (t : Tie), vs = [.ref a, .ref b] ∧ H a = some (.tup (ss.map V.int)) ∧ H b = some (.tup [.int t.one, .int t.other, .str (kindS t.foe)]) ∧ TieOk ss.length t ∧ Q (.bl (brk ss t)) H
def spBroken : Sp := fun vs H Q _ => ∃ (v : V) (a : Addr) (n : Int) (ts : List Tie) (ss : List Int), vs = [v, .ref a] ∧ WebAt H v n ts ∧ WebOk n ts ∧ H a = some (.tup (ss.map V.int)) ∧ (ss.length : Int) = n ∧
  ∀ r H', Same H H' → H' r = some (.tup ((bad ss ts).map V.int)) → Q (.ref r) H'
section
variable {P : Program} {w : World} {K : PySem.W.Frag} {mg : Str → Option Value} {base : Heap}
theorem ok_breaks {f : Addr} {fd : FuncData} (F : Fun K "breaks" "breaks" s_breaks f fd) : FnOk P w K mg base CX0 1 f fd ["sides", "tie"] spBreaks := by
  refine F.ok sc_breaks (fun vs H Q E h => ?_) (fun cdv A outer s H vs Q E hr h => ?_)
  · obtain ⟨a, b, ss, t, rfl, _⟩ := h
    rfl
  · obtain ⟨a, b, ss, t, rfl, ha, hb, ok, q⟩ := h
    refine ⟨_, (pss_cons (ps_asg (pv 1) (pg_tup rfl (pgs_cons (pg_name (i := 2) sc_breaks.nd rfl (.inl rfl)) (pgs_cons (pg_name (i := 3) sc_breaks.nd rfl (.inl rfl)) (pgs_cons (pg_name (i := 4) sc_breaks.nd rfl (.inl rfl)) pgs_nil)))))
      (pss_one (ps_ret (pe_cmpR op_eq (pe_cmpR op_eq (pe_ix ix_tup (pv 0) (pv 2) (fun _ _ => rfl)) (pe_ix ix_tup (pv 0) (pv 3) (fun _ _ => rfl)) (nomark _)) (pe_cmpR op_eq (pv 4) pe_str (nomark _)) (nomark _))))), ?_⟩
    refine ⟨.ref b, rfl, b, _, rfl, SqT.of hb, rfl, _, _, rfl, _, _, rfl, _, _, rfl, rfl, ?_⟩
    refine ⟨.ref a, rfl, .int t.one, rfl, a, _, t.one, _, rfl, rfl, SqT.of ha, atI_sd ok.1 ok.2.1, .ref a, rfl, .int t.other, rfl, a, _, t.other, _, rfl, rfl, SqT.of ha, atI_sd ok.2.2.1 ok.2.2.2.1, rfl, .str (kindS t.foe), rfl, rfl, rfl, ?_⟩
    rw [eq_brk]
    exact q
theorem ok_broken_by {f : Addr} {fd : FuncData} (F : Fun K "broken_by" "broken_by" s_broken_by f fd) (M : Free mg) (me : mg "enumerate" = none) (D1 : Df P w K mg base 1 "breaks" ["sides", "tie"] spBreaks) : FnOk P w K mg base CX0 2 f fd ["web", "sides"] spBroken := by
  obtain ⟨f1, fd1, G1, g1, k1, b1⟩ := D1
  refine F.ok sc_broken_by (fun vs H Q E h => ?_) (fun cdv A outer s H vs Q E hr h => ?_)
  · obtain ⟨v, a, n, ts, ss, rfl, _⟩ := h
    rfl
  · obtain ⟨v, a, n, ts, ss, rfl, ⟨wa, wb, us, rfl, hwa, hwb, hp⟩, ok, ha, hl, q⟩ := h
    refine ⟨_, (pss_one (ps_ret (pe_callTy call_tuple_of (by rfl) M.tuple (by decide +kernel) (pa_cons (pe_lc (own := [("number", 2), ("tie", 3)]) (g := gTup K 2 (gCons (gName 2) (gCons (gName 3) gNil))) (te := tVar 2) rfl sc_broken_by.nd (pi_enumT (by rfl) me (pa_cons (pe_ix ix_tup (pv 0) pe_int (fun _ _ => rfl)) pa_nil)) (blkOk_by (N := N_broken_by) (sc := defScope s_broken_by) (own := [("number", 2), ("tie", 3)]) (by decide +kernel)) (fun _ _ _ _ _ => (pg_tup rfl (pgs_cons (pg_name (i := 2) sc_broken_by.nd rfl (.inl rfl)) (pgs_cons (pg_name (i := 3) sc_broken_by.nd rfl (.inl rfl)) pgs_nil)))) (fun _ _ _ _ _ => (pts_one (pt_val (pe_call G1 hr (by rfl) g1 k1 b1 .nil pass0 (pa_cons (pv 1) (pa_cons (pv 3) pa_nil)))))) (fun _ _ _ _ _ => (pv 2))) pa_nil)))), ?_⟩
    have hlen : us.length = ts.length := Paired.length hp
    have few := ok.few
    refine ⟨.ref wa, rfl, wa, _, 1, .ref wb, rfl, rfl, SqT.of hwa, rfl, wb, us, rfl, SqT.of hwb, fun Z nZ => ?_⟩
    refine lc_it (walk_enumT (xs := us)) (fun i H' => H' Z = some (.lst ((badTo ss ts i).map V.int)) ∧ Same H H') ⟨upd_same, same_new nZ⟩ (fun i H' _ h => SqT.of (h.2 _ _ hwb)) ?_ ?_
    · rintro i x H1 H2 hi ⟨hZ, s1⟩ ⟨T, x1, y, rfl, nT, rfl, e1, e2⟩
      obtain rfl : V.int (i : Nat) = x1 := Option.some.inj e1
      obtain ⟨t, et, c, rfl, hc⟩ := Paired.at hp e2
      have okt := ok.ok t (List.mem_of_getElem? et)
      have s2 := s1.trans (same_new (o := .tup [.int (i : Nat), .ref c]) nT)
      have hZ2 := same_new (o := .tup [.int (i : Nat), .ref c]) nT _ _ hZ
      refine ⟨T, _, rfl, SqT.of upd_same, rfl, _, _, rfl, _, _, rfl, rfl, rfl, .ref a, rfl, .ref c, rfl, a, c, ss, t, rfl, s2 _ _ ha, s2 _ _ hc, by rw [hl]; exact okt, _, rfl, ?_⟩
      have et2 := tieAt_of et
      have lb := badTo_len ss ts i
      rw [badTo_succ, et2, List.map_append]
      by_cases hb : brk ss t = true
      · rw [hb]
        exact ⟨.int i, rfl, _, hZ2, by rw [List.length_map]; exact small1000 (by omega), upd_same, fun b o e => by rw [upd_ne (ne_of_none e nZ)]; exact s2 b o e⟩
      · rw [Bool.not_eq_true] at hb
        rw [hb]
        simp only [Bool.false_eq_true, if_false, List.map_nil, List.append_nil]
        exact ⟨hZ2, s2⟩
    · rintro H1 ⟨hZ, s1⟩
      rw [hlen] at hZ
      refine ⟨Z, _, rfl, .inl ⟨SqL.of hZ, fun r nr => ?_⟩⟩
      exact q r _ (s1.trans (same_new nr)) upd_same
end
/-! ### sides put over -/
def Bin (ss : List Int) : Prop := ∀ x ∈ ss, x = 0 ∨ x = 1
theorem sd_get {ss : List Int} {i : Int} (h0 : 0 ≤ i) (h1 : i < ss.length) : ∃ h : i.toNat < ss.length, sd ss i = ss[i.toNat] := by
  have h : i.toNat < ss.length := by omega
  refine ⟨h, ?_⟩
  unfold sd
  rw [List.getD_eq_getElem?_getD, List.getElem?_eq_getElem h]
  rfl
theorem sd_bin {ss : List Int} (b : Bin ss) {i : Int} (h0 : 0 ≤ i) (h1 : i < ss.length) : sd ss i = 0 ∨ sd ss i = 1 := by
  obtain ⟨h, e⟩ := sd_get h0 h1
  rw [e]
  exact b _ (List.getElem_mem h)
def over (ss : List Int) : List Int := ss.map fun s => 1 - s
theorem sd_over {ss : List Int} {i : Int} (h0 : 0 ≤ i) (h1 : i < ss.length) : sd (over ss) i = 1 - sd ss i := by
  obtain ⟨h, e⟩ := sd_get h0 h1
  obtain ⟨h', e'⟩ := sd_get (ss := over ss) h0 (by unfold over; rw [List.length_map]; exact h1)
  rw [e, e']
  simp [over]
theorem brk_over {ss : List Int} {t : Tie} (ok : TieOk ss.length t) : brk (over ss) t = brk ss t := by
  unfold brk
  rw [sd_over ok.1 ok.2.1, sd_over ok.2.2.1 ok.2.2.2.1]
  congr 1
  rw [decide_eq_decide]
  omega
theorem tieAt_mem {ts : List Tie} {i : Int} (h : i ∈ rng ts.length) : tieAt ts i ∈ ts := by
  rw [mem_rng] at h
  have h' : i.toNat < ts.length := by omega
  unfold tieAt
  rw [List.getD_eq_getElem?_getD, List.getElem?_eq_getElem h']
  exact List.getElem_mem h'
theorem bad_over {ss : List Int} {ts : List Tie} (ok : ∀ t ∈ ts, TieOk ss.length t) : bad (over ss) ts = bad ss ts := by
  unfold bad badTo
  exact List.filter_congr fun i hi => brk_over (ok _ (tieAt_mem hi))
def moved (ss : List Int) (p : Int) : List Int := ss.set p.toNat (1 - sd ss p)
theorem moved_len (ss : List Int) (p : Int) : (moved ss p).length = ss.length := by unfold moved; rw [List.length_set]
theorem sd_moved {ss : List Int} {p i : Int} (p0 : 0 ≤ p) (p1 : p < ss.length) (h0 : 0 ≤ i) (h1 : i < ss.length) : sd (moved ss p) i = if i = p then 1 - sd ss p else sd ss i := by
  show (ss.set p.toNat (1 - sd ss p)).getD i.toNat 0 = _
  rw [List.getD_eq_getElem?_getD, List.getElem?_set]
  by_cases hp : i = p
  · subst hp
    rw [if_pos rfl, if_pos (by omega), if_pos rfl]
    rfl
  · rw [if_neg (by omega), if_neg hp]
    unfold sd
    rw [List.getD_eq_getElem?_getD]
theorem brk_moved {ss : List Int} (b : Bin ss) {t : Tie} {p : Int} (ok : TieOk ss.length t) (p0 : 0 ≤ p) (p1 : p < ss.length) : brk (moved ss p) t = (brk ss t != (t.one == p || t.other == p)) := by
  unfold brk
  rw [sd_moved p0 p1 ok.1 ok.2.1, sd_moved p0 p1 ok.2.2.1 ok.2.2.2.1]
  have b1 := sd_bin b ok.1 ok.2.1
  have b2 := sd_bin b ok.2.2.1 ok.2.2.2.1
  have ne := ok.2.2.2.2
  by_cases h1 : t.one = p
  · have h2 : t.other ≠ p := fun z => ne (h1.trans z.symm)
    rw [if_pos h1, if_neg h2, ← h1]
    have e1 : (t.one == t.one) = true := by simp
    rw [e1, Bool.true_or]
    rcases b1 with e | e <;> rcases b2 with e' | e' <;> rw [e, e'] <;> cases t.foe <;> rfl
  · rw [if_neg h1]
    have e1 : (t.one == p) = false := by simp [h1]
    rw [e1, Bool.false_or]
    by_cases h2 : t.other = p
    · rw [if_pos h2, ← h2]
      have e2 : (t.other == t.other) = true := by simp
      rw [e2]
      rcases b1 with e | e <;> rcases b2 with e' | e' <;> rw [e, e'] <;> cases t.foe <;> rfl
    · rw [if_neg h2]
      have e2 : (t.other == p) = false := by simp [h2]
      rw [e2, Bool.bne_false]
theorem moved_cut {ss : List Int} {p : Int} (p0 : 0 ≤ p) (p1 : p < ss.length) : cutV (ss.map V.int) none (some p) ++ [V.int (1 - sd ss p)] ++ cutV (ss.map V.int) (some (p + 1)) none = (moved ss p).map V.int := by
  obtain ⟨k, rfl⟩ : ∃ k : Nat, p = k := ⟨p.toNat, by omega⟩
  have hk : k < ss.length := by omega
  have e1 : cutV (ss.map V.int) none (some (k : Int)) = (ss.take k).map V.int := by
    unfold cutV
    rw [HT.sIx_none, HT.sIx_nat, List.length_map, Nat.min_eq_left (by omega), List.drop_zero, List.map_take]
    rfl
  have e2 : cutV (ss.map V.int) (some ((k : Int) + 1)) none = (ss.drop (k + 1)).map V.int := by
    unfold cutV
    rw [HT.sIx_none, show ((k : Int) + 1) = ((k + 1 : Nat) : Int) from by omega, HT.sIx_nat, List.length_map, Nat.min_eq_left (by omega), List.map_drop]
    exact List.take_of_length_le (by rw [List.length_drop, List.length_map]; omega)
  rw [e1, e2]
  unfold moved
  rw [Int.toNat_natCast, List.set_eq_take_append_cons_drop, if_pos hk]
  simp
theorem in_bad {ss : List Int} {ts : List Tie} {i : Nat} (hi : i < ts.length) : inV (.int (i : Int)) ((bad ss ts).map V.int) = brk ss (tieAt ts i) := by
  rw [Bool.eq_iff_iff]
  unfold inV
  rw [List.any_map, List.any_eq_true]
  unfold bad badTo
  constructor
  · rintro ⟨x, hx, e⟩
    have e' : (x == (i : Int)) = true := e
    rw [beq_iff_eq] at e'
    subst e'
    exact (List.mem_filter.mp hx).2
  · intro h
    exact ⟨i, List.mem_filter.mpr ⟨mem_rng.mpr (by omega), h⟩, by show ((i : Int) == (i : Int)) = true; simp⟩
theorem flat_ints (xs : List Int) : (xs.map V.int).all flatV = true := by
  rw [List.all_map, List.all_eq_true]
  intro x _
  rfl
theorem in_two (p x y : Int) : inV (.int p) [.int x, .int y] = (x == p || y == p) := by
  show ((x == p) || ((y == p) || false)) = _
  rw [Bool.or_false]
theorem ne_bl (a b : Bool) : (!decide (V.bl a = V.bl b)) = (a != b) := by cases a <;> cases b <;> rfl
/-! ### the fixed choice: the mathematics -/
def Cons (ss : List Int) (ts : List Tie) : Prop := ∀ t ∈ ts, brk ss t = false
def Odd (ts : List Tie) (n : Nat) : Prop := ∃ x : Int, (0 ≤ x ∧ x < n) ∧ RP ts x x true
def one? (ss : List Int) (i : Int) : Bool := decide (sd ss i = 1)
structure Told (ts : List Tie) (n : Nat) (ss : List Int) : Prop where
  len : ss.length = n
  bin : Bin ss
  each : ∀ i : Int, 0 ≤ i → i < n → ∃ m, leader ts m ∧ RP ts m i (one? ss i)
theorem brk_one {ss : List Int} (b : Bin ss) {t : Tie} (ok : TieOk ss.length t) : brk ss t = ((one? ss t.one ^^ one? ss t.other) ^^ t.foe) := by
  unfold brk one?
  have b1 := sd_bin b ok.1 ok.2.1
  have b2 := sd_bin b ok.2.2.1 ok.2.2.2.1
  rcases b1 with e | e <;> rcases b2 with e' | e' <;> rw [e, e'] <;> cases t.foe <;> decide
theorem cons_adj {ss : List Int} {ts : List Tie} (b : Bin ss) (ok : ∀ t ∈ ts, TieOk ss.length t) (h : Cons ss ts) {x y : Int} {k : Bool} (ad : Adj ts x y k) : (one? ss x ^^ one? ss y) = k := by
  obtain ⟨t, ht, rfl, h1⟩ := ad
  have e := h t ht
  rw [brk_one b (ok t ht)] at e
  rcases h1 with ⟨rfl, rfl⟩ | ⟨rfl, rfl⟩
  · revert e
    cases one? ss t.one <;> cases one? ss t.other <;> cases t.foe <;> simp
  · revert e
    cases one? ss t.one <;> cases one? ss t.other <;> cases t.foe <;> simp
theorem cons_walk {ss : List Int} {ts : List Tie} (b : Bin ss) (ok : ∀ t ∈ ts, TieOk ss.length t) (h : Cons ss ts) {x y : Int} {p : Bool} (r : RP ts x y p) : (one? ss x ^^ one? ss y) = p := by
  induction r with
  | nil => rw [Bool.xor_self]
  | step _ ad ih =>
    rw [← ih, ← cons_adj b ok h ad]
    rename_i u v p k _
    cases one? ss x <;> cases one? ss u <;> cases one? ss v <;> rfl
theorem cons_no_odd {ss : List Int} {ts : List Tie} {n : Nat} (b : Bin ss) (ok : ∀ t ∈ ts, TieOk ss.length t) (h : Cons ss ts) : ¬ Odd ts n := by
  rintro ⟨x, _, r⟩
  have := cons_walk b ok h r
  rw [Bool.xor_self] at this
  cases this
theorem leader_one {ts : List Tie} {m m' i : Int} (h : leader ts m) (h' : leader ts m') (r : Rch ts m i) (r' : Rch ts m' i) : m = m' := by
  have h1 := h m' (r.trans r'.symm)
  have h2 := h' m (r'.trans r.symm)
  omega
theorem told_unique {ts : List Tie} {n : Nat} {ss zs : List Int} (ok : ∀ t ∈ ts, TieOk n t) (h : Told ts n ss) (g : Told ts n zs) (c : Cons ss ts) : ss = zs := by
  refine List.ext_getElem? fun j => ?_
  by_cases hj : j < n
  · obtain ⟨m, l1, r1⟩ := h.each j (by omega) (by omega)
    obtain ⟨m', l2, r2⟩ := g.each j (by omega) (by omega)
    obtain rfl := leader_one l1 l2 ⟨_, r1⟩ ⟨_, r2⟩
    have w := cons_walk h.bin (by rw [h.len]; exact ok) c (r1.trans r2.symm)
    rw [Bool.xor_self] at w
    have e : one? ss j = one? zs j := by
      revert w
      cases one? ss (j : Int) <;> cases one? zs (j : Int) <;> simp
    have b1 := sd_bin h.bin (i := j) (by omega) (by rw [h.len]; omega)
    have b2 := sd_bin g.bin (i := j) (by omega) (by rw [g.len]; omega)
    obtain ⟨h1, e1⟩ := sd_get (ss := ss) (i := j) (by omega) (by rw [h.len]; omega)
    obtain ⟨h2, e2⟩ := sd_get (ss := zs) (i := j) (by omega) (by rw [g.len]; omega)
    have es : sd ss j = sd zs j := by
      unfold one? at e
      rcases b1 with x | x <;> rcases b2 with y | y <;> rw [x, y] at e ⊢ <;> revert e <;> decide
    rw [Int.toNat_natCast] at h1 h2
    rw [List.getElem?_eq_getElem h1, List.getElem?_eq_getElem h2]
    have : ss[j] = zs[j] := by
      have q1 : sd ss j = ss[j] := e1
      have q2 : sd zs j = zs[j] := e2
      rw [← q1, ← q2, es]
    rw [this]
  · rw [List.getElem?_eq_none (by rw [h.len]; omega), List.getElem?_eq_none (by rw [g.len]; omega)]
theorem told_odd {ts : List Tie} {n : Nat} {ss : List Int} (ok : ∀ t ∈ ts, TieOk n t) (h : Told ts n ss) {t : Tie} (ht : t ∈ ts) (hb : brk ss t = true) : Odd ts n := by
  have okt := ok t ht
  obtain ⟨m, l1, r1⟩ := h.each t.one okt.1 okt.2.1
  obtain ⟨m', l2, r2⟩ := h.each t.other okt.2.2.1 okt.2.2.2.1
  have ad : Adj ts t.one t.other t.foe := ⟨t, ht, rfl, .inl ⟨rfl, rfl⟩⟩
  obtain rfl := leader_one l1 l2 (Rch.trans ⟨_, r1⟩ (Rch.adj ad)) ⟨_, r2⟩
  have w := (r1.step ad).trans r2.symm
  refine ⟨m, Rch.rng ok ⟨okt.1, okt.2.1⟩ ⟨_, r1.symm⟩, ?_⟩
  have e : ((one? ss t.one ^^ t.foe) ^^ one? ss t.other) = true := by
    rw [brk_one h.bin (by rw [h.len]; exact okt)] at hb
    revert hb
    cases one? ss t.one <;> cases one? ss t.other <;> cases t.foe <;> simp
  rw [← e]
  exact w
theorem bad_nil {ss : List Int} {ts : List Tie} : bad ss ts = [] ↔ Cons ss ts := by
  unfold bad badTo Cons
  rw [List.filter_eq_nil_iff]
  constructor
  · intro h t ht
    obtain ⟨j, hj⟩ := List.getElem?_of_mem ht
    have hl := (List.getElem?_eq_some_iff.mp hj).1
    have := h j (mem_rng.mpr (by omega))
    rw [tieAt_of hj] at this
    simpa using this
  · intro h i hi
    rw [h _ (tieAt_mem hi)]
    decide
/-! ### groups by their least places, sides along the ties -/
theorem RP.mono {ts ts' : List Tie} (h : ∀ t ∈ ts, t ∈ ts') {a b : Int} {p : Bool} (r : RP ts a b p) : RP ts' a b p := by
  induction r with
  | nil => exact .nil
  | step _ ad ih =>
    obtain ⟨t, ht, e, q⟩ := ad
    exact ih.step ⟨t, h t ht, e, q⟩
def bit (x : Int) : Bool := decide (x = 1)
structure GS (ts : List Tie) (n : Nat) (g s : Int → Int) (good : Bool) : Prop where
  rp : ∀ i : Int, 0 ≤ i → i < n → RP ts (g i) i (bit (s i))
  le : ∀ i : Int, 0 ≤ i → i < n → 0 ≤ g i ∧ g i ≤ i
  bn : ∀ i : Int, 0 ≤ i → i < n → s i = 0 ∨ s i = 1
  eq : ∀ t ∈ ts, g t.one = g t.other
  yes : good = true → ∀ t ∈ ts, (bit (s t.one) ^^ bit (s t.other)) = t.foe
  no : good = false → Odd ts n
theorem GS.nil (n : Nat) : GS [] n (fun i => i) (fun _ => 0) true :=
  ⟨fun i _ _ => .nil, fun i h _ => ⟨h, Int.le_refl _⟩, fun _ _ _ => .inl rfl, fun t h => by simp at h, fun _ t h => by simp at h, fun h => by cases h⟩
theorem GS.same {ts : List Tie} {n : Nat} {g s : Int → Int} {good : Bool} (h : GS ts n g s good) {a b : Int} (r : Rch ts a b) : g a = g b :=
  r.ind (fun x => g a = g x) rfl fun x y k e ad => by
    obtain ⟨t, ht, _, q⟩ := ad
    have := h.eq t ht
    rcases q with ⟨rfl, rfl⟩ | ⟨rfl, rfl⟩
    · rw [e, this]
    · rw [e, this]
theorem GS.lead {ts : List Tie} {n : Nat} {g s : Int → Int} {good : Bool} (ok : ∀ t ∈ ts, TieOk n t) (h : GS ts n g s good) {i : Int} (h0 : 0 ≤ i) (h1 : i < n) : leader ts (g i) := fun q hq => by
  have e1 := h.same hq
  have e2 := h.same (⟨_, h.rp i h0 h1⟩ : Rch ts (g i) i)
  have r := hq.rng ok ⟨(h.le i h0 h1).1, by have := (h.le i h0 h1).2; omega⟩
  have := (h.le q r.1 r.2).2
  omega
def gNew (g : Int → Int) (low high : Int) : Int → Int := fun x => if low < high ∧ g x = high then low else g x
def sNew (g s : Int → Int) (low high turn : Int) : Int → Int := fun x => if low < high ∧ g x = high then (s x + turn) % 2 else s x
theorem bit_add {a b : Int} (ha : a = 0 ∨ a = 1) (hb : b = 0 ∨ b = 1) : bit ((a + b) % 2) = (bit a ^^ bit b) ∧ ((a + b) % 2 = 0 ∨ (a + b) % 2 = 1) := by
  rcases ha with rfl | rfl <;> rcases hb with rfl | rfl <;> decide
theorem GS.step {ts : List Tie} {n : Nat} {g s : Int → Int} {good : Bool} (h : GS ts n g s good) (okts : ∀ t ∈ ts, TieOk n t) {t : Tie} (ok : TieOk n t) {low high turn : Int} (hlow : low = min (g t.one) (g t.other)) (hhigh : high = max (g t.one) (g t.other)) (ht : turn = (s t.one + s t.other + (if t.foe = true then 1 else 0)) % 2) :
    GS (ts ++ [t]) n (gNew g low high) (sNew g s low high turn) (if low = high then good && decide (turn = 0) else good) := by
  have mono : ∀ x ∈ ts, x ∈ ts ++ [t] := fun x hx => List.mem_append_left _ hx
  have ad : Adj (ts ++ [t]) t.one t.other t.foe := ⟨t, by simp, rfl, .inl ⟨rfl, rfl⟩⟩
  have r1 := (h.rp t.one ok.1 ok.2.1).mono mono
  have r2 := (h.rp t.other ok.2.2.1 ok.2.2.2.1).mono mono
  have b1 := h.bn t.one ok.1 ok.2.1
  have b2 := h.bn t.other ok.2.2.1 ok.2.2.2.1
  have bt : bit turn = ((bit (s t.one) ^^ bit (s t.other)) ^^ t.foe) ∧ (turn = 0 ∨ turn = 1) := by
    rw [ht]
    rcases b1 with e | e <;> rcases b2 with e' | e' <;> rw [e, e'] <;> cases t.foe <;> decide
  have cross : low < high → RP (ts ++ [t]) low high (bit turn) := fun hl => by
    by_cases hc : g t.one ≤ g t.other
    · have e1 : low = g t.one := by omega
      have e2 : high = g t.other := by omega
      have w := (r1.step ad).trans r2.symm
      rw [e1, e2, bt.1]
      rw [show ((bit (s t.one) ^^ bit (s t.other)) ^^ t.foe) = ((bit (s t.one) ^^ t.foe) ^^ bit (s t.other)) from by cases bit (s t.one) <;> cases bit (s t.other) <;> cases t.foe <;> rfl]
      exact w
    · have e1 : low = g t.other := by omega
      have e2 : high = g t.one := by omega
      have w := (r2.step ad.symm).trans r1.symm
      rw [e1, e2, bt.1]
      rw [show ((bit (s t.one) ^^ bit (s t.other)) ^^ t.foe) = ((bit (s t.other) ^^ t.foe) ^^ bit (s t.one)) from by cases bit (s t.one) <;> cases bit (s t.other) <;> cases t.foe <;> rfl]
      exact w
  refine ⟨fun i h0 h1 => ?_, fun i h0 h1 => ?_, fun i h0 h1 => ?_, fun x hx => ?_, fun hg x hx => ?_, fun hg => ?_⟩
  · unfold gNew sNew
    by_cases hc : low < high ∧ g i = high
    · rw [if_pos hc, if_pos hc, (bit_add (h.bn i h0 h1) bt.2).1, Bool.xor_comm]
      have w := (h.rp i h0 h1).mono mono
      rw [hc.2] at w
      exact (cross hc.1).trans w
    · rw [if_neg hc, if_neg hc]
      exact (h.rp i h0 h1).mono mono
  · unfold gNew
    have l := h.le i h0 h1
    have l1 := h.le t.one ok.1 ok.2.1
    have l2 := h.le t.other ok.2.2.1 ok.2.2.2.1
    split
    · omega
    · exact l
  · unfold sNew
    split
    · exact (bit_add (h.bn i h0 h1) bt.2).2
    · exact h.bn i h0 h1
  · unfold gNew
    rcases List.mem_append.mp hx with hx | hx
    · rw [h.eq x hx]
    · rw [List.mem_singleton.mp hx]
      split <;> split <;> omega
  · rcases List.mem_append.mp hx with hx | hx
    · have hgood : good = true := by
        by_cases e : low = high
        · rw [if_pos e] at hg
          revert hg
          cases good <;> simp
        · rw [if_neg e] at hg
          exact hg
      have q := h.yes hgood x hx
      have e := h.eq x hx
      unfold sNew
      by_cases hc : low < high ∧ g x.one = high
      · have hc' : low < high ∧ g x.other = high := ⟨hc.1, by rw [← e]; exact hc.2⟩
        have okx := okts x hx
        rw [if_pos hc, if_pos hc', (bit_add (h.bn x.one okx.1 okx.2.1) bt.2).1, (bit_add (h.bn x.other okx.2.2.1 okx.2.2.2.1) bt.2).1, ← q]
        cases bit (s x.one) <;> cases bit (s x.other) <;> cases bit turn <;> rfl
      · have hc' : ¬ (low < high ∧ g x.other = high) := fun z => hc ⟨z.1, by rw [e]; exact z.2⟩
        rw [if_neg hc, if_neg hc']
        exact q
    · rw [List.mem_singleton.mp hx]
      unfold sNew
      by_cases e : low = high
      · rw [if_pos e] at hg
        have h0 : turn = 0 := by
          revert hg
          cases good <;> simp
        rw [if_neg (by omega), if_neg (by omega)]
        have z := bt.1
        rw [h0] at z
        revert z
        cases bit (s t.one) <;> cases bit (s t.other) <;> cases t.foe <;> decide
      · have hlt : low < high := by omega
        by_cases hc : g t.one ≤ g t.other
        · rw [if_neg (by omega), if_pos ⟨hlt, by omega⟩, (bit_add b2 bt.2).1, bt.1]
          cases bit (s t.one) <;> cases bit (s t.other) <;> cases t.foe <;> rfl
        · rw [if_pos ⟨hlt, by omega⟩, if_neg (by omega), (bit_add b1 bt.2).1, bt.1]
          cases bit (s t.one) <;> cases bit (s t.other) <;> cases t.foe <;> rfl
  · have old : good = false → Odd (ts ++ [t]) n := fun e => by
      obtain ⟨x, hx, r⟩ := h.no e
      exact ⟨x, hx, r.mono mono⟩
    by_cases e : low = high
    · rw [if_pos e] at hg
      cases hgood : good
      · exact old hgood
      · rw [hgood] at hg
        have h1 : turn = 1 := by
          rcases bt.2 with z | z
          · rw [z] at hg
            cases hg
          · exact z
        have eg : g t.one = g t.other := by omega
        have w := (r1.step ad).trans (eg ▸ r2).symm
        refine ⟨g t.one, ?_, ?_⟩
        · have := h.le t.one ok.1 ok.2.1
          have := ok.2.1
          omega
        · have z := bt.1
          rw [h1] at z
          rw [show ((bit (s t.one) ^^ t.foe) ^^ bit (s t.other)) = true from by
            revert z
            cases bit (s t.one) <;> cases bit (s t.other) <;> cases t.foe <;> decide] at w
          exact w
    · rw [if_neg e] at hg
      exact old hg
/-! ### d.update(e) -/
def rUpdate : V → List V → Hp → VK → Prop := fun x vs H Q => ∃ (a b : Addr) (kvs more : List (Key × V)), x = .ref a ∧ vs = [.ref b] ∧ H a = some (.dK kvs) ∧ H b = some (.dK more) ∧ a ≠ b ∧ kvs.length + more.length ≤ sizeLine ∧ Q .non (upd H a (.dK (mergeK kvs more)))
theorem mt_update {X : Cx} : MtR X "dict.update" rUpdate := by
  intro pins s σ H x vs v us Q I rx rv h
  obtain ⟨a, b, kvs, more, ex, ev, e1, e2, ne, hl, q⟩ := h
  subst ex
  subst ev
  obtain rfl : v = Value.ref a := rx
  obtain ⟨u, eu, r1⟩ := vals1 rv
  subst eu
  obtain rfl : u = Value.ref b := r1
  obtain ⟨z1, hd1, vs1, rel1, dd1⟩ := dk_of I.hok e1
  obtain ⟨z2, hd2, vs2, rel2, dd2⟩ := dk_of I.hok e2
  refine call_meetsIn PySem.F.slot_dict_update dd1.typeIs PySem.F.entry_dict_update (PySem.F.args_dict_update_2 _ _) (meets_dict_update (mixKind X.prog X.w) a b ne hd2) ⟨vs1, vs2, dd1, dd2, by rw [← rel1.length, ← rel2.length]; exact hl, fun h' dd' _ hs => ⟨.non, _, ?_, rfl, q⟩⟩
  have he : ∃ q, h'.get? a = some q := let ⟨q, _, _, hq, _⟩ := dd'; ⟨q, hq⟩
  exact d_write (t' := s.toks) I (by rw [e1]; exact True.intro) hs he (dk_new (Nat.le_trans (length_mergeK more kvs) hl) hd1 (rel2.merge rel1) dd')
/-! ### for each place its ties -/
abbrev Nb := Int × Bool
def NbV (H : Hp) (v : V) (p : Nb) : Prop := ∃ a, v = .ref a ∧ H a = some (.tup [.int p.1, .str (kindS p.2)])
theorem NbV.tk {H H' : Hp} (k : Tk H H') {v : V} {p : Nb} (h : NbV H v p) : NbV H' v p := by
  obtain ⟨a, rfl, e⟩ := h
  exact ⟨a, rfl, k _ _ e⟩
structure Around (H : Hp) (L : Addr) (As : List Addr) (N : Nat → List Nb) : Prop where
  at' : H L = some (.lst (As.map V.ref))
  nd : As.Nodup
  each : ∀ j a, As[j]? = some a → ∃ vs, H a = some (.lst vs) ∧ Paired (NbV H) vs (N j)
  out : L ∉ As
theorem Around.same {H H' : Hp} {L : Addr} {As : List Addr} {N : Nat → List Nb} (h : Around H L As N) (s : Same H H') : Around H' L As N :=
  ⟨s _ _ h.at', h.nd, fun j a e => by
    obtain ⟨vs, h1, h2⟩ := h.each j a e
    exact ⟨vs, s _ _ h1, Paired.mono (fun _ _ x => x.tk (Same.tk s)) h2⟩, h.out⟩
theorem Around.put {H : Hp} {L q : Addr} {As : List Addr} {N : Nat → List Nb} (h : Around H L As N) {j : Nat} {a : Addr} {vs : List V} {p : Nb} (ea : As[j]? = some a) (ev : H a = some (.lst vs)) (eq : NbV H (.ref q) p) :
    Around (upd H a (.lst (vs ++ [.ref q]))) L As (fun i => N i ++ if i = j then [p] else []) := by
  have k : Tk H (upd H a (.lst (vs ++ [.ref q]))) := tk_lst ev
  refine ⟨?_, h.nd, fun i b e => ?_, h.out⟩
  · have ne : L ≠ a := fun z => h.out (by rw [z]; exact List.mem_of_getElem? ea)
    rw [upd_ne ne]
    exact h.at'
  · obtain ⟨ws, h1, h2⟩ := h.each i b e
    by_cases hij : i = j
    · subst hij
      rw [ea] at e
      cases e
      rw [ev] at h1
      cases h1
      refine ⟨_, upd_same, ?_⟩
      rw [if_pos rfl]
      exact Paired.snoc (Paired.mono (fun _ _ x => x.tk k) h2) (eq.tk k)
    · have ne : b ≠ a := fun z => hij (by
        subst z
        exact (List.getElem?_inj (List.getElem?_eq_some_iff.mp e).1 h.nd).mp (e.trans ea.symm))
      refine ⟨ws, by rw [upd_ne ne]; exact h1, ?_⟩
      rw [if_neg hij, List.append_nil]
      exact Paired.mono (fun _ _ x => x.tk k) h2
def nb1 (t : Tie) (i : Int) : List Nb := (if i = t.one then [(t.other, t.foe)] else []) ++ (if i = t.other then [(t.one, t.foe)] else [])
def nbs (ts : List Tie) (i : Int) : List Nb := ts.flatMap fun t => nb1 t i
theorem nbs_snoc (ts : List Tie) (t : Tie) (i : Int) : nbs (ts ++ [t]) i = nbs ts i ++ nb1 t i := by
  unfold nbs
  rw [List.flatMap_append]
  simp
theorem nb1_len (t : Tie) (i : Int) : (nb1 t i).length ≤ 2 := by
  unfold nb1
  rw [List.length_append]
  split <;> split <;> simp
theorem nbs_len (ts : List Tie) (i : Int) : (nbs ts i).length ≤ 2 * ts.length := by
  induction ts with
  | nil => simp [nbs]
  | cons t ts ih =>
    have h := nb1_len t i
    unfold nbs at ih ⊢
    rw [List.flatMap_cons, List.length_append, List.length_cons]
    omega
theorem mem_nbs {ts : List Tie} {i : Int} {p : Nb} : p ∈ nbs ts i ↔ Adj ts i p.1 p.2 := by
  unfold nbs Adj nb1
  rw [List.mem_flatMap]
  constructor
  · rintro ⟨t, ht, h⟩
    refine ⟨t, ht, ?_⟩
    rcases List.mem_append.mp h with h | h
    · split at h
      · rename_i e
        rw [List.mem_singleton] at h
        subst h
        exact ⟨rfl, .inl ⟨e.symm, rfl⟩⟩
      · simp at h
    · split at h
      · rename_i e
        rw [List.mem_singleton] at h
        subst h
        exact ⟨rfl, .inr ⟨rfl, e.symm⟩⟩
      · simp at h
  · rintro ⟨t, ht, e, h⟩
    refine ⟨t, ht, List.mem_append.mpr ?_⟩
    obtain ⟨p1, p2⟩ := p
    simp only at e h
    rcases h with ⟨h1, h2⟩ | ⟨h1, h2⟩
    · left
      rw [if_pos h1.symm, List.mem_singleton, ← e, ← h2]
    · right
      rw [if_pos h2.symm, List.mem_singleton, ← e, ← h1]
/-- the list that neighbours tells -/
def AroundAt (H : Hp) (v : V) (n : Int) (ts : List Tie) : Prop := ∃ L As, v = .ref L ∧ (As.length : Int) = n ∧ Around H L As (fun j => nbs ts j)
theorem AroundAt.same {H H' : Hp} {v : V} {n : Int} {ts : List Tie} (h : AroundAt H v n ts) (s : Same H H') : AroundAt H' v n ts := by
  obtain ⟨L, As, rfl, h1, h2⟩ := h
  exact ⟨L, As, rfl, h1, h2.same s⟩
def spNeighbours : Sp := fun vs H Q _ => ∃ (v : V) (n : Int) (ts : List Tie), vs = [v] ∧ WebAt H v n ts ∧ WebOk n ts ∧
  ∀ v' H', AroundAt H' v' n ts → Same H H' → Q v' H'
section
variable {P : Program} {w : World} {K : PySem.W.Frag} {mg : Str → Option Value} {base : Heap}
theorem ok_neighbours {f : Addr} {fd : FuncData} (F : Fun K "neighbours" "neighbours" s_neighbours f fd) (M : Free mg) : FnOk P w K mg base CX0 1 f fd ["web"] spNeighbours := by
  refine F.ok sc_neighbours (fun vs H Q E h => ?_) (fun cdv A outer s H vs Q E hr h => ?_)
  · obtain ⟨v, n, ts, rfl, _⟩ := h
    rfl
  · obtain ⟨v, n, ts, rfl, ⟨a, b, us, rfl, ha, hb, hp⟩, ok, q⟩ := h
    refine ⟨_, (pss_cons (ps_asg (pv 0) (pg_tup rfl (pgs_cons (pg_name (i := 1) sc_neighbours.nd rfl (.inl rfl)) (pgs_cons (pg_name (i := 2) sc_neighbours.nd rfl (.inl rfl)) pgs_nil))))
      (pss_cons (ps_setLc (i := 3) (own := [("place", 4)]) (g := gName 4) (tt := tYes) rfl sc_neighbours.nd rfl rfl (sw_true rfl rfl rfl (by decide +kernel)) (pi_range1 (by rfl) M.range (pa_cons (pv 1) pa_nil)) (blkOk_by (N := N_neighbours) (sc := defScope s_neighbours) (own := [("place", 4)]) (by decide +kernel)) (fun _ _ _ _ _ => (pg_name (i := 4) sc_neighbours.nd rfl (.inl rfl))) (fun _ _ _ _ _ => pts_nil) (fun _ _ _ _ _ => (pe_lst pa_nil)))
      (pss_cons (ps_for PassesOwn.never rfl (pi_tup (pv 2)) (pg_tup rfl (pgs_cons (pg_name (i := 5) sc_neighbours.nd rfl (.inl rfl)) (pgs_cons (pg_name (i := 6) sc_neighbours.nd rfl (.inl rfl)) (pgs_cons (pg_name (i := 7) sc_neighbours.nd rfl (.inl rfl)) pgs_nil))))
        (pss_cons (ps_expr (pe_bm PySem.F.plainAttrs_list PySem.F.slot_list_append PySem.F.type_list_append mt_append (pe_ix ix_list (pv 3) (pv 5) (fun _ _ => rfl)) (pa_cons (pe_tup (pa_cons (pv 6) (pa_cons (pv 7) pa_nil))) pa_nil)))
        (pss_one (ps_expr (pe_bm PySem.F.plainAttrs_list PySem.F.slot_list_append PySem.F.type_list_append mt_append (pe_ix ix_list (pv 3) (pv 6) (fun _ _ => rfl)) (pa_cons (pe_tup (pa_cons (pv 5) (pa_cons (pv 7) pa_nil))) pa_nil))))))
      (pss_one (ps_ret (pv 3)))))), ?_⟩
    obtain ⟨k, rfl⟩ : ∃ k : Nat, n = k := ⟨n.toNat, by have := ok.lo; omega⟩
    have hk : k ≤ 40 := by have := ok.hi; omega
    -- many, ties = web
    refine ⟨.ref a, rfl, a, _, rfl, SqT.of ha, rfl, _, _, rfl, _, _, rfl, rfl, ?_⟩
    -- around
    refine ⟨.int k, rfl, k, rfl, by omega, by omega, fun L nL => ?_⟩
    rw [Int.toNat_natCast]
    refine lc_range (lo := 0) (n := k) (fun i H' => ∃ As : List Addr, As.length = i ∧ Around H' L As (fun _ => []) ∧ (∀ x ∈ As, H x = none) ∧ Same H H') ?_ ?_ ?_
    · exact ⟨[], rfl, ⟨upd_same, List.nodup_nil, fun j a e => by simp at e, by simp⟩, fun x hx => by simp at hx, same_new nL⟩
    · rintro i H1 hi ⟨As, hl, hA, hf, s1⟩
      refine ⟨rfl, Nat.zero_le _, fun p np => ?_⟩
      have hA2 := hA.same (same_new (o := .lst []) np)
      refine ⟨_, hA2.at', by rw [List.length_map]; exact small1000 (by omega), As ++ [p], by rw [List.length_append, hl]; rfl, ?_, fun x hx => ?_, Same.mut (s1.trans (same_new np)) nL⟩
      · have npA : p ∉ As := fun z => by
          obtain ⟨j, hj⟩ := List.getElem?_of_mem z
          obtain ⟨vs, h1, _⟩ := hA.each j p hj
          rw [np] at h1
          cases h1
        have npL : p ≠ L := fun z => by
          have h1 := hA.at'
          rw [← z, np] at h1
          cases h1
        refine ⟨by rw [upd_same, List.map_append]; rfl, ?_, fun j x e => ?_, ?_⟩
        · rw [List.nodup_append]
          refine ⟨hA.nd, by simp, fun x hx y hy z => ?_⟩
          rw [List.mem_singleton] at hy
          subst hy
          subst z
          exact npA hx
        · have hx : x ≠ L := fun z => by
            subst z
            rcases List.mem_append.mp (List.mem_of_getElem? e) with h | h
            · exact hA.out h
            · exact npL (List.mem_singleton.mp h).symm
          rcases List.mem_append.mp (List.mem_of_getElem? e) with h | h
          · obtain ⟨j2, e2⟩ := List.getElem?_of_mem h
            obtain ⟨vs, h1, h2⟩ := hA2.each j2 x e2
            cases h2
            exact ⟨[], by rw [upd_ne hx]; exact h1, .nil⟩
          · rw [List.mem_singleton] at h
            subst h
            exact ⟨[], by rw [upd_ne hx]; exact upd_same, .nil⟩
        · intro z
          rcases List.mem_append.mp z with h | h
          · exact hA.out h
          · exact npL (List.mem_singleton.mp h).symm
      · rcases List.mem_append.mp hx with h | h
        · exact hf x h
        · rw [List.mem_singleton.mp h]
          exact s1.free np
    rintro H0 ⟨As, hl, hA, hf, s0⟩
    have nLH : H L = none := nL
    -- the loop
    refine ⟨.ref b, rfl, b, rfl, ⟨_, SqT.of (s0 _ _ hb)⟩, ?_⟩
    have hlen : us.length = ts.length := Paired.length hp
    refine for_tup (xs := us) (fun i σ' H' => ∃ y5 y6 y7 : Option V, σ' = [some (.ref a), some (.int k), some (.ref b), some (.ref L), none, y5, y6, y7] ∧ Around H' L As (fun j => nbs (ts.take i) j) ∧ Same H H') ?_ ?_ ?_ ?_
    · exact ⟨none, none, none, rfl, hA, s0⟩
    · rintro i σ' H' _ ⟨y5, y6, y7, rfl, hA1, s1⟩
      exact SqT.of (s1 _ _ hb)
    · rintro i x σ' H1 ex ⟨y5, y6, y7, rfl, hA1, s1⟩
      obtain ⟨t, et, c, rfl, hc⟩ := Paired.at hp ex
      have okt := ok.ok t (List.mem_of_getElem? et)
      have hti := (List.getElem?_eq_some_iff.mp et).1
      have etk : ts.take (i + 1) = ts.take i ++ [t] := by
        rw [List.take_add_one, et]
        rfl
      have hts := ok.few
      refine ⟨c, _, rfl, SqT.of (s1 _ _ hc), rfl, _, _, rfl, _, _, rfl, _, _, rfl, rfl, ?_⟩
      obtain ⟨o1, o2, o3, o4, o5⟩ := okt
      -- the first
      obtain ⟨x1, e1, e1'⟩ := getI (xs := As) o1 (by omega)
      obtain ⟨vs1, g1, p1⟩ := hA1.each _ _ e1'
      have l1 := Paired.length p1
      have l1' := nbs_len (ts.take i) (t.one.toNat : Int)
      rw [List.length_take] at l1'
      refine ⟨.ref L, rfl, .int t.one, rfl, L, _, t.one, .ref x1, rfl, rfl, SqL.of hA1.at', ?_, .inl ⟨rfl, _, SqL.of g1⟩, .int t.other, rfl, .str (kindS t.foe), rfl, by show 2 ≤ sizeLine; decide, fun p np => ?_⟩
      · exact atI_of o1 (by rw [List.getElem?_map, e1']; rfl)
      have A2 := hA1.same (same_new (o := .tup [.int t.other, .str (kindS t.foe)]) np)
      refine ⟨x1, vs1, _, rfl, rfl, same_new np _ _ g1, small1000 (by omega), ?_⟩
      have A3 := A2.put e1' (same_new np _ _ g1) (q := p) (p := (t.other, t.foe)) ⟨p, rfl, upd_same⟩
      have s3 : Same H (upd (upd H1 p (.tup [.int t.other, .str (kindS t.foe)])) x1 (.lst (vs1 ++ [.ref p]))) := Same.mut (s1.trans (same_new np)) (hf _ (List.mem_of_getElem? e1'))
      generalize upd (upd H1 p (.tup [.int t.other, .str (kindS t.foe)])) x1 (.lst (vs1 ++ [.ref p])) = H3 at A3 s3
      -- the second
      obtain ⟨x2, e2, e2'⟩ := getI (xs := As) o3 (by omega)
      obtain ⟨vs2, g2, p2⟩ := A3.each _ _ e2'
      have l2 := Paired.length p2
      rw [List.length_append] at l2
      have l2' := nbs_len (ts.take i) (t.other.toNat : Int)
      rw [List.length_take] at l2'
      have l2'' : (if t.other.toNat = t.one.toNat then [(t.other, t.foe)] else []).length ≤ 1 := by split <;> simp
      refine ⟨.ref L, rfl, .int t.other, rfl, L, _, t.other, .ref x2, rfl, rfl, SqL.of A3.at', ?_, .inl ⟨rfl, _, SqL.of g2⟩, .int t.one, rfl, .str (kindS t.foe), rfl, by show 2 ≤ sizeLine; decide, fun p' np' => ?_⟩
      · exact atI_of o3 (by rw [List.getElem?_map, e2']; rfl)
      have A4 := A3.same (same_new (o := .tup [.int t.one, .str (kindS t.foe)]) np')
      refine ⟨x2, vs2, _, rfl, rfl, same_new np' _ _ g2, small1000 (by omega), ?_⟩
      have A5 := A4.put e2' (same_new np' _ _ g2) (q := p') (p := (t.one, t.foe)) ⟨p', rfl, upd_same⟩
      refine ⟨_, _, _, rfl, ?_, Same.mut (s3.trans (same_new np')) (hf _ (List.mem_of_getElem? e2'))⟩
      refine ⟨A5.at', A5.nd, fun j z ez => ?_, A5.out⟩
      obtain ⟨ws, w1, w2⟩ := A5.each j z ez
      refine ⟨ws, w1, ?_⟩
      rw [etk, nbs_snoc]
      have en : nb1 t j = (if j = t.one.toNat then [(t.other, t.foe)] else []) ++ (if j = t.other.toNat then [(t.one, t.foe)] else []) := by
        unfold nb1
        congr 1
        · by_cases h : j = t.one.toNat
          · rw [if_pos h, if_pos (by omega)]
          · rw [if_neg h, if_neg (by omega)]
        · by_cases h : j = t.other.toNat
          · rw [if_pos h, if_pos (by omega)]
          · rw [if_neg h, if_neg (by omega)]
      rw [en, ← List.append_assoc]
      exact w2
    · rintro σ' H1 ⟨y5, y6, y7, rfl, hA1, s1⟩
      rw [hlen, List.take_length] at hA1
      exact ⟨.ref L, rfl, q _ _ ⟨L, As, rfl, by rw [hl], hA1⟩ s1⟩
end
/-! ### the places that ties lead to -/
def sideI (b : Bool) : Int := if b then 1 else 0
def kvOf (ks : List Nb) : List (Key × V) := ks.map fun p => (Sum.inl p.1, V.int (sideI p.2))
theorem kvOf_none {z : Int} : ∀ {ks : List Nb}, z ∉ ks.map (·.1) → valV (kvOf ks) (Sum.inl z) = none
  | [], _ => rfl
  | p :: ks, h => by
    rw [List.map_cons, List.mem_cons, not_or] at h
    have e := kvOf_none (ks := ks) h.2
    have h1 := h.1
    unfold kvOf at e ⊢
    rw [List.map_cons, valV_neg (fun z => h1 (Sum.inl.inj z).symm)]
    exact e
theorem kvOf_some {z : Int} {b : Bool} : ∀ {ks : List Nb}, (ks.map (·.1)).Nodup → (z, b) ∈ ks → valV (kvOf ks) (Sum.inl z) = some (.int (sideI b))
  | p :: ks, nd, h => by
    rw [List.map_cons, List.nodup_cons] at nd
    rcases List.mem_cons.mp h with e | e
    · subst e
      unfold kvOf
      rw [List.map_cons, valV_pos rfl]
    · have q := kvOf_some (ks := ks) nd.2 e
      have ne : p.1 ≠ z := fun y => nd.1 (by rw [y]; exact List.mem_map.mpr ⟨_, e, rfl⟩)
      unfold kvOf at q ⊢
      rw [List.map_cons, valV_neg (fun y => ne (Sum.inl.inj y))]
      exact q
theorem kvOf_put {ks : List Nb} {z : Int} {b : Bool} (h : z ∉ ks.map (·.1)) : putK (kvOf ks) (Sum.inl z) (.int (sideI b)) = kvOf (ks ++ [(z, b)]) := by
  unfold putK
  rw [if_neg]
  · unfold kvOf
    rw [List.map_append]
    rfl
  · intro g
    rw [List.any_eq_true] at g
    obtain ⟨kv, h1, h2⟩ := g
    unfold kvOf at h1
    rw [List.mem_map] at h1
    obtain ⟨p, hp, rfl⟩ := h1
    exact h (List.mem_map.mpr ⟨p, hp, Sum.inl.inj (of_decide_eq_true h2)⟩)
theorem kvOf_len (ks : List Nb) : (kvOf ks).length = ks.length := by unfold kvOf; rw [List.length_map]
theorem pigeon : ∀ (n : Nat) (xs : List Int), xs.Nodup → (∀ x ∈ xs, 0 ≤ x ∧ x < n) → xs.length ≤ n
  | 0, xs, _, h => by
    cases xs with
    | nil => simp
    | cons x r =>
      have := h x (by simp)
      omega
  | n + 1, xs, nd, h => by
    have q := pigeon n (xs.erase (n : Int)) (nd.erase _) fun x hx => by
      have h1 := h x (List.mem_of_mem_erase hx)
      have h2 : x ≠ n := (List.Nodup.mem_erase_iff nd).mp hx |>.1
      omega
    have l := List.length_erase (a := (n : Int)) (l := xs)
    split at l
    · omega
    · omega
structure SF (ts : List Tie) (s : Int) (ks : List Nb) (wl ex : List Int) : Prop where
  nd : (ks.map (·.1)).Nodup
  rp : ∀ p ∈ ks, RP ts s p.1 p.2
  st : s ∈ ks.map (·.1)
  sub : ∀ x ∈ wl, x ∈ ks.map (·.1)
  le : wl.length ≤ ks.length
  cl : ∀ x ∈ ks.map (·.1), x ∉ wl → x ∉ ex → ∀ y k, Adj ts x y k → y ∈ ks.map (·.1)
theorem SF.keys {ts : List Tie} {s : Int} {ks : List Nb} {wl ex : List Int} (h : SF ts s ks wl ex) {x : Int} (hx : x ∈ ks.map (·.1)) : ∃ b, (x, b) ∈ ks ∧ RP ts s x b := by
  obtain ⟨p, hp, rfl⟩ := List.mem_map.mp hx
  exact ⟨p.2, hp, h.rp p hp⟩
theorem SF.few {ts : List Tie} {n : Nat} {s : Int} {ks : List Nb} {wl ex : List Int} (h : SF ts s ks wl ex) (ok : ∀ t ∈ ts, TieOk n t) (hs : 0 ≤ s ∧ s < n) : ks.length ≤ n := by
  have q := pigeon n (ks.map (·.1)) h.nd fun x hx => by
    obtain ⟨b, _, hb⟩ := h.keys hx
    exact Rch.rng ok hs ⟨b, hb⟩
  rw [List.length_map] at q
  exact q
theorem SF.all {ts : List Tie} {s : Int} {ks : List Nb} (h : SF ts s ks [] []) (z : Int) : z ∈ ks.map (·.1) ↔ Rch ts s z := by
  constructor
  · intro hz
    obtain ⟨b, _, hb⟩ := h.keys hz
    exact ⟨b, hb⟩
  · intro hz
    exact hz.ind (fun x => x ∈ ks.map (·.1)) h.st fun x y k hx ad => h.cl x hx (by simp) (by simp) y k ad
theorem SF.pop {ts : List Tie} {s p : Int} {ks : List Nb} {wl : List Int} (h : SF ts s ks (wl ++ [p]) []) : SF ts s ks wl [p] :=
  ⟨h.nd, h.rp, h.st, fun x hx => h.sub x (List.mem_append_left _ hx), by have := h.le; rw [List.length_append] at this; omega, fun x hx h1 h2 => h.cl x hx (fun z => by
    rcases List.mem_append.mp z with z | z
    · exact h1 z
    · exact h2 z) (by simp)⟩
theorem SF.push {ts : List Tie} {s p y : Int} {b f : Bool} {ks : List Nb} {wl : List Int} (h : SF ts s ks wl [p]) (hp : RP ts s p b) (ad : Adj ts p y f) (hy : y ∉ ks.map (·.1)) : SF ts s (ks ++ [(y, b ^^ f)]) (wl ++ [y]) [p] := by
  have em : (ks ++ [(y, b ^^ f)]).map (·.1) = ks.map (·.1) ++ [y] := by rw [List.map_append]; rfl
  refine ⟨?_, fun q hq => ?_, ?_, fun x hx => ?_, ?_, fun x hx h1 h2 z k hz => ?_⟩
  · rw [em, List.nodup_append]
    refine ⟨h.nd, by simp, fun x hx z hz e => ?_⟩
    rw [List.mem_singleton] at hz
    subst hz
    subst e
    exact hy hx
  · rcases List.mem_append.mp hq with q1 | q1
    · exact h.rp q q1
    · rw [List.mem_singleton] at q1
      subst q1
      exact hp.step ad
  · rw [em]
    exact List.mem_append_left _ h.st
  · rw [em]
    rcases List.mem_append.mp hx with q1 | q1
    · exact List.mem_append_left _ (h.sub x q1)
    · exact List.mem_append_right _ q1
  · rw [List.length_append, List.length_append]
    have := h.le
    simp
    omega
  · rw [em] at hx ⊢
    rcases List.mem_append.mp hx with q1 | q1
    · exact List.mem_append_left _ (h.cl x q1 (fun q2 => h1 (List.mem_append_left _ q2)) h2 z k hz)
    · exact absurd (List.mem_append_right _ q1) h1
theorem SF.done {ts : List Tie} {s p : Int} {ks : List Nb} {wl : List Int} (h : SF ts s ks wl [p]) (hp : ∀ q ∈ nbs ts p, q.1 ∈ ks.map (·.1)) : SF ts s ks wl [] :=
  ⟨h.nd, h.rp, h.st, h.sub, h.le, fun x hx h1 _ y k ad => by
    by_cases e : x = p
    · subst e
      exact hp (y, k) (mem_nbs.mpr ad)
    · exact h.cl x hx h1 (fun z => e (List.mem_singleton.mp z)) y k ad⟩
theorem side_xor (b f : Bool) : (if decide (V.str (kindS f) = V.str "friend") = true then sideI b else 1 - sideI b) = sideI (b ^^ f) := by
  cases f
  · cases b <;> rfl
  · cases b <;> rfl
theorem room1 {k : Nat} {A : PySem.Around} (r : Room k A) : A.units + 1 < cLine := by have := r.un; omega
structure SidesOf (ts : List Tie) (s : Int) (ks : List Nb) : Prop where
  nd : (ks.map (·.1)).Nodup
  rp : ∀ p ∈ ks, RP ts s p.1 p.2
  all : ∀ z, z ∈ ks.map (·.1) ↔ Rch ts s z
def spSidesFrom : Sp := fun vs H Q _ => ∃ (v : V) (n : Int) (s : Int) (ts : List Tie), vs = [.int s, v] ∧ AroundAt H v n ts ∧ WebOk n ts ∧ 0 ≤ s ∧ s < n ∧
  ∀ d ks H', H d = none → H' d = some (.dK (kvOf ks)) → Same H H' → SidesOf ts s ks → Q (.ref d) H'
section
variable {P : Program} {w : World} {K : PySem.W.Frag} {mg : Str → Option Value} {base : Heap}
theorem ok_sides_from {f : Addr} {fd : FuncData} (F : Fun K "sides_from" "sides_from" s_sides_from f fd) (M : Free mg) : FnOk P w K mg base CX0 1 f fd ["start", "around"] spSidesFrom := by
  refine F.ok sc_sides_from (fun vs H Q E h => ?_) (fun cdv A outer sh H vs Q E hr h => ?_)
  · obtain ⟨v, n, s, ts, rfl, _⟩ := h
    rfl
  · obtain ⟨v, n, s, ts, rfl, ⟨L, As, rfl, hl, hA⟩, ok, hs0, hs1, q⟩ := h
    have hu := room1 hr
    refine ⟨_, (pss_cons (ps_set (i := 2) sc_sides_from.nd rfl (.inl rfl) (pe_disp (pps_cons (pv 0) pe_int pps_nil) (by rfl) (by rfl) (fun z => by cases z) (by decide)))
      (pss_cons (ps_set (i := 3) sc_sides_from.nd rfl (.inl rfl) (pe_lst (pa_cons (pv 0) pa_nil)))
      (pss_cons (ps_while PassesOwn.never (pt_truth (pv 3) (by intro _; rfl))
        (pss_cons (ps_set (i := 4) sc_sides_from.nd rfl (.inl rfl) (pe_bm0 PySem.F.plainAttrs_list PySem.F.slot_list_pop PySem.F.type_list_pop mt_pop (pv 3)))
        (pss_one (ps_for PassesOwn.never rfl (pi_list (pe_ix ix_list (pv 1) (pv 4) (fun _ _ => rfl))) (pg_tup rfl (pgs_cons (pg_name (i := 5) sc_sides_from.nd rfl (.inl rfl)) (pgs_cons (pg_name (i := 6) sc_sides_from.nd rfl (.inl rfl)) pgs_nil)))
          (pss_one (ps_if (pt_cmp (pc_dnotin hu (pv 5) (pv 2)))
            (Evl.pss_cut (ps_dput hu (pv 2) (pv 5) (pe_ifExp (pt_cmpR op_eq (pv 6) pe_str (nomark _)) (pe_dget hu (pv 2) (pv 4) (fun _ _ => rfl)) (pe_op op_sub pe_int (pe_dget hu (pv 2) (pv 4) (fun _ _ => rfl)))) rfl)
            (pss_one (ps_expr (pe_bm PySem.F.plainAttrs_list PySem.F.slot_list_append PySem.F.type_list_append mt_append (pv 3) (pa_cons (pv 5) pa_nil)))))
            pss_nil))))))
      (pss_one (ps_ret (pv 2)))))), ?_⟩
    obtain ⟨k, rfl⟩ : ∃ k : Nat, n = k := ⟨n.toNat, by have := ok.lo; omega⟩
    have hk : k ≤ 40 := by have := ok.hi; omega
    have hts := ok.few
    -- sides
    refine fun d nd => ⟨.int s, rfl, upd_same, [(Sum.inl s, .int 0)], rfl, (by show 1 ≤ 15; decide), ?_⟩
    have eH : upd (upd H d (.dK [])) d (.dK (mergeK [] [(Sum.inl s, .int 0)])) = upd H d (.dK (kvOf [(s, false)])) := by
      funext b
      by_cases hb : b = d
      · subst hb
        rw [upd_same, upd_same]
        rfl
      · rw [upd_ne hb, upd_ne hb, upd_ne hb]
    rw [eH]
    -- waiting
    refine ⟨.int s, rfl, by show 1 ≤ sizeLine; decide, fun W nW => ?_⟩
    have hdW : W ≠ d := (ne_of_none upd_same nW).symm
    have nWH : H W = none := by rw [upd_ne hdW] at nW; exact nW
    refine ⟨fun m σ' H' => ∃ (y4 y5 y6 : Option V) (ks : List Nb) (wl : List Int), σ' = [some (.int s), some (.ref L), some (.ref d), some (.ref W), y4, y5, y6] ∧ H' d = some (.dK (kvOf ks)) ∧ H' W = some (.lst (wl.map V.int)) ∧ Same H H' ∧ SF ts s ks wl [] ∧ m = 2 * (k - ks.length) + wl.length, ⟨_, none, none, none, [(s, false)], [s], rfl, ?_, upd_same, Same.mut (same_new nd) nWH, ?_, rfl⟩, ?_⟩
    · rw [upd_ne (Ne.symm hdW)]
      exact upd_same
    · exact ⟨by simp, fun p hp => by rw [List.mem_singleton.mp hp]; exact .nil, by simp, fun x hx => hx, Nat.le_refl _, fun x hx h1 => absurd hx h1⟩
    · rintro m σ' H1 ⟨y4, y5, y6, ks, wl, rfl, hd, hW, s1, sf, hm⟩
      refine ⟨.ref W, rfl, _, .inl ⟨_, SqL.of hW, rfl⟩, ?_⟩
      refine ite2 (fun hb => ?_) (fun hb => ?_)
      · -- a place
        cases hwl : wl with
        | nil => rw [hwl] at hb; cases hb
        | cons z zs =>
        obtain ⟨ys, p, e⟩ : ∃ (ys : List Int) (p : Int), z :: zs = ys ++ [p] := ⟨(z :: zs).dropLast, (z :: zs).getLast (by simp), (List.dropLast_concat_getLast (by simp)).symm⟩
        rw [hwl, e] at hW sf hm
        have hpk := sf.sub p (by simp)
        obtain ⟨b, hb1, hb2⟩ := sf.keys hpk
        have hpr := Rch.rng ok.ok ⟨hs0, hs1⟩ ⟨b, hb2⟩
        have sp := sf.pop
        have e3 : ((ys ++ [p]).map V.int).dropLast = ys.map V.int := by simp
        refine ⟨fun σ' H' => ∃ m', m' < m ∧ ∃ (y4 y5 y6 : Option V) (ks : List Nb) (wl : List Int), σ' = [some (.int s), some (.ref L), some (.ref d), some (.ref W), y4, y5, y6] ∧ H' d = some (.dK (kvOf ks)) ∧ H' W = some (.lst (wl.map V.int)) ∧ Same H H' ∧ SF ts s ks wl [] ∧ m' = 2 * (k - ks.length) + wl.length, fun _ _ h => h, ?_⟩
        refine ⟨.ref W, rfl, .inl ⟨rfl, _, SqL.of hW⟩, W, _, .int p, rfl, rfl, hW, by simp, ?_⟩
        rw [e3]
        have hd2 : (upd H1 W (.lst (ys.map V.int))) d = some (.dK (kvOf ks)) := by rw [upd_ne (Ne.symm hdW)]; exact hd
        have hW2 : (upd H1 W (.lst (ys.map V.int))) W = some (.lst (ys.map V.int)) := upd_same
        have s2 : Same H (upd H1 W (.lst (ys.map V.int))) := Same.mut s1 nWH
        generalize upd H1 W (.lst (ys.map V.int)) = H2 at hd2 hW2 s2
        have A2 := hA.same s2
        obtain ⟨x, ex, ex'⟩ := getI (xs := As) hpr.1 (by omega)
        obtain ⟨us, g, pr⟩ := A2.each _ _ ex'
        have epk : ((p.toNat : Nat) : Int) = p := by omega
        rw [epk] at pr
        refine ⟨.ref L, rfl, .int p, rfl, L, _, p, .ref x, rfl, rfl, SqL.of A2.at', atI_of hpr.1 (by rw [List.getElem?_map, ex']; rfl), x, rfl, ⟨_, SqL.of g⟩, ?_⟩
        have gH : H x = some (.lst us) := by
          obtain ⟨us', g', _⟩ := hA.each _ _ ex'
          rw [s2 _ _ g'] at g
          cases g
          exact g'
        refine for_list (xs := us) (fun i σ' H' => ∃ (y5 y6 : Option V) (ks : List Nb) (wl : List Int), σ' = [some (.int s), some (.ref L), some (.ref d), some (.ref W), some (.int p), y5, y6] ∧ H' d = some (.dK (kvOf ks)) ∧ H' W = some (.lst (wl.map V.int)) ∧ Same H H' ∧ SF ts s ks wl [p] ∧ (p, b) ∈ ks ∧ (∀ q ∈ (nbs ts p).take i, q.1 ∈ ks.map (·.1)) ∧ 2 * (k - ks.length) + wl.length < m) ?_ ?_ ?_ ?_
        · exact ⟨y5, y6, ks, ys, rfl, hd2, hW2, s2, sp, hb1, fun q hq => by simp at hq, by rw [hm, List.length_append]; simp⟩
        · rintro i σ' H' _ ⟨y5, y6, ks, wl, rfl, _, _, s3, _⟩
          exact SqL.of (s3 _ _ gH)
        · rintro i u σ' H3 eu ⟨y5, y6, ks, wl, rfl, hd3, hW3, s3, sf3, hb3, hdn, hlt⟩
          have A3 := hA.same s3
          obtain ⟨us', g', pr'⟩ := A3.each _ _ ex'
          rw [s3 _ _ gH] at g'
          cases g'
          rw [epk] at pr'
          obtain ⟨⟨y, fo⟩, ey, c, rfl, hc⟩ := Paired.at pr' eu
          have ady := mem_nbs.mp (List.mem_of_getElem? ey)
          have few := sf3.few ok.ok ⟨hs0, hs1⟩
          have etk : (nbs ts p).take (i + 1) = (nbs ts p).take i ++ [(y, fo)] := by
            rw [List.take_add_one, ey]
            rfl
          refine ⟨c, _, rfl, SqT.of hc, rfl, _, _, rfl, _, _, rfl, rfl, ?_⟩
          refine ⟨.int y, rfl, .ref d, rfl, d, _, rfl, DGet.k (k := Sum.inl y) hd3, _, rfl, ?_⟩
          by_cases hy : y ∈ ks.map (·.1)
          · obtain ⟨yb, yb1, _⟩ := sf3.keys hy
            rw [kvOf_some sf3.nd yb1]
            refine ⟨_, _, ks, wl, rfl, hd3, hW3, s3, sf3, hb3, fun q hq => ?_, hlt⟩
            rw [etk] at hq
            rcases List.mem_append.mp hq with h | h
            · exact hdn q h
            · rw [List.mem_singleton.mp h]
              exact hy
          · rw [kvOf_none hy]
            have sfp := sf3.push (sf3.rp _ hb3) ady hy
            have few2 := sfp.few ok.ok ⟨hs0, hs1⟩
            have lks : (kvOf ks).length < sizeLine := by rw [kvOf_len]; exact small1000 (by omega)
            have vp := kvOf_some sf3.nd hb3
            have ep := kvOf_put (b := b ^^ fo) hy
            refine ⟨fun σ' H' => σ' = [some (.int s), some (.ref L), some (.ref d), some (.ref W), some (.int p), some (.int y), some (.str (kindS fo))] ∧ H' = upd H3 d (.dK (kvOf (ks ++ [(y, b ^^ fo)]))), ?_, ?_⟩
            · refine ⟨.str (kindS fo), rfl, rfl, _, rfl, ?_⟩
              rw [← ep]
              cases fo
              · refine ⟨.ref d, rfl, .int p, rfl, d, _, rfl, (by rw [← vp]; exact DGet.k (k := Sum.inl p) hd3), .ref d, rfl, .int y, rfl, d, _, rfl, DPut.k (k := Sum.inl y) hd3 lks, rfl, ?_⟩
                rw [Bool.xor_false]
              · refine ⟨.ref d, rfl, .int p, rfl, d, _, rfl, (by rw [← vp]; exact DGet.k (k := Sum.inl p) hd3), 1, sideI b, rfl, rfl, .ref d, rfl, .int y, rfl, d, _, rfl, DPut.k (k := Sum.inl y) hd3 lks, rfl, ?_⟩
                cases b <;> rfl
            · rintro σ' H4 ⟨rfl, rfl⟩
              have hW4 : (upd H3 d (.dK (kvOf (ks ++ [(y, b ^^ fo)])))) W = some (.lst (wl.map V.int)) := by rw [upd_ne hdW]; exact hW3
              have lw := sf3.le
              refine ⟨.ref W, rfl, .inl ⟨rfl, _, SqL.of hW4⟩, .int y, rfl, W, _, _, rfl, rfl, hW4, by rw [List.length_map]; exact small1000 (by omega), ?_⟩
              refine ⟨_, _, ks ++ [(y, b ^^ fo)], wl ++ [y], rfl, ?_, by rw [upd_same, List.map_append]; rfl, Same.mut (Same.mut s3 nd) nWH, sfp, List.mem_append_left _ hb3, fun q hq => ?_, ?_⟩
              · rw [upd_ne (Ne.symm hdW)]
                exact upd_same
              · rw [List.map_append]
                rw [etk] at hq
                rcases List.mem_append.mp hq with h | h
                · exact List.mem_append_left _ (hdn q h)
                · rw [List.mem_singleton.mp h]
                  exact List.mem_append_right _ (by simp)
              · rw [List.length_append] at few2 ⊢
                rw [List.length_append]
                simp only [List.length_cons, List.length_nil] at few2 ⊢
                omega
        · rintro σ' H3 ⟨y5, y6, ks, wl, rfl, hd3, hW3, s3, sf3, hb3, hdn, hlt⟩
          rw [Paired.length pr, List.take_length] at hdn
          exact ⟨_, hlt, _, _, _, ks, wl, rfl, hd3, hW3, s3, sf3.done hdn, rfl⟩
      · -- none is left
        have hwl : wl = [] := by
          cases wl with
          | nil => rfl
          | cons z zs => exact absurd rfl hb
        subst hwl
        exact ⟨.ref d, rfl, q d ks H1 nd hd s1 ⟨sf.nd, sf.rp, sf.all⟩⟩
end
theorem mem_putK {k z : Key} {v : V} {kvs : List (Key × V)} : z ∈ (putK kvs k v).map (·.1) ↔ z ∈ kvs.map (·.1) ∨ z = k := by
  unfold putK
  split
  · rename_i h
    rw [List.any_eq_true] at h
    obtain ⟨kv, h1, h2⟩ := h
    have h3 := of_decide_eq_true h2
    rw [List.map_map]
    have e : (Prod.fst ∘ fun kv : Key × V => if kv.1 = k then (kv.1, v) else kv) = Prod.fst := by
      funext p
      show (if p.1 = k then (p.1, v) else p).1 = p.1
      split <;> rfl
    rw [show ((fun x : Key × V => x.1) ∘ fun kv : Key × V => if kv.1 = k then (kv.1, v) else kv) = Prod.fst from e]
    constructor
    · exact .inl
    · rintro (h | h)
      · exact h
      · rw [h, ← h3]
        exact List.mem_map.mpr ⟨kv, h1, rfl⟩
  · rw [List.map_append, List.mem_append]
    simp
theorem mem_mergeK {z : Key} : ∀ {more kvs : List (Key × V)}, z ∈ (mergeK kvs more).map (·.1) ↔ z ∈ kvs.map (·.1) ∨ z ∈ more.map (·.1)
  | [], kvs => by
    show z ∈ kvs.map (·.1) ↔ _
    simp
  | p :: r, kvs => by
    have q := mem_mergeK (z := z) (more := r) (kvs := putK kvs p.1 p.2)
    rw [mem_putK] at q
    show z ∈ (mergeK (putK kvs p.1 p.2) r).map (·.1) ↔ _
    rw [q, List.map_cons, List.mem_cons, or_assoc]
theorem valV_isSome {k : Key} : ∀ {kvs : List (Key × V)}, (valV kvs k).isSome = true ↔ k ∈ kvs.map (·.1)
  | [] => by simp [valV_nil]
  | p :: r => by
    by_cases h : p.1 = k
    · rw [valV_pos h, List.map_cons, List.mem_cons]
      simp [h]
    · rw [valV_neg h, List.map_cons, List.mem_cons, valV_isSome]
      constructor
      · exact .inr
      · rintro (e | e)
        · exact absurd e.symm h
        · exact e
theorem kvOf_keys (ks : List Nb) : (kvOf ks).map (·.1) = (ks.map (·.1)).map Sum.inl := by
  unfold kvOf
  rw [List.map_map, List.map_map]
  rfl
theorem lead_iff {ts : List Tie} {n : Nat} (ok : ∀ t ∈ ts, TieOk n t) {i : Int} (h0 : 0 ≤ i ∧ i < n) : leader ts i ↔ ¬ ∃ x, 0 ≤ x ∧ x < i ∧ Rch ts x i := by
  constructor
  · rintro h ⟨x, h1, h2, h3⟩
    have := h x h3.symm
    omega
  · intro h q hq
    rcases Int.lt_or_le q i with l | l
    · exact absurd ⟨q, (hq.rng ok h0).1, l, hq.symm⟩ h
    · exact l
/-! ### the fixed choice, as it is told -/
def spFixed : Sp := fun vs H Q _ => ∃ (v : V) (n : Nat) (ts : List Tie), vs = [v] ∧ WebAt H v n ts ∧ WebOk n ts ∧
  (∀ ss r H', Told ts n ss → Cons ss ts → Same H H' → H' r = some (.tup (ss.map V.int)) → Q (.ref r) H') ∧ ∀ H', Odd ts n → Same H H' → Q .non H'
theorem valV_merge : ∀ {more kvs : List (Key × V)} {k : Key} {v : V}, valV (mergeK kvs more) k = some v → valV kvs k = some v ∨ (k, v) ∈ more
  | [], _, _, _, h => .inl h
  | p :: r, kvs, k, v, h => by
    have q := valV_merge (more := r) (kvs := putK kvs p.1 p.2) (k := k) (v := v) h
    rcases q with q | q
    · rw [valV_put] at q
      by_cases e : k = p.1
      · rw [if_pos e] at q
        obtain rfl := Option.some.inj q
        exact .inr (by rw [e]; simp)
      · rw [if_neg e] at q
        exact .inl q
    · exact .inr (List.mem_cons_of_mem _ q)
theorem told_of {ts : List Tie} {n : Nat} {ss : List Int} (hl : ss.length = n) (h : ∀ (i : Nat) (x : Int), ss[i]? = some x → ∃ m b, leader ts m ∧ RP ts m i b ∧ x = sideI b) : Told ts n ss := by
  refine ⟨hl, fun x hx => ?_, fun i h0 h1 => ?_⟩
  · obtain ⟨i, hi⟩ := List.getElem?_of_mem hx
    obtain ⟨m, b, _, _, rfl⟩ := h i x hi
    cases b
    · exact .inl rfl
    · exact .inr rfl
  · obtain ⟨h', e⟩ := sd_get (ss := ss) h0 (by rw [hl]; exact h1)
    obtain ⟨m, b, l, r, ex⟩ := h i.toNat _ (List.getElem?_eq_getElem h')
    refine ⟨m, l, ?_⟩
    have e2 : one? ss i = b := by
      unfold one?
      rw [e, ex]
      cases b <;> rfl
    rw [e2]
    rw [show ((i.toNat : Nat) : Int) = i from by omega] at r
    exact r
section
variable {P : Program} {w : World} {K : PySem.W.Frag} {mg : Str → Option Value} {base : Heap}
theorem ok_sides_of {f : Addr} {fd : FuncData} (F : Fun K "sides_of" "sides_of" s_sides_of f fd) (M : Free mg) (D1 : Df P w K mg base 1 "neighbours" ["web"] spNeighbours) (D2 : Df P w K mg base 1 "sides_from" ["start", "around"] spSidesFrom) (D3 : Df P w K mg base 2 "broken_by" ["web", "sides"] spBroken) : FnOk P w K mg base CX0 3 f fd ["web"] spFixed := by
  obtain ⟨f1, fd1, G1, g1, k1, b1⟩ := D1
  obtain ⟨f2, fd2, G2, g2, k2, b2⟩ := D2
  obtain ⟨f3, fd3, G3, g3, k3, b3⟩ := D3
  refine F.ok sc_sides_of (fun vs H Q E h => ?_) (fun cdv A outer sh H vs Q E hr h => ?_)
  · obtain ⟨v, n, ts, rfl, _⟩ := h
    rfl
  · obtain ⟨v, n, ts, rfl, hw, ok, q, qn⟩ := h
    have hu := room1 hr
    have hr1 : Room 1 _ := hr.mono (by decide : 1 ≤ 2)
    have hk : n ≤ 40 := by have := ok.hi; omega
    refine ⟨_, (pss_cons (ps_set (i := 1) sc_sides_of.nd rfl (.inl rfl) (pe_call G1 hr1 (by rfl) g1 k1 b1 .nil pass0 (pa_cons (pv 0) pa_nil)))
      (pss_cons (ps_set (i := 2) sc_sides_of.nd rfl (.inr rfl) pe_dnewK)
      (Evl.pss_cut (ps_for PassesOwn.never rfl (pi_range1 (by rfl) M.range (pa_cons (pe_ix ix_tup (pv 0) pe_int (fun _ _ => rfl)) pa_nil)) (pg_name (i := 3) sc_sides_of.nd rfl (.inl rfl))
        (pss_one (ps_if (pt_cmp (pc_dnotin hu (pv 3) (pv 2)))
          (pss_one (ps_expr (pe_bm PySem.F.plainAttrs_dict PySem.F.slot_dict_update PySem.F.type_dict_update mt_update (pv 2) (pa_cons (pe_call G2 hr1 (by rfl) g2 k2 b2 .nil pass0 (pa_cons (pv 3) (pa_cons (pv 1) pa_nil))) pa_nil))))
          pss_nil)))
      (pss_cons (ps_set (i := 4) sc_sides_of.nd rfl (.inl rfl) (pe_callTy call_tuple_of (by rfl) M.tuple (by decide +kernel) (pa_cons (pe_lc (own := [("place", 5)]) (g := gName 5) (tt := tYes) rfl sc_sides_of.nd (pi_range1 (by rfl) M.range (pa_cons (pe_ix ix_tup (pv 0) pe_int (fun _ _ => rfl)) pa_nil)) (blkOk_by (N := N_sides_of) (sc := defScope s_sides_of) (own := [("place", 5)]) (by decide +kernel)) (fun _ _ _ _ _ => (pg_name (i := 5) sc_sides_of.nd rfl (.inl rfl))) (fun _ _ _ _ _ => pts_nil) (fun _ _ _ _ _ => (pe_dget hu (pv 2) (pv 5) (fun _ _ => rfl)))) pa_nil)))
      (pss_cons (ps_if (pt_cmpR (op_neD hr.units) (pe_call G3 hr (by rfl) g3 k3 b3 .nil pass0 (pa_cons (pv 0) (pa_cons (pv 4) pa_nil))) (pe_tup pa_nil) (nomark _))
        (pss_one (ps_ret pe_non))
        pss_nil)
      (pss_one (ps_ret (pv 4)))))))), ?_⟩
    -- around, told
    refine ⟨v, rfl, v, n, ts, rfl, hw, ok, fun u H1 hA s1 pD nD => ?_⟩
    have nDH : H pD = none := s1.free nD
    have sA : Same H1 (upd H1 pD (.dK [])) := same_new nD
    have hw0 := hw
    obtain ⟨a, b, vs, rfl, ha, hb, hp⟩ := hw
    refine ⟨fun σ' H' => ∃ (y3 : Option V) (kvs : List (Key × V)), σ' = [some (.ref a), some u, some (.ref pD), y3, none, none] ∧ H' pD = some (.dK kvs) ∧ (∀ i : Nat, i < n → ∃ m b, leader ts m ∧ RP ts m i b ∧ valV kvs (Sum.inl (i : Int)) = some (.int (sideI b))) ∧ Same H1 H', ?_, ?_⟩
    · refine ⟨.ref a, rfl, a, _, 0, .int n, rfl, rfl, SqT.of (sA _ _ (s1 _ _ ha)), rfl, n, rfl, by omega, by omega, ?_⟩
      rw [Int.toNat_natCast]
      refine for_range (lo := 0) (n := n) (fun i σ' H' => ∃ (y3 : Option V) (kvs : List (Key × V)), σ' = [some (.ref a), some u, some (.ref pD), y3, none, none] ∧ H' pD = some (.dK kvs) ∧ kvs.length ≤ 40 * i ∧
        (∀ z, z ∈ kvs.map (·.1) ↔ ∃ y, z = Sum.inl y ∧ ∃ x, 0 ≤ x ∧ x < (i : Int) ∧ Rch ts x y) ∧ (∀ (y : Int) (v : V), valV kvs (Sum.inl y) = some v → ∃ m b, leader ts m ∧ RP ts m y b ∧ v = .int (sideI b)) ∧ Same H1 H') ?_ ?_ ?_
      · refine ⟨none, [], rfl, upd_same, by simp, fun z => ⟨fun h => by simp at h, ?_⟩, (fun y v h => by cases h), sA⟩
        rintro ⟨y, _, x, h1, h2, _⟩
        omega
      · rintro i σ' H2 hi ⟨y3, kvs, rfl, hD, hlen, hkeys, hvals, s2⟩
        rw [show (0 : Int) + (i : Nat) = i from by omega]
        have hir : 0 ≤ (i : Int) ∧ (i : Int) < n := by omega
        refine ⟨.int i, rfl, .ref pD, rfl, pD, _, rfl, DGet.k (k := Sum.inl (i : Int)) hD, _, rfl, ?_⟩
        have nx : ∀ y : Int, (∃ x, 0 ≤ x ∧ x < ((i + 1 : Nat) : Int) ∧ Rch ts x y) ↔ (∃ x, 0 ≤ x ∧ x < (i : Int) ∧ Rch ts x y) ∨ Rch ts i y := fun y => by
          constructor
          · rintro ⟨x, h1, h2, h3⟩
            by_cases e : x = i
            · subst e
              exact .inr h3
            · exact .inl ⟨x, h1, by omega, h3⟩
          · rintro (⟨x, h1, h2, h3⟩ | h)
            · exact ⟨x, h1, by omega, h3⟩
            · exact ⟨i, by omega, by omega, h⟩
        by_cases hin : (valV kvs (Sum.inl (i : Int))).isSome = true
        · rw [hin]
          obtain ⟨y, e, x, h1, h2, h3⟩ := (hkeys _).mp (valV_isSome.mp hin)
          cases e
          refine ⟨_, kvs, rfl, hD, by omega, fun z => ?_, hvals, s2⟩
          rw [hkeys]
          constructor
          · rintro ⟨y, e, h⟩
            exact ⟨y, e, (nx y).mpr (.inl h)⟩
          · rintro ⟨y, e, h⟩
            refine ⟨y, e, ?_⟩
            rcases (nx y).mp h with h | h
            · exact h
            · exact ⟨x, h1, h2, h3.trans h⟩
        · rw [Bool.not_eq_true] at hin
          rw [hin]
          have ld : leader ts (i : Int) := (lead_iff ok.ok hir).mpr fun ⟨x, h1, h2, h3⟩ => by
            have := valV_isSome.mpr ((hkeys (Sum.inl (i : Int))).mpr ⟨_, rfl, x, h1, h2, h3⟩)
            rw [hin] at this
            cases this
          refine ⟨.ref pD, rfl, .inr (.inr (.inl ⟨rfl, .inl ⟨_, hD⟩⟩)), .int i, rfl, u, rfl, u, n, i, ts, rfl, hA.same s2, ok, hir.1, hir.2, fun d ks H3 nd hd s3 so => ?_⟩
          have lks : ks.length ≤ n := by
            have q := pigeon n (ks.map (·.1)) so.nd fun x hx => Rch.rng ok.ok hir ((so.all x).mp hx)
            rw [List.length_map] at q
            exact q
          have hpd : pD ≠ d := ne_of_none hD nd
          refine ⟨pD, d, kvs, kvOf ks, rfl, rfl, s3 _ _ hD, hd, hpd, (by rw [kvOf_len, sizeLine_eq]; omega), ?_⟩
          refine ⟨_, mergeK kvs (kvOf ks), rfl, upd_same, ?_, fun z => ?_, fun y v hv => ?_, Same.mut (s2.trans s3) nD⟩
          · have := length_mergeK (kvOf ks) kvs
            rw [kvOf_len] at this
            omega
          · rw [mem_mergeK, hkeys, kvOf_keys]
            constructor
            · rintro (⟨y, e, h⟩ | h)
              · exact ⟨y, e, (nx y).mpr (.inl h)⟩
              · obtain ⟨y, hy, rfl⟩ := List.mem_map.mp h
                exact ⟨y, rfl, (nx y).mpr (.inr ((so.all y).mp hy))⟩
            · rintro ⟨y, rfl, h⟩
              rcases (nx y).mp h with h | h
              · exact .inl ⟨y, rfl, h⟩
              · exact .inr (List.mem_map.mpr ⟨y, (so.all y).mpr h, rfl⟩)
          · rcases valV_merge hv with h | h
            · exact hvals y v h
            · unfold kvOf at h
              obtain ⟨p, hp, e⟩ := List.mem_map.mp h
              cases e
              exact ⟨i, p.2, ld, so.rp p hp, rfl⟩
      · rintro σ' H2 ⟨y3, kvs, rfl, hD, hlen, hkeys, hvals, s2⟩
        refine ⟨_, kvs, rfl, hD, fun i hi => ?_, s2⟩
        obtain ⟨v, hv⟩ := Option.isSome_iff_exists.mp (valV_isSome.mpr ((hkeys (Sum.inl (i : Int))).mpr ⟨_, rfl, i, by omega, by omega, Rch.refl⟩))
        obtain ⟨m, b, l, r, rfl⟩ := hvals i v hv
        exact ⟨m, b, l, r, hv⟩
    rintro σ' H2 ⟨y3, kvs, rfl, hD, hvals, s2⟩
    have s12 := s1.trans s2
    -- sides
    refine ⟨.ref a, rfl, a, _, 0, .int n, rfl, rfl, SqT.of (s12 _ _ ha), rfl, n, rfl, by omega, by omega, fun Z nZ => ?_⟩
    rw [Int.toNat_natCast]
    refine lc_range (lo := 0) (n := n) (fun j H' => ∃ ss : List Int, H' Z = some (.lst (ss.map V.int)) ∧ ss.length = j ∧ (∀ (i : Nat) (x : Int), ss[i]? = some x → ∃ m b, leader ts m ∧ RP ts m i b ∧ x = sideI b) ∧ Same H2 H') ⟨[], upd_same, rfl, fun i x h => by simp at h, same_new nZ⟩ ?_ ?_
    · rintro j H3 hj ⟨ss, hZ, lj, hss, s3⟩
      rw [show (0 : Int) + (j : Nat) = j from by omega]
      obtain ⟨m, b, l, r, hv⟩ := hvals j hj
      refine ⟨rfl, .ref pD, rfl, .int j, rfl, pD, .int (sideI b), rfl, (by rw [← hv]; exact DGet.k (k := Sum.inl (j : Int)) (s3 _ _ hD)), _, hZ, by rw [List.length_map]; exact small1000 (by omega), ss ++ [sideI b], by rw [upd_same, List.map_append]; rfl, by rw [List.length_append, lj]; rfl, fun i x h => ?_, Same.mut s3 nZ⟩
      by_cases hi : i < ss.length
      · rw [List.getElem?_append_left hi] at h
        exact hss i x h
      · rw [List.getElem?_append_right (by omega)] at h
        have e : i = j := by
          have := (List.getElem?_eq_some_iff.mp h).1
          simp at this
          omega
        subst e
        rw [show i - ss.length = 0 from by omega] at h
        have hx : sideI b = x := Option.some.inj h
        exact ⟨m, b, l, r, hx.symm⟩
    · rintro H3 ⟨ss, hZ, lj, hss, s3⟩
      have told := told_of lj hss
      refine ⟨Z, _, rfl, .inl ⟨SqL.of hZ, fun t nt => ?_⟩⟩
      have s4 := (s12.trans s3).trans (same_new (o := .tup (ss.map V.int)) nt)
      have ht4 : (upd H3 t (.tup (ss.map V.int))) t = some (.tup (ss.map V.int)) := upd_same
      generalize upd H3 t (.tup (ss.map V.int)) = H4 at s4 ht4
      refine ⟨.ref a, rfl, .ref t, rfl, .ref a, t, n, ts, ss, rfl, hw0.tk (Same.tk s4), ok, ht4, by rw [lj], fun r H5 s5 h5 => ⟨Nat.zero_le _, fun z nz => ?_⟩⟩
      have s6 := same_new (o := .tup []) nz
      refine ⟨intsD (bad ss ts), intsD [], IntsV.dp ⟨r, rfl, s6 _ _ h5⟩, IntsV.dp ⟨z, rfl, upd_same⟩, shaped_intsD _, shaped_intsD _, _, rfl, ?_⟩
      rw [eqv_nil]
      have s46 := (s4.trans s5).trans s6
      have ht6 := s6 _ _ (s5 _ _ ht4)
      generalize upd H5 z (.tup []) = H6 at s46 ht6
      by_cases hbad : bad ss ts = []
      · rw [hbad]
        exact ⟨.ref t, rfl, q ss t H6 told (bad_nil.mp hbad) s46 ht6⟩
      · have hne : (bad ss ts).isEmpty = false := by
          cases e : bad ss ts with
          | nil => exact absurd e hbad
          | cons x y => rfl
        rw [hne]
        refine qn H6 ?_ s46
        obtain ⟨x, hx⟩ := List.exists_mem_of_ne_nil _ hbad
        unfold bad badTo at hx
        obtain ⟨h1, h2⟩ := List.mem_filter.mp hx
        exact told_odd ok.ok told (tieAt_mem h1) h2
end
def bI (b : Bool) : Int := if b = true then 1 else 0
/-! ### ties around places, by their numbers (mathematics) -/
def Jn (t : Tie) (a b : Int) : Prop := (t.one = a ∧ t.other = b) ∨ (t.one = b ∧ t.other = a)
theorem Jn.symm {t : Tie} {a b : Int} (h : Jn t a b) : Jn t b a := h.elim .inr .inl
abbrev Nu := Int × Int
def n1 (ts : List Tie) (m : Int) (p : Int) : List Nu := (if p = (tieN ts m.toNat).one then [((tieN ts m.toNat).other, m)] else []) ++ (if p = (tieN ts m.toNat).other then [((tieN ts m.toNat).one, m)] else [])
def nN (ts : List Tie) (ns : List Int) (p : Int) : List Nu := ns.flatMap fun m => n1 ts m p
theorem nN_snoc (ts : List Tie) (ns : List Int) (m p : Int) : nN ts (ns ++ [m]) p = nN ts ns p ++ n1 ts m p := by
  unfold nN
  rw [List.flatMap_append]
  simp
theorem n1_len (ts : List Tie) (m p : Int) : (n1 ts m p).length ≤ 2 := by
  unfold n1
  rw [List.length_append]
  split <;> split <;> simp
theorem nN_len (ts : List Tie) (ns : List Int) (p : Int) : (nN ts ns p).length ≤ 2 * ns.length := by
  induction ns with
  | nil => simp [nN]
  | cons m ns ih =>
    have h := n1_len ts m p
    unfold nN at ih ⊢
    rw [List.flatMap_cons, List.length_append, List.length_cons]
    omega
theorem mem_nN {ts : List Tie} {ns : List Int} {p : Int} {q : Nu} : q ∈ nN ts ns p ↔ q.2 ∈ ns ∧ Jn (tieN ts q.2.toNat) p q.1 := by
  unfold nN n1 Jn
  rw [List.mem_flatMap]
  constructor
  · rintro ⟨m, hm, h⟩
    rcases List.mem_append.mp h with h | h
    · split at h
      · rename_i e
        rw [List.mem_singleton] at h
        subst h
        exact ⟨hm, .inl ⟨e.symm, rfl⟩⟩
      · simp at h
    · split at h
      · rename_i e
        rw [List.mem_singleton] at h
        subst h
        exact ⟨hm, .inr ⟨rfl, e.symm⟩⟩
      · simp at h
  · rintro ⟨hm, h⟩
    refine ⟨q.2, hm, List.mem_append.mpr ?_⟩
    obtain ⟨q1, q2⟩ := q
    simp only at h
    rcases h with ⟨h1, h2⟩ | ⟨h1, h2⟩
    · left
      rw [if_pos h1.symm, List.mem_singleton, ← h2]
    · right
      rw [if_pos h2.symm, List.mem_singleton, ← h1]
def NuV (H : Hp) (v : V) (q : Nu) : Prop := ∃ a, v = .ref a ∧ H a = some (.tup [.int q.1, .int q.2])
theorem NuV.tk {H H' : Hp} (k : Tk H H') {v : V} {p : Nu} (h : NuV H v p) : NuV H' v p := by
  obtain ⟨a, rfl, e⟩ := h
  exact ⟨a, rfl, k _ _ e⟩
theorem nus_tk {H H' : Hp} (k : Tk H H') {vs : List V} {qs : List Nu} (h : Paired (NuV H) vs qs) : Paired (NuV H') vs qs := Paired.mono (fun _ _ x => x.tk k) h
def aKv (As : List (Int × Addr)) : List (Key × V) := As.map fun p => (Sum.inl p.1, V.ref p.2)
theorem aKv_none {z : Int} : ∀ {As : List (Int × Addr)}, z ∉ As.map (·.1) → valV (aKv As) (Sum.inl z) = none
  | [], _ => rfl
  | p :: As, h => by
    rw [List.map_cons, List.mem_cons, not_or] at h
    have e := aKv_none (As := As) h.2
    have h1 := h.1
    unfold aKv at e ⊢
    rw [List.map_cons, valV_neg (fun z => h1 (Sum.inl.inj z).symm)]
    exact e
theorem aKv_some {z : Int} {a : Addr} : ∀ {As : List (Int × Addr)}, (As.map (·.1)).Nodup → (z, a) ∈ As → valV (aKv As) (Sum.inl z) = some (.ref a)
  | p :: As, nd, h => by
    rw [List.map_cons, List.nodup_cons] at nd
    rcases List.mem_cons.mp h with e | e
    · subst e
      unfold aKv
      rw [List.map_cons, valV_pos rfl]
    · have q := aKv_some (As := As) nd.2 e
      have ne : p.1 ≠ z := fun y => nd.1 (by rw [y]; exact List.mem_map.mpr ⟨_, e, rfl⟩)
      unfold aKv at q ⊢
      rw [List.map_cons, valV_neg (fun y => ne (Sum.inl.inj y))]
      exact q
theorem aKv_put {As : List (Int × Addr)} {z : Int} {a : Addr} (h : z ∉ As.map (·.1)) : putK (aKv As) (Sum.inl z) (.ref a) = aKv (As ++ [(z, a)]) := by
  unfold putK
  rw [if_neg]
  · unfold aKv
    rw [List.map_append]
    rfl
  · intro g
    rw [List.any_eq_true] at g
    obtain ⟨kv, h1, h2⟩ := g
    unfold aKv at h1
    rw [List.mem_map] at h1
    obtain ⟨p, hp, rfl⟩ := h1
    exact h (List.mem_map.mpr ⟨p, hp, Sum.inl.inj (of_decide_eq_true h2)⟩)
theorem aKv_len (As : List (Int × Addr)) : (aKv As).length = As.length := by unfold aKv; rw [List.length_map]
theorem aKv_cases (As : List (Int × Addr)) (z : Int) (nd : (As.map (·.1)).Nodup) : (z ∉ As.map (·.1) ∧ valV (aKv As) (Sum.inl z) = none) ∨ ∃ a, (z, a) ∈ As ∧ valV (aKv As) (Sum.inl z) = some (.ref a) := by
  by_cases h : z ∈ As.map (·.1)
  · obtain ⟨p, hp, rfl⟩ := List.mem_map.mp h
    exact .inr ⟨p.2, hp, aKv_some nd hp⟩
  · exact .inl ⟨h, aKv_none h⟩
/-- a dict of lists of (place, number) -/
structure Aro (H : Hp) (D : Addr) (As : List (Int × Addr)) (N : Int → List Nu) : Prop where
  at' : H D = some (.dK (aKv As))
  nd : (As.map (·.1)).Nodup
  nd2 : (As.map (·.2)).Nodup
  each : ∀ p ∈ As, ∃ vs, H p.2 = some (.lst vs) ∧ Paired (NuV H) vs (N p.1)
  no : ∀ q, q ∉ As.map (·.1) → N q = []
theorem Aro.same {H H' : Hp} {D : Addr} {As : List (Int × Addr)} {N : Int → List Nu} (h : Aro H D As N) (s : Same H H') : Aro H' D As N :=
  ⟨s _ _ h.at', h.nd, h.nd2, fun p hp => by
    obtain ⟨vs, h1, h2⟩ := h.each p hp
    exact ⟨vs, s _ _ h1, nus_tk (Same.tk s) h2⟩, h.no⟩
theorem Aro.out {H : Hp} {D : Addr} {As : List (Int × Addr)} {N : Int → List Nu} (h : Aro H D As N) {p : Int × Addr} (hp : p ∈ As) : p.2 ≠ D := by
  obtain ⟨vs, h1, _⟩ := h.each p hp
  exact ne_of h1 h.at' (by intro z; cases z)
/-- a place more, with nothing yet -/
theorem Aro.more {H : Hp} {D a : Addr} {As : List (Int × Addr)} {N : Int → List Nu} {z : Int} (h : Aro H D As N) (hz : z ∉ As.map (·.1)) (ha : H a = some (.lst [])) (hn : a ∉ As.map (·.2)) : Aro (upd H D (.dK (aKv (As ++ [(z, a)])))) D (As ++ [(z, a)]) N := by
  have haD : a ≠ D := ne_of ha h.at' (by intro z; cases z)
  have k : Tk H (upd H D (.dK (aKv (As ++ [(z, a)])))) := fun b xs e => by
    rw [upd_ne (ne_of e h.at' (by intro z; cases z))]
    exact e
  refine ⟨upd_same, ?_, ?_, fun p hp => ?_, fun q hq => ?_⟩
  · rw [List.map_append, List.nodup_append]
    refine ⟨h.nd, by simp, fun x hx y hy e => ?_⟩
    simp only [List.map_cons, List.map_nil, List.mem_singleton] at hy
    subst hy
    subst e
    exact hz hx
  · rw [List.map_append, List.nodup_append]
    refine ⟨h.nd2, by simp, fun x hx y hy e => ?_⟩
    simp only [List.map_cons, List.map_nil, List.mem_singleton] at hy
    subst hy
    subst e
    exact hn hx
  · rcases List.mem_append.mp hp with hp | hp
    · obtain ⟨vs, h1, h2⟩ := h.each p hp
      exact ⟨vs, by rw [upd_ne (h.out hp)]; exact h1, nus_tk k h2⟩
    · rw [List.mem_singleton] at hp
      subst hp
      refine ⟨[], by rw [upd_ne haD]; exact ha, ?_⟩
      rw [show N (z, a).1 = [] from h.no z hz]
      exact .nil
  · rw [List.map_append, List.mem_append, not_or] at hq
    exact h.no q hq.1
theorem Aro.put {H : Hp} {D a c : Addr} {As : List (Int × Addr)} {N : Int → List Nu} {z : Int} {vs : List V} {q : Nu} (h : Aro H D As N) (hz : (z, a) ∈ As) (hv : H a = some (.lst vs)) (hc : NuV H (.ref c) q) : Aro (upd H a (.lst (vs ++ [.ref c]))) D As (fun p => N p ++ if p = z then [q] else []) := by
  have k : Tk H (upd H a (.lst (vs ++ [.ref c]))) := tk_lst hv
  refine ⟨by rw [upd_ne (Ne.symm (h.out hz))]; exact h.at', h.nd, h.nd2, fun p hp => ?_, fun y hy => ?_⟩
  · obtain ⟨us, h1, h2⟩ := h.each p hp
    by_cases e : p.1 = z
    · have e2 : p.2 = a := by
        obtain ⟨i, hi, rfl⟩ := List.getElem_of_mem hp
        obtain ⟨j, hj, ej⟩ := List.getElem_of_mem hz
        have w : i = j := by
          have e3 : (As.map (·.1))[i]? = (As.map (·.1))[j]? := by
            rw [List.getElem?_map, List.getElem?_map, List.getElem?_eq_getElem hi, List.getElem?_eq_getElem hj, ej]
            exact congrArg some e
          exact (List.getElem?_inj (by rw [List.length_map]; exact hi) h.nd).mp e3
        subst w
        rw [ej]
      rw [e2] at h1 ⊢
      rw [hv] at h1
      cases h1
      refine ⟨_, upd_same, ?_⟩
      rw [if_pos e]
      exact Paired.snoc (nus_tk k h2) (hc.tk k)
    · have e2 : p.2 ≠ a := fun y => e (by
        obtain ⟨i, hi, rfl⟩ := List.getElem_of_mem hp
        obtain ⟨j, hj, ej⟩ := List.getElem_of_mem hz
        have w : i = j := by
          have e3 : (As.map (·.2))[i]? = (As.map (·.2))[j]? := by
            rw [List.getElem?_map, List.getElem?_map, List.getElem?_eq_getElem hi, List.getElem?_eq_getElem hj, ej]
            exact congrArg some y
          exact (List.getElem?_inj (by rw [List.length_map]; exact hi) h.nd2).mp e3
        subst w
        rw [ej])
      refine ⟨us, by rw [upd_ne e2]; exact h1, ?_⟩
      rw [if_neg e, List.append_nil]
      exact nus_tk k h2
  · have ne : y ≠ z := fun e => hy (by rw [e]; exact List.mem_map.mpr ⟨_, hz, rfl⟩)
    rw [h.no y hy, if_neg ne]
    rfl
def AroAt (H : Hp) (v : V) (N : Int → List Nu) : Prop := ∃ D As, v = .ref D ∧ Aro H D As N
def spAround : Sp := fun vs H Q _ => ∃ (v : V) (b : Addr) (n : Int) (ts : List Tie) (ns : List Int), vs = [v, .ref b] ∧ WebAt H v n ts ∧ ts.length ≤ 300 ∧ H b = some (.lst (ns.map V.int)) ∧ ns.length ≤ 300 ∧ (∀ m ∈ ns, 0 ≤ m ∧ m < (ts.length : Int)) ∧
  ∀ u H', Same H H' → AroAt H' u (nN ts ns) → Q u H'
section
variable {P : Program} {w : World} {K : PySem.W.Frag} {mg : Str → Option Value} {base : Heap}
theorem ok_ties_around {f : Addr} {fd : FuncData} (F : Fun K "ties_around" "ties_around" s_ties_around f fd) : FnOk P w K mg base CX0 1 f fd ["web", "numbers"] spAround := by
  refine F.ok sc_ties_around (fun vs H Q E h => ?_) (fun cdv A outer s H vs Q E hr h => ?_)
  · obtain ⟨v, b, n, ts, ns, rfl, _⟩ := h
    rfl
  · obtain ⟨v, b, n, ts, ns, rfl, ⟨wa, wb, us, rfl, hwa, hwb, hp⟩, few, hb, fewn, okn, q⟩ := h
    refine ⟨_, (pss_cons (ps_set (i := 2) sc_ties_around.nd rfl (.inl rfl) pe_dnewK)
      (pss_cons (ps_for PassesOwn.never rfl (pi_list (pv 1)) (pg_name (i := 3) sc_ties_around.nd rfl (.inl rfl))
        (pss_cons (ps_asg (pe_ix ix_tup (pe_ix ix_tup (pv 0) pe_int (fun _ _ => rfl)) (pv 3) (fun _ _ => rfl)) (pg_tup rfl (pgs_cons (pg_name (i := 4) sc_ties_around.nd rfl (.inl rfl)) (pgs_cons (pg_name (i := 5) sc_ties_around.nd rfl (.inl rfl)) (pgs_cons (pg_name (i := 6) sc_ties_around.nd rfl (.inl rfl)) pgs_nil)))))
        (Evl.pss_cut (ps_expr (pe_bm PySem.F.plainAttrs_list PySem.F.slot_list_append PySem.F.type_list_append mt_append (pe_dsetd (pv 2) (pv 4) (pe_lst pa_nil) ⟨rfl, rfl, rfl, rfl⟩) (pa_cons (pe_tup (pa_cons (pv 5) (pa_cons (pv 3) pa_nil))) pa_nil)))
        (pss_one (ps_expr (pe_bm PySem.F.plainAttrs_list PySem.F.slot_list_append PySem.F.type_list_append mt_append (pe_dsetd (pv 2) (pv 5) (pe_lst pa_nil) ⟨rfl, rfl, rfl, rfl⟩) (pa_cons (pe_tup (pa_cons (pv 4) (pa_cons (pv 3) pa_nil))) pa_nil)))))))
      (pss_one (ps_ret (pv 2))))), ?_⟩
    have hlen : us.length = ts.length := Paired.length hp
    refine fun D nD => ⟨.ref b, rfl, b, rfl, ⟨_, SqL.of (same_new nD _ _ hb)⟩, ?_⟩
    -- a tie's one end
    have put : ∀ {H1 : Hp} {As : List (Int × Addr)} {N : Int → List Nu} {x y m : Int} (k : Hp → Prop), Same H H1 → Aro H1 D As N → (∀ p ∈ As, H p.2 = none) → As.length ≤ 900 → (∀ z, (N z).length ≤ 900) →
        (∀ H2 As2, Same H H2 → Aro H2 D As2 (fun p => N p ++ if p = x then [(y, m)] else []) → (∀ p ∈ As2, H p.2 = none) → As2.length ≤ As.length + 1 → k H2) →
        ∀ e, H1 e = none → ∃ (kvs : List (Key × V)) (kk : Key), (upd H1 e (.lst [])) D = some (.dK kvs) ∧ V.int x = kV kk ∧ kvs.length < sizeLine ∧ (∀ v, valV kvs kk = some v → (tyV K "list" v (upd H1 e (.lst [])) ∧ (2 ≤ sizeLine ∧ ∀ p, (upd H1 e (.lst [])) p = none → ∃ l xs z, v = .ref l ∧ [V.ref p] = [z] ∧ (upd (upd H1 e (.lst [])) p (.tup [.int y, .int m])) l = some (.lst xs) ∧ xs.length < sizeLine ∧ k (upd (upd (upd H1 e (.lst [])) p (.tup [.int y, .int m])) l (.lst (xs ++ [z])))))) ∧
          (valV kvs kk = none → (tyV K "list" (.ref e) (upd (upd H1 e (.lst [])) D (.dK (putK kvs kk (.ref e)))) ∧ (2 ≤ sizeLine ∧ ∀ p, (upd (upd H1 e (.lst [])) D (.dK (putK kvs kk (.ref e)))) p = none → ∃ l xs z, V.ref e = .ref l ∧ [V.ref p] = [z] ∧ (upd (upd (upd H1 e (.lst [])) D (.dK (putK kvs kk (.ref e)))) p (.tup [.int y, .int m])) l = some (.lst xs) ∧ xs.length < sizeLine ∧ k (upd (upd (upd (upd H1 e (.lst [])) D (.dK (putK kvs kk (.ref e)))) p (.tup [.int y, .int m])) l (.lst (xs ++ [z])))))) := by
      intro H1 As N x y m k s1 hA hf la ln fin e ne
      have sE := same_new (o := .lst []) ne
      have A1 := hA.same sE
      have ne0 : H e = none := s1.free ne
      have heA : e ∉ As.map (·.2) := fun z => by
        obtain ⟨p, hp, ep⟩ := List.mem_map.mp z
        obtain ⟨vs, h1, _⟩ := hA.each p hp
        rw [ep, ne] at h1
        cases h1
      have nD1 : H1 D = some (.dK (aKv As)) := hA.at'
      have heD : e ≠ D := (ne_of_none nD1 ne).symm
      refine ⟨aKv As, Sum.inl x, A1.at', rfl, by rw [aKv_len]; exact small1000 (by omega), fun v hv => ?_, fun hv => ?_⟩
      · rcases aKv_cases As x hA.nd with ⟨_, h⟩ | ⟨a, ha, h⟩
        · rw [h] at hv; cases hv
        · rw [h] at hv
          cases hv
          obtain ⟨vs, g1, g2⟩ := A1.each _ ha
          refine ⟨.inl ⟨rfl, _, SqL.of g1⟩, by decide, fun p np => ⟨a, vs, .ref p, rfl, rfl, same_new np _ _ g1, ?_, ?_⟩⟩
          · have : (N (x, a).1).length ≤ 900 := ln x
            rw [Paired.length g2]
            exact small1000 (by omega)
          · have sP := same_new (o := .tup [.int y, .int m]) np
            have A2 := A1.same sP
            refine fin _ As (Same.mut (s1.trans (sE.trans sP)) (hf _ ha)) (A2.put ha (sP _ _ g1) ⟨p, rfl, upd_same⟩) hf (Nat.le_succ _)
      · rcases aKv_cases As x hA.nd with ⟨hx, _⟩ | ⟨a, ha, h⟩
        · rw [aKv_put hx]
          have A2 := A1.more hx upd_same heA
          have hE : (upd (upd H1 e (.lst [])) D (.dK (aKv (As ++ [(x, e)])))) e = some (.lst []) := by rw [upd_ne heD]; exact upd_same
          refine ⟨.inl ⟨rfl, _, SqL.of hE⟩, by decide, fun p np => ⟨e, [], .ref p, rfl, rfl, same_new np _ _ hE, by decide, ?_⟩⟩
          have sP := same_new (o := .tup [.int y, .int m]) np
          have A3 := A2.same sP
          have nD0 : H D = none := nD
          refine fin _ (As ++ [(x, e)]) (Same.mut ((Same.mut (s1.trans sE) nD0).trans sP) ne0) (A3.put (List.mem_append_right _ (by simp)) (sP _ _ hE) ⟨p, rfl, upd_same⟩) (fun p hp => ?_) (by rw [List.length_append]; exact Nat.le_refl _)
          rcases List.mem_append.mp hp with h | h
          · exact hf p h
          · rw [List.mem_singleton.mp h]
            exact ne0
        · rw [h] at hv; cases hv
    refine for_list (xs := ns.map V.int) (fun i σ' H' => ∃ (y3 y4 y5 y6 : Option V) (As : List (Int × Addr)), σ' = [some (.ref wa), some (.ref b), some (.ref D), y3, y4, y5, y6] ∧ Aro H' D As (nN ts (ns.take i)) ∧ (∀ p ∈ As, H p.2 = none) ∧ As.length ≤ 2 * i ∧ Same H H') ⟨none, none, none, none, [], rfl, ⟨upd_same, List.nodup_nil, List.nodup_nil, fun p hp => by simp at hp, fun q _ => rfl⟩, fun p hp => by simp at hp, Nat.le_refl _, same_new nD⟩ (fun i σ' H' _ h => by
      obtain ⟨_, _, _, _, _, _, _, _, _, s⟩ := h
      exact SqL.of (s _ _ hb)) ?_ ?_
    · rintro i x σ' H1 ex ⟨y3, y4, y5, y6, As, rfl, hA, hf, la, s1⟩
      rw [List.getElem?_map] at ex
      obtain ⟨m, em, rfl⟩ := Option.map_eq_some_iff.mp ex
      have hi : i < ns.length := (List.getElem?_eq_some_iff.mp em).1
      have om := okn m (List.mem_of_getElem? em)
      obtain ⟨vv, e1, e2⟩ := getI (xs := us) om.1 (by omega)
      obtain ⟨t, et, c, rfl, hc⟩ := Paired.at hp e2
      have etn := tieN_of et
      refine ⟨.ref wa, rfl, wa, _, 1, .ref wb, rfl, rfl, SqT.of (s1 _ _ hwa), rfl, .int m, rfl, wb, us, m, .ref c, rfl, rfl, SqT.of (s1 _ _ hwb), e1, c, _, rfl, SqT.of (s1 _ _ hc), rfl, _, _, rfl, _, _, rfl, _, _, rfl, rfl, ?_⟩
      have lN : ∀ z, (nN ts (ns.take i) z).length ≤ 600 := fun z => by
        have := nN_len ts (ns.take i) z
        rw [List.length_take] at this
        omega
      refine ⟨fun σ' H' => ∃ As, σ' = [some (.ref wa), some (.ref b), some (.ref D), some (.int m), some (.int t.one), some (.int t.other), some (.str (kindS t.foe))] ∧ Aro H' D As (fun p => nN ts (ns.take i) p ++ if p = t.one then [(t.other, m)] else []) ∧ (∀ p ∈ As, H p.2 = none) ∧ As.length ≤ 2 * i + 1 ∧ Same H H', ?_, ?_⟩
      · refine ⟨.ref D, rfl, D, rfl, .inl ⟨_, .inl hA.at'⟩, .int t.one, rfl, Nat.zero_le _, fun e ne => ?_⟩
        obtain ⟨kvs, kk, w1, w2, w3, w4, w5⟩ := put (x := t.one) (y := t.other) (m := m) (fun H' => ∃ As, [some (V.ref wa), some (.ref b), some (.ref D), some (.int m), some (.int t.one), some (.int t.other), some (.str (kindS t.foe))] = [some (V.ref wa), some (.ref b), some (.ref D), some (.int m), some (.int t.one), some (.int t.other), some (.str (kindS t.foe))] ∧ Aro H' D As (fun p => nN ts (ns.take i) p ++ if p = t.one then [(t.other, m)] else []) ∧ (∀ p ∈ As, H p.2 = none) ∧ As.length ≤ 2 * i + 1 ∧ Same H H') s1 hA hf (by omega) (fun z => by have := lN z; omega) (fun H2 As2 s2 h2 f2 l2 => ⟨As2, rfl, h2, f2, by omega, s2⟩) e ne
        exact ⟨kvs, kk, w1, w2, w3, fun v hv => ⟨(w4 v hv).1, .int t.other, rfl, .int m, rfl, (w4 v hv).2⟩, fun hv => ⟨(w5 hv).1, .int t.other, rfl, .int m, rfl, (w5 hv).2⟩⟩
      · rintro σ' H2 ⟨As2, rfl, hA2, hf2, la2, s2⟩
        refine ⟨.ref D, rfl, D, rfl, .inl ⟨_, .inl hA2.at'⟩, .int t.other, rfl, Nat.zero_le _, fun e ne => ?_⟩
        have q1 : ∀ z, ((fun p => nN ts (ns.take i) p ++ if p = t.one then [(t.other, m)] else []) z).length ≤ 900 := fun z => by
          have := lN z
          rw [List.length_append]
          split <;> simp only [List.length_cons, List.length_nil] <;> omega
        have q2 : ∀ H3 As3, Same H H3 → Aro H3 D As3 (fun p => (nN ts (ns.take i) p ++ if p = t.one then [(t.other, m)] else []) ++ if p = t.other then [(t.one, m)] else []) → (∀ p ∈ As3, H p.2 = none) → As3.length ≤ As2.length + 1 → (fun H' => ∃ (y3 y4 y5 y6 : Option V) (As : List (Int × Addr)), [some (V.ref wa), some (.ref b), some (.ref D), some (.int m), some (.int t.one), some (.int t.other), some (.str (kindS t.foe))] = [some (.ref wa), some (.ref b), some (.ref D), y3, y4, y5, y6] ∧ Aro H' D As (nN ts (ns.take (i + 1))) ∧ (∀ p ∈ As, H p.2 = none) ∧ As.length ≤ 2 * (i + 1) ∧ Same H H') H3 := fun H3 As3 s3 h3 f3 l3 => by
          refine ⟨_, _, _, _, As3, rfl, ?_, f3, by omega, s3⟩
          have eN : nN ts (ns.take (i + 1)) = fun p => (nN ts (ns.take i) p ++ if p = t.one then [(t.other, m)] else []) ++ if p = t.other then [(t.one, m)] else [] := by
            funext p
            rw [take_snoc em, nN_snoc]
            unfold n1
            rw [etn, List.append_assoc]
          rw [eN]
          exact h3
        obtain ⟨kvs, kk, w1, w2, w3, w4, w5⟩ := put (x := t.other) (y := t.one) (m := m) (fun H' => ∃ (y3 y4 y5 y6 : Option V) (As : List (Int × Addr)), [some (V.ref wa), some (.ref b), some (.ref D), some (.int m), some (.int t.one), some (.int t.other), some (.str (kindS t.foe))] = [some (.ref wa), some (.ref b), some (.ref D), y3, y4, y5, y6] ∧ Aro H' D As (nN ts (ns.take (i + 1))) ∧ (∀ p ∈ As, H p.2 = none) ∧ As.length ≤ 2 * (i + 1) ∧ Same H H') s2 hA2 hf2 (by omega) q1 q2 e ne
        exact ⟨kvs, kk, w1, w2, w3, fun v hv => ⟨(w4 v hv).1, .int t.one, rfl, .int m, rfl, (w4 v hv).2⟩, fun hv => ⟨(w5 hv).1, .int t.one, rfl, .int m, rfl, (w5 hv).2⟩⟩
    · rintro σ' H1 ⟨y3, y4, y5, y6, As, rfl, hA, hf, la, s1⟩
      rw [List.length_map, List.take_length] at hA
      exact ⟨.ref D, rfl, q _ _ s1 ⟨D, As, rfl, hA⟩⟩
end
/-! ### ways: what is walked, level by level (mathematics) -/
abbrev We := Int × Nat × Option (Int × Int)
def weL (e : We) : List V := match e.2.2 with
  | none => [.int (e.2.1 : Nat), .non, .non]
  | some f => [.int (e.2.1 : Nat), .int f.1, .int f.2]
/-- the walk, exactly, level by level -/
def stp (p : Int) (L : Nat) (st : List We × List Int) (q : Nu) : List We × List Int := if q.1 ∈ st.1.map (·.1) then st else (st.1 ++ [(q.1, L + 1, some (p, q.2))], st.2 ++ [q.1])
def lvl (N : Int → List Nu) (L : Nat) (st : List We × List Int) : List We × List Int := st.2.foldl (fun st p => (N p).foldl (stp p L) st) (st.1, [])
def Bst (N : Int → List Nu) (s : Int) : Nat → List We × List Int
  | 0 => ([(s, 0, none)], [s])
  | L + 1 => lvl N L (Bst N s L)
def Wlk (N : Int → List Nu) (s : Int) (ws : List We) : Prop := ∃ L, Bst N s L = (ws, [])
theorem Bst.stay {N : Int → List Nu} {s : Int} {ws : List We} {L : Nat} (h : Bst N s L = (ws, [])) : ∀ k, Bst N s (L + k) = (ws, [])
  | 0 => h
  | k + 1 => by
    show lvl N (L + k) (Bst N s (L + k)) = _
    rw [Bst.stay h k]
    rfl
theorem Wlk.one {N : Int → List Nu} {s : Int} {ws ws' : List We} (a : Wlk N s ws) (b : Wlk N s ws') : ws = ws' := by
  obtain ⟨L, h⟩ := a
  obtain ⟨L', h'⟩ := b
  rcases Nat.le_total L L' with e | e
  · obtain ⟨k, rfl⟩ := Nat.exists_eq_add_of_le e
    rw [Bst.stay h k] at h'
    exact (Prod.mk.inj h').1
  · obtain ⟨k, rfl⟩ := Nat.exists_eq_add_of_le e
    rw [Bst.stay h' k] at h
    exact (Prod.mk.inj h).1.symm
structure WF (N : Int → List Nu) (s : Int) (ws : List We) : Prop where
  nd : (ws.map (·.1)).Nodup
  root : (s, 0, none) ∈ ws
  non : ∀ y k, (y, k, none) ∈ ws → y = s ∧ k = 0
  par : ∀ y k p m, (y, k, some (p, m)) ∈ ws → ∃ j f, (p, j, f) ∈ ws ∧ k = j + 1 ∧ (y, m) ∈ N p
  cl : ∀ e ∈ ws, ∀ q ∈ N e.1, ∃ k f, (q.1, k, f) ∈ ws ∧ k ≤ e.2.1 + 1
  ex : Wlk N s ws
structure BF (N : Int → List Nu) (s : Int) (ws : List We) (L : Nat) (todo fol : List Int) : Prop where
  nd : (ws.map (·.1)).Nodup
  root : (s, 0, none) ∈ ws
  non : ∀ y k, (y, k, none) ∈ ws → y = s ∧ k = 0
  par : ∀ y k p m, (y, k, some (p, m)) ∈ ws → ∃ j f, (p, j, f) ∈ ws ∧ k = j + 1 ∧ (y, m) ∈ N p
  lv : ∀ e ∈ ws, e.2.1 ≤ L + 1
  td : ∀ x ∈ todo, ∃ f, (x, L, f) ∈ ws
  dn : ∀ e ∈ ws, e.2.1 ≤ L → e.1 ∈ todo ∨ ∀ q ∈ N e.1, ∃ k f, (q.1, k, f) ∈ ws ∧ k ≤ e.2.1 + 1
  f1 : ∀ x ∈ fol, ∃ f, (x, L + 1, f) ∈ ws
  f2 : ∀ e ∈ ws, e.2.1 = L + 1 → e.1 ∈ fol
  fl : fol.length ≤ ws.length
theorem we_one {ws : List We} (nd : (ws.map (·.1)).Nodup) {x : Int} {k j : Nat} {f g : Option (Int × Int)} (h : (x, k, f) ∈ ws) (h' : (x, j, g) ∈ ws) : k = j ∧ f = g := by
  induction ws with
  | nil => cases h
  | cons e ws ih =>
    rw [List.map_cons, List.nodup_cons] at nd
    rcases List.mem_cons.mp h with a | a <;> rcases List.mem_cons.mp h' with b | b
    · rw [← a] at b
      cases b
      exact ⟨rfl, rfl⟩
    · exact absurd (List.mem_map.mpr ⟨_, b, rfl⟩) (by rw [← a] at nd; exact nd.1)
    · exact absurd (List.mem_map.mpr ⟨_, a, rfl⟩) (by rw [← b] at nd; exact nd.1)
    · exact ih nd.2 a b
theorem we_key {ws : List We} {x : Int} (h : x ∈ ws.map (·.1)) : ∃ k f, (x, k, f) ∈ ws := by
  obtain ⟨⟨y, k, f⟩, he, e⟩ := List.mem_map.mp h
  have e : y = x := e
  subst e
  exact ⟨k, f, he⟩
theorem WF.rg {N : Int → List Nu} {s : Int} {ws : List We} {n : Int} (h : WF N s ws) (hs : 0 ≤ s ∧ s < n) (hN : ∀ x q, q ∈ N x → 0 ≤ q.1 ∧ q.1 < n) {x : Int} (hx : x ∈ ws.map (·.1)) : 0 ≤ x ∧ x < n := by
  obtain ⟨k, f, he⟩ := we_key hx
  cases f with
  | none =>
    rw [(h.non _ _ he).1]
    exact hs
  | some pm =>
    obtain ⟨p, m⟩ := pm
    obtain ⟨j, g, _, _, hm⟩ := h.par _ _ _ _ he
    exact hN p _ hm
theorem BF.rg {N : Int → List Nu} {s : Int} {ws : List We} {L : Nat} {todo fol : List Int} {n : Int} (h : BF N s ws L todo fol) (hs : 0 ≤ s ∧ s < n) (hN : ∀ x q, q ∈ N x → 0 ≤ q.1 ∧ q.1 < n) (x : Int) (hx : x ∈ ws.map (·.1)) : 0 ≤ x ∧ x < n := by
  obtain ⟨k, f, he⟩ := we_key hx
  cases f with
  | none =>
    rw [(h.non _ _ he).1]
    exact hs
  | some pm =>
    obtain ⟨p, m⟩ := pm
    obtain ⟨j, g, _, _, hm⟩ := h.par _ _ _ _ he
    exact hN p _ hm
theorem BF.few {N : Int → List Nu} {s : Int} {ws : List We} {L : Nat} {todo fol : List Int} {n : Nat} (h : BF N s ws L todo fol) (hs : 0 ≤ s ∧ s < n) (hN : ∀ x q, q ∈ N x → 0 ≤ q.1 ∧ q.1 < n) : ws.length ≤ n := by
  have := pigeon n _ h.nd (h.rg hs hN)
  rw [List.length_map] at this
  exact this
theorem BF.start (N : Int → List Nu) (s : Int) : BF N s [(s, 0, none)] 0 [s] [] :=
  ⟨by simp, by simp, fun y k h => by simp at h; exact ⟨h.1, h.2⟩, fun y k p m h => by simp at h, fun e h => by rw [List.mem_singleton.mp h]; simp, fun x h => ⟨none, by rw [List.mem_singleton.mp h]; simp⟩, fun e h _ => .inl (by rw [List.mem_singleton.mp h]; simp), fun x h => by simp at h, fun e h z => by rw [List.mem_singleton.mp h] at z; simp at z, by simp⟩
theorem BF.stop {N : Int → List Nu} {s : Int} {ws : List We} {L : Nat} (h : BF N s ws L [] []) (hx : Wlk N s ws) : WF N s ws :=
  ⟨h.nd, h.root, h.non, h.par, fun e he => by
    have h1 := h.lv e he
    have h2 : e.2.1 ≤ L := by
      by_cases z : e.2.1 = L + 1
      · exact absurd (h.f2 e he z) (by simp)
      · omega
    exact (h.dn e he h2).resolve_left (by simp), hx⟩
theorem BF.next {N : Int → List Nu} {s : Int} {ws : List We} {L : Nat} {fol : List Int} (h : BF N s ws L [] fol) : BF N s ws (L + 1) fol [] :=
  ⟨h.nd, h.root, h.non, h.par, fun e he => by have := h.lv e he; omega, h.f1, fun e he hl => by
    by_cases z : e.2.1 = L + 1
    · exact .inl (h.f2 e he z)
    · exact .inr ((h.dn e he (by omega)).resolve_left (by simp)), fun x hx => by simp at hx, fun e he z => by have := h.lv e he; omega, by simp⟩
theorem BF.push {N : Int → List Nu} {s p y m : Int} {ws : List We} {L : Nat} {todo fol : List Int} {f : Option (Int × Int)} (h : BF N s ws L todo fol) (hp : (p, L, f) ∈ ws) (hm : (y, m) ∈ N p) (hy : y ∉ ws.map (·.1)) : BF N s (ws ++ [(y, L + 1, some (p, m))]) L todo (fol ++ [y]) := by
  have sub : ∀ {e : We}, e ∈ ws → e ∈ ws ++ [(y, L + 1, some (p, m))] := fun he => List.mem_append_left _ he
  have cs : ∀ {e : We}, e ∈ ws ++ [(y, L + 1, some (p, m))] → e ∈ ws ∨ e = (y, L + 1, some (p, m)) := fun he => by
    rcases List.mem_append.mp he with z | z
    · exact .inl z
    · exact .inr (List.mem_singleton.mp z)
  refine ⟨?_, sub h.root, fun z k hz => ?_, fun z k p' m' hz => ?_, fun e he => ?_, fun x hx => ?_, fun e he hl => ?_, fun x hx => ?_, fun e he z => ?_, ?_⟩
  · rw [List.map_append, List.nodup_append]
    refine ⟨h.nd, by simp, fun x hx z hz e => ?_⟩
    have : z = y := by simpa using hz
    subst this
    subst e
    exact hy hx
  · rcases cs hz with z1 | z1
    · exact h.non _ _ z1
    · cases z1
  · rcases cs hz with z1 | z1
    · obtain ⟨j, g, h1, h2, h3⟩ := h.par _ _ _ _ z1
      exact ⟨j, g, sub h1, h2, h3⟩
    · cases z1
      exact ⟨L, f, sub hp, rfl, hm⟩
  · rcases cs he with z1 | z1
    · exact h.lv e z1
    · rw [z1]
      exact Nat.le_refl _
  · obtain ⟨g, hg⟩ := h.td x hx
    exact ⟨g, sub hg⟩
  · rcases cs he with z1 | z1
    · rcases h.dn e z1 hl with a | a
      · exact .inl a
      · refine .inr fun q hq => ?_
        obtain ⟨k, g, h1, h2⟩ := a q hq
        exact ⟨k, g, sub h1, h2⟩
    · rw [z1] at hl
      simp at hl
      omega
  · rcases List.mem_append.mp hx with z | z
    · obtain ⟨g, hg⟩ := h.f1 x z
      exact ⟨g, sub hg⟩
    · rw [List.mem_singleton.mp z]
      exact ⟨some (p, m), List.mem_append_right _ (by simp)⟩
  · rcases cs he with z1 | z1
    · exact List.mem_append_left _ (h.f2 e z1 z)
    · rw [z1]
      exact List.mem_append_right _ (by simp)
  · rw [List.length_append, List.length_append]
    have := h.fl
    simp
    omega
theorem BF.done {N : Int → List Nu} {s p : Int} {ws : List We} {L : Nat} {todo fol : List Int} {f : Option (Int × Int)} (h : BF N s ws L (p :: todo) fol) (hp : (p, L, f) ∈ ws) (hd : ∀ q ∈ N p, ∃ k f, (q.1, k, f) ∈ ws ∧ k ≤ L + 1) : BF N s ws L todo fol :=
  ⟨h.nd, h.root, h.non, h.par, h.lv, fun x hx => h.td x (List.mem_cons_of_mem _ hx), fun e he hl => by
    rcases h.dn e he hl with a | a
    · rcases List.mem_cons.mp a with b | b
      · obtain ⟨x, k, g⟩ := e
        have b : x = p := b
        subst b
        have := (we_one h.nd he hp).1
        subst this
        exact .inr hd
      · exact .inl b
    · exact .inr a, h.f1, h.f2, h.fl⟩
/-! ### as it lies in the heap -/
def WeV (H : Hp) (kv : Key × V) (e : We) : Prop := kv.1 = Sum.inl e.1 ∧ ∃ a, kv.2 = .ref a ∧ H a = some (.tup (weL e))
theorem WeV.tk {H H' : Hp} (k : Tk H H') {kv : Key × V} {e : We} (h : WeV H kv e) : WeV H' kv e := by
  obtain ⟨h1, a, h2, h3⟩ := h
  exact ⟨h1, a, h2, k _ _ h3⟩
theorem wes_tk {H H' : Hp} (k : Tk H H') {kvs : List (Key × V)} {ws : List We} (h : Paired (WeV H) kvs ws) : Paired (WeV H') kvs ws := Paired.mono (fun _ _ x => x.tk k) h
theorem wes_none {H : Hp} {x : Int} : ∀ {kvs : List (Key × V)} {ws : List We}, Paired (WeV H) kvs ws → x ∉ ws.map (·.1) → valV kvs (Sum.inl x) = none
  | _, _, .nil, _ => rfl
  | kv :: kvs, e :: ws, .cons h t, hx => by
    rw [List.map_cons, List.mem_cons, not_or] at hx
    obtain ⟨k, v⟩ := kv
    have h1 : k = Sum.inl e.1 := h.1
    rw [valV_neg (fun z => hx.1 (by rw [h1] at z; exact (Sum.inl.inj z).symm))]
    exact wes_none t hx.2
theorem wes_some {H : Hp} {x : Int} {k : Nat} {f : Option (Int × Int)} : ∀ {kvs : List (Key × V)} {ws : List We}, Paired (WeV H) kvs ws → (ws.map (·.1)).Nodup → (x, k, f) ∈ ws → ∃ a, valV kvs (Sum.inl x) = some (.ref a) ∧ H a = some (.tup (weL (x, k, f)))
  | _, _, .nil, _, hx => by cases hx
  | kv :: kvs, e :: ws, .cons h t, nd, hx => by
    rw [List.map_cons, List.nodup_cons] at nd
    obtain ⟨k', v⟩ := kv
    have h1 : k' = Sum.inl e.1 := h.1
    obtain ⟨a, h2, h3⟩ := h.2
    have h2 : v = .ref a := h2
    rcases List.mem_cons.mp hx with z | z
    · subst z
      exact ⟨a, by rw [valV_pos h1, h2], h3⟩
    · have ne : e.1 ≠ x := fun y => nd.1 (by rw [y]; exact List.mem_map.mpr ⟨_, z, rfl⟩)
      rw [valV_neg (fun y => ne (by rw [h1] at y; exact Sum.inl.inj y))]
      exact wes_some t nd.2 z
theorem putK_new {k : Key} {v : V} : ∀ {kvs : List (Key × V)}, valV kvs k = none → putK kvs k v = kvs ++ [(k, v)] := fun {kvs} h => by
  unfold putK
  rw [if_neg]
  intro g
  rw [List.any_eq_true] at g
  obtain ⟨kv, h1, h2⟩ := g
  have h2 := of_decide_eq_true h2
  induction kvs with
  | nil => cases h1
  | cons x kvs ih =>
    obtain ⟨k', v'⟩ := x
    by_cases e : k' = k
    · rw [valV_pos e] at h
      cases h
    · rw [valV_neg e] at h
      rcases List.mem_cons.mp h1 with z | z
      · rw [z] at h2
        exact e h2
      · exact ih h z
def WalkAt (H : Hp) (D : Addr) (ws : List We) : Prop := ∃ kvs, H D = some (.dK kvs) ∧ Paired (WeV H) kvs ws
theorem WalkAt.same {H H' : Hp} {D : Addr} {ws : List We} (h : WalkAt H D ws) (s : Same H H') : WalkAt H' D ws := by
  obtain ⟨kvs, h1, h2⟩ := h
  exact ⟨kvs, s _ _ h1, wes_tk (Same.tk s) h2⟩
/-- a list or a tuple, walked -/
def iSeq (K : PySem.W.Frag) (tl : TE) : TI := fun σ H R => tl σ H fun x H1 => ∃ a, x = .ref a ∧ (((∃ xs, SqL K H1 a xs) ∧ R (Itl K a) H1) ∨ ((∃ xs, SqT K H1 a xs) ∧ R (Itt K a) H1))
theorem pi_seq {X : Cx} {tg l : Expr} {tl : TE} (hl : PE X l tl) : PI X tg l (iSeq X.K tl) := by
  refine ⟨fun pins s σ H R I h => ?_⟩
  refine thn (hl.run pins s σ H _ I h) fun v s1 ⟨x, H1, I1, r1, q1⟩ => ?_
  obtain ⟨a, e, q1⟩ := q1
  subst e
  cases r1
  rcases q1 with ⟨⟨xs, hq⟩, q⟩ | ⟨⟨xs, hq⟩, q⟩
  · obtain ⟨its, rv, p, hz⟩ := I1.list hq
    refine wpAny_pyIter_list p.isList ?_
    refine ⟨s1.heap.objs.size, [s1.heap.objs.size], _, _, H1, rfl, I1.kept (t' := s1.toks) fun b o e => Heap.get?_push_of_some _ e, turn_list a _, ⟨_, Heap.get?_push_size _ rfl, rfl, rfl⟩, fun b hb => ?_, q⟩
    have e : b = s1.heap.objs.size := by simpa using hb
    subst e
    exact I1.fpOk (Nat.le_refl _) (I1.hok.fresh (Nat.le_refl _))
  · obtain ⟨its, rv, p, hz⟩ := I1.tuple hq
    refine wpAny_pyIter_tuple (show s1.heap.IsTuple a its.toArray from p) ?_
    refine ⟨s1.heap.objs.size, [s1.heap.objs.size], _, _, H1, rfl, I1.kept (t' := s1.toks) fun b o e => Heap.get?_push_of_some _ e, turn_tuple a _, ⟨_, Heap.get?_push_size _ rfl, rfl, rfl⟩, fun b hb => ?_, q⟩
    have e : b = s1.heap.objs.size := by simpa using hb
    subst e
    exact I1.fpOk (Nat.le_refl _) (I1.hok.fresh (Nat.le_refl _))
def spWalkFrom : Sp := fun vs H Q _ => ∃ (u : V) (n : Nat) (s : Int) (N : Int → List Nu), vs = [.int s, u] ∧ AroAt H u N ∧ 0 ≤ s ∧ s < n ∧ n ≤ 100 ∧ (∀ x q, q ∈ N x → 0 ≤ q.1 ∧ q.1 < n) ∧ ∀ D ws H', Same H H' → WalkAt H' D ws → WF N s ws → ws.length ≤ n → Q (.ref D) H'
section
variable {P : Program} {w : World} {K : PySem.W.Frag} {mg : Str → Option Value} {base : Heap}
theorem ok_walk_from {f : Addr} {fd : FuncData} (F : Fun K "walk_from" "walk_from" s_walk_from f fd) : FnOk P w K mg base CX0 1 f fd ["start", "around"] spWalkFrom := by
  refine F.ok sc_walk_from (fun vs H Q E h => ?_) (fun cdv A outer sh H vs Q E hr h => ?_)
  · obtain ⟨u, n, s, N, rfl, _⟩ := h
    rfl
  · obtain ⟨u, n, s, N, rfl, ⟨U, As, rfl, hU⟩, s0, s1, n100, hN, q⟩ := h
    have hu := room1 hr
    refine ⟨_, (pss_cons (ps_set (i := 2) sc_walk_from.nd rfl (.inl rfl) (pe_disp (pps_cons (pv 0) (pe_tup (pa_cons pe_int (pa_cons pe_non (pa_cons pe_non pa_nil)))) pps_nil) (by rfl) (by rfl) (fun z => by cases z) (by decide)))
      (pss_cons (ps_set (i := 3) sc_walk_from.nd rfl (.inl rfl) (pe_lst (pa_cons (pv 0) pa_nil)))
      (pss_cons (ps_set (i := 4) sc_walk_from.nd rfl (.inl rfl) pe_int)
      (pss_cons (ps_while PassesOwn.never (pt_truth (pv 3) (by intro _; rfl))
        (pss_cons (ps_aug (i := 4) sc_walk_from.nd rfl (.inl rfl) pe_int ip_add)
        (pss_cons (ps_set (i := 5) sc_walk_from.nd rfl (.inl rfl) (pe_lst pa_nil))
        (pss_cons (ps_for PassesOwn.never rfl (pi_list (pv 3)) (pg_name (i := 6) sc_walk_from.nd rfl (.inl rfl))
          (pss_one (ps_for PassesOwn.never rfl (pi_seq (pe_dget2 hu (pv 1) (pv 6) (pe_tup pa_nil) ⟨rfl, rfl, rfl, rfl⟩)) (pg_tup rfl (pgs_cons (pg_name (i := 7) sc_walk_from.nd rfl (.inl rfl)) (pgs_cons (pg_name (i := 8) sc_walk_from.nd rfl (.inl rfl)) pgs_nil)))
            (pss_one (ps_if (pt_cmp (pc_dnotin hu (pv 7) (pv 2)))
              (pss_cons (ps_dput hu (pv 2) (pv 7) (pe_tup (pa_cons (pv 4) (pa_cons (pv 6) (pa_cons (pv 8) pa_nil)))) rfl)
              (pss_one (ps_expr (pe_bm PySem.F.plainAttrs_list PySem.F.slot_list_append PySem.F.type_list_append mt_append (pv 5) (pa_cons (pv 7) pa_nil)))))
              pss_nil)))))
        (pss_one (ps_set (i := 3) sc_walk_from.nd rfl (.inl rfl) (pv 5)))))))
      (pss_one (ps_ret (pv 2))))))), ?_⟩
    -- walk
    refine fun D nD => ⟨.int s, rfl, by show 3 ≤ sizeLine; decide, fun T nT => ?_⟩
    have hTD : T ≠ D := (ne_of_none upd_same nT).symm
    have nTH : H T = none := by rw [upd_ne hTD] at nT; exact nT
    refine ⟨by rw [upd_ne (Ne.symm hTD)]; exact upd_same, [(Sum.inl s, .ref T)], rfl, (by show 1 ≤ 15; decide), ?_⟩
    have hw0 : WalkAt (upd (upd (upd H D (.dK [])) T (.tup [.int 0, .non, .non])) D (.dK (mergeK [] [(Sum.inl s, .ref T)]))) D [(s, 0, none)] := ⟨_, upd_same, .cons ⟨rfl, T, rfl, by rw [upd_ne hTD]; exact upd_same⟩ .nil⟩
    have s2 : Same H (upd (upd (upd H D (.dK [])) T (.tup [.int 0, .non, .non])) D (.dK (mergeK [] [(Sum.inl s, .ref T)]))) := Same.mut (Same.mut (same_new nD) nTH) nD
    generalize upd (upd (upd H D (.dK [])) T (.tup [.int 0, .non, .non])) D (.dK (mergeK [] [(Sum.inl s, .ref T)])) = H2 at hw0 s2
    -- reached
    refine ⟨.int s, rfl, by show 1 ≤ sizeLine; decide, fun R0 nR0 => ?_⟩
    refine ⟨fun k σ' H' => ∃ (y5 y6 y7 y8 : Option V) (R : Addr) (ws : List We) (L : Nat) (todo : List Int), σ' = [some (.int s), some (.ref U), some (.ref D), some (.ref R), some (.int (L : Nat)), y5, y6, y7, y8] ∧ WalkAt H' D ws ∧ H' R = some (.lst (todo.map V.int)) ∧ Same H H' ∧ BF N s ws L todo [] ∧ Bst N s L = (ws, todo) ∧ k = 2 * (n - ws.length) + (if todo.isEmpty = true then 0 else 1), ⟨_, none, none, none, none, R0, [(s, 0, none)], 0, [s], rfl, hw0.same (same_new nR0), upd_same, s2.trans (same_new nR0), BF.start N s, rfl, rfl⟩, ?_⟩
    clear hw0 s2 nR0 nT hTD nTH
    rintro k σ' H1 ⟨y5, y6, y7, y8, R, ws, L, todo, rfl, hw, hR, s3, bf, hx, hk⟩
    refine ⟨.ref R, rfl, _, .inl ⟨_, SqL.of hR, rfl⟩, ?_⟩
    refine ite2 (fun hb => ?_) (fun hb => ?_)
    · have hne : todo.isEmpty = false := by
        cases todo with
        | nil => cases hb
        | cons a b => rfl
      rw [hne] at hk
      refine ⟨fun σ' H' => ∃ k', k' < k ∧ ∃ (y5 y6 y7 y8 : Option V) (R : Addr) (ws : List We) (L : Nat) (todo : List Int), σ' = [some (.int s), some (.ref U), some (.ref D), some (.ref R), some (.int (L : Nat)), y5, y6, y7, y8] ∧ WalkAt H' D ws ∧ H' R = some (.lst (todo.map V.int)) ∧ Same H H' ∧ BF N s ws L todo [] ∧ Bst N s L = (ws, todo) ∧ k' = 2 * (n - ws.length) + (if todo.isEmpty = true then 0 else 1), fun _ _ h => h, ?_⟩
      refine ⟨.int (L : Nat), rfl, L, 1, rfl, rfl, ?_⟩
      refine ⟨Nat.zero_le _, fun Fo nF => ?_⟩
      have hFD : Fo ≠ D := by
        obtain ⟨kvs, h1, _⟩ := hw
        exact (ne_of_none h1 nF).symm
      have hFR : Fo ≠ R := (ne_of_none hR nF).symm
      have nFH : H Fo = none := s3.free nF
      have few0 := bf.few ⟨s0, s1⟩ hN
      have hRs : (upd H1 Fo (.lst [])) R = some (.lst (todo.map V.int)) := same_new nF _ _ hR
      refine ⟨.ref R, rfl, R, rfl, ⟨_, SqL.of hRs⟩, ?_⟩
      refine for_list (xs := todo.map V.int) (fun i σ' H' => ∃ (y6 y7 y8 : Option V) (ws' : List We) (fol : List Int), σ' = [some (.int s), some (.ref U), some (.ref D), some (.ref R), some (.int ((L + 1 : Nat) : Int)), some (.ref Fo), y6, y7, y8] ∧ WalkAt H' D ws' ∧ H' R = some (.lst (todo.map V.int)) ∧ H' Fo = some (.lst (fol.map V.int)) ∧ Same H H' ∧ BF N s ws' L (todo.drop i) fol ∧ (todo.take i).foldl (fun st p => (N p).foldl (stp p L) st) (ws, []) = (ws', fol) ∧ ws'.length = ws.length + fol.length) ⟨y6, y7, y8, ws, [], rfl, hw.same (same_new nF), hRs, upd_same, s3.trans (same_new nF), bf, rfl, rfl⟩ (fun i σ' H' _ h => by
        obtain ⟨_, _, _, _, _, _, _, h, _⟩ := h
        exact SqL.of h) ?_ ?_
      · clear hw hR s3 hRs nF
        rintro i x σ' H2 ex ⟨y6, y7, y8, ws1, fol1, rfl, hw, hR, hF, s3, bf', hx1, hl⟩
        rw [List.getElem?_map] at ex
        obtain ⟨p, hp, rfl⟩ := Option.map_eq_some_iff.mp ex
        have hi := (List.getElem?_eq_some_iff.mp hp).1
        have ed : todo.drop i = p :: todo.drop (i + 1) := by
          rw [List.drop_eq_getElem_cons hi]
          congr 1
          exact (List.getElem?_eq_some_iff.mp hp).2
        rw [ed] at bf'
        obtain ⟨f0, hf0⟩ := bf'.td p (by simp)
        have hU3 := hU.same s3
        refine ⟨.ref U, rfl, U, rfl, .inl ⟨_, .inl hU3.at'⟩, .int p, rfl, Nat.zero_le _, fun t nt => ⟨_, DGet.k (k := Sum.inl p) (same_new nt _ _ hU3.at'), ?_⟩⟩
        have sT := same_new (o := .tup []) nt
        -- what holds along the neighbours
        let Jv : Nat → L2.St → Hp → Prop := fun j σ' H' => ∃ (y7 y8 : Option V) (ws' : List We) (fol : List Int), σ' = [some (.int s), some (.ref U), some (.ref D), some (.ref R), some (.int ((L + 1 : Nat) : Int)), some (.ref Fo), some (.int p), y7, y8] ∧ WalkAt H' D ws' ∧ H' R = some (.lst (todo.map V.int)) ∧ H' Fo = some (.lst (fol.map V.int)) ∧ Same H H' ∧ Tk H2 H' ∧ BF N s ws' L (p :: todo.drop (i + 1)) fol ∧ (p, L, f0) ∈ ws' ∧ (∀ q ∈ (N p).take j, q.1 ∈ ws'.map (·.1)) ∧ ((N p).take j).foldl (stp p L) (ws1, fol1) = (ws', fol) ∧ ws'.length = ws.length + fol.length
        have J0 : Jv 0 [some (.int s), some (.ref U), some (.ref D), some (.ref R), some (.int ((L + 1 : Nat) : Int)), some (.ref Fo), some (.int p), y7, y8] (upd H2 t (.tup [])) := ⟨y7, y8, ws1, fol1, rfl, hw.same sT, sT _ _ hR, sT _ _ hF, s3.trans sT, Same.tk sT, bf', hf0, fun q hq => by simp at hq, rfl, hl⟩
        have Jend : ∀ σ' H', Jv (N p).length σ' H' → ∃ (y6 y7 y8 : Option V) (ws' : List We) (fol : List Int), σ' = [some (.int s), some (.ref U), some (.ref D), some (.ref R), some (.int ((L + 1 : Nat) : Int)), some (.ref Fo), y6, y7, y8] ∧ WalkAt H' D ws' ∧ H' R = some (.lst (todo.map V.int)) ∧ H' Fo = some (.lst (fol.map V.int)) ∧ Same H H' ∧ BF N s ws' L (todo.drop (i + 1)) fol ∧ (todo.take (i + 1)).foldl (fun st p => (N p).foldl (stp p L) st) (ws, []) = (ws', fol) ∧ ws'.length = ws.length + fol.length := by
          rintro σ' H' ⟨y7, y8, ws', fol, rfl, h1, h2, h3, h4, _, h5, h6, h7, hx2, h8⟩
          rw [List.take_length] at h7 hx2
          refine ⟨_, _, _, ws', fol, rfl, h1, h2, h3, h4, h5.done h6 fun q hq => ?_, by rw [List.take_add_one, hp, List.foldl_append, hx1]; exact hx2, h8⟩
          obtain ⟨kk, ff, he⟩ := we_key (h7 q hq)
          exact ⟨kk, ff, he, h5.lv _ he⟩
        rcases aKv_cases As p hU.nd with ⟨hno, e⟩ | ⟨a, ha, e⟩
        · rw [e]
          have eN : N p = [] := hU.no p hno
          refine ⟨t, rfl, .inr ⟨⟨_, SqT.of upd_same⟩, ?_⟩⟩
          refine for_tup (xs := []) (fun j σ' H' => Jv j σ' H' ∧ H' t = some (.tup [])) ⟨J0, upd_same⟩ (fun j σ' H' _ h => SqT.of h.2) (fun j x σ' H' ex => by simp at ex) (fun σ' H' h => Jend σ' H' (by rw [eN]; exact h.1))
        · rw [e]
          obtain ⟨us, hus, hpu⟩ := hU.each _ ha
          refine ⟨a, rfl, .inl ⟨⟨_, SqL.of (sT _ _ (s3 _ _ hus))⟩, ?_⟩⟩
          have lu : us.length = (N p).length := Paired.length hpu
          refine for_list (xs := us) Jv J0 (fun j σ' H' _ h => by
            obtain ⟨_, _, _, _, _, _, _, _, h, _⟩ := h
            exact SqL.of (h _ _ hus)) ?_ (by rw [lu]; exact Jend)
          clear J0 Jend hw hR hF s3 bf' hl hf0 sT nt hU3 hx1
          rintro j x σ' H3 ex ⟨y7, y8, ws', fol, rfl, hw, hR, hF, s3, tk, bf', hf, hdn, hx2, hl⟩
          obtain ⟨⟨y, m⟩, eq, c, rfl, hc⟩ := Paired.at hpu ex
          have hm : (y, m) ∈ N p := List.mem_of_getElem? eq
          have few := bf'.few ⟨s0, s1⟩ hN
          have etk : (N p).take (j + 1) = (N p).take j ++ [(y, m)] := by
            rw [List.take_add_one, eq]
            rfl
          obtain ⟨kvs, hD, hkv⟩ := id hw
          have lkv : kvs.length = ws'.length := Paired.length hkv
          refine ⟨c, _, rfl, SqT.of (s3 _ _ hc), rfl, _, _, rfl, _, _, rfl, rfl, ?_⟩
          refine ⟨.int y, rfl, .ref D, rfl, D, _, rfl, DGet.k (k := Sum.inl y) hD, _, rfl, ?_⟩
          by_cases hy : y ∈ ws'.map (·.1)
          · obtain ⟨ky, fy, hey⟩ := we_key hy
            obtain ⟨ay, ev, _⟩ := wes_some hkv bf'.nd hey
            rw [ev]
            refine ⟨_, _, ws', fol, rfl, hw, hR, hF, s3, tk, bf', hf, fun q hq => ?_, by rw [etk, List.foldl_append, hx2]; show stp p L (ws', fol) (y, m) = _; unfold stp; rw [if_pos hy], hl⟩
            rw [etk] at hq
            rcases List.mem_append.mp hq with z | z
            · exact hdn q z
            · rw [List.mem_singleton.mp z]
              exact hy
          · have ev := wes_none hkv hy
            rw [ev]
            refine ⟨.int ((L + 1 : Nat) : Int), rfl, .int p, rfl, .int m, rfl, by show 3 ≤ sizeLine; decide, fun Z nZ => ?_⟩
            have sZ := same_new (o := .tup [.int ((L + 1 : Nat) : Int), .int p, .int m]) nZ
            have hZD : Z ≠ D := (ne_of_none hD nZ).symm
            refine ⟨.ref D, rfl, .int y, rfl, D, _, rfl, DPut.k (k := Sum.inl y) (sZ _ _ hD) (small1000 (by omega)), ?_⟩
            rw [putK_new ev]
            have tkD : Tk H3 (upd (upd H3 Z (.tup [.int ((L + 1 : Nat) : Int), .int p, .int m])) D (.dK (kvs ++ [(Sum.inl y, .ref Z)]))) := fun b xs e => by
              rw [upd_ne (ne_of e hD (by intro z; cases z))]
              exact sZ _ _ e
            have hF4 : (upd (upd H3 Z (.tup [.int ((L + 1 : Nat) : Int), .int p, .int m])) D (.dK (kvs ++ [(Sum.inl y, .ref Z)]))) Fo = some (.lst (fol.map V.int)) := by rw [upd_ne hFD]; exact sZ _ _ hF
            have lf := bf'.fl
            have bfp := bf'.push hf hm hy
            have few2 := bfp.few ⟨s0, s1⟩ hN
            refine ⟨.ref Fo, rfl, .inl ⟨rfl, _, SqL.of hF4⟩, .int y, rfl, Fo, _, _, rfl, rfl, hF4, by rw [List.length_map]; exact small1000 (by omega), ?_⟩
            have tkF := tk_lst (ys := fol.map V.int ++ [.int y]) hF4
            refine ⟨_, _, ws' ++ [(y, L + 1, some (p, m))], fol ++ [y], rfl, ⟨kvs ++ [(Sum.inl y, .ref Z)], ?_, Paired.snoc (wes_tk (tkD.trans tkF) hkv) ⟨rfl, Z, rfl, tkF _ _ (by rw [upd_ne hZD]; exact upd_same)⟩⟩, ?_, by rw [upd_same, List.map_append]; rfl, Same.mut (Same.mut (s3.trans sZ) nD) nFH, tk.trans (tkD.trans tkF), bfp, List.mem_append_left _ hf, fun q hq => ?_, by rw [etk, List.foldl_append, hx2]; show stp p L (ws', fol) (y, m) = _; unfold stp; rw [if_neg hy], ?_⟩
            · rw [upd_ne (Ne.symm hFD)]
              exact upd_same
            · have hRD : R ≠ D := ne_of hR hD (by intro z; cases z)
              rw [upd_ne (Ne.symm hFR), upd_ne hRD]
              exact sZ _ _ hR
            · rw [List.map_append]
              rw [etk] at hq
              rcases List.mem_append.mp hq with z | z
              · exact List.mem_append_left _ (hdn q z)
              · rw [List.mem_singleton.mp z]
                exact List.mem_append_right _ (by simp)
            · rw [List.length_append, List.length_append, hl]
              rfl
      · clear hw hR s3 hRs nF
        rintro σ' H2 ⟨y6, y7, y8, ws', fol, rfl, hw, hR, hF, s3, bf', hx1, hl⟩
        rw [List.length_map, List.drop_length] at bf'
        rw [List.length_map, List.take_length] at hx1
        have few := bf'.few ⟨s0, s1⟩ hN
        refine ⟨.ref Fo, rfl, _, ?_, _, _, _, _, Fo, ws', L + 1, fol, rfl, hw, hF, s3, bf'.next, by show lvl N L (Bst N s L) = _; rw [hx]; exact hx1, rfl⟩
        cases fol with
        | nil =>
          rw [hk, hl]
          simp
        | cons a b =>
          rw [List.length_cons] at hl
          rw [hk]
          simp
          omega
    · have he : todo = [] := by
        cases todo with
        | nil => rfl
        | cons a b => exact absurd rfl hb
      subst he
      exact ⟨.ref D, rfl, q D ws H1 s3 hw (bf.stop ⟨L, hx⟩) (bf.few ⟨s0, s1⟩ hN)⟩
end
/-! ### the way back -/
inductive Way (N : Int → List Nu) (e : Int) : Int → List Int → List Int → Prop
  | one : Way N e e [e] []
  | cons {c p m : Int} {qs ns : List Int} : Way N e c qs ns → (c, m) ∈ N p → p ∉ qs → Way N e p (p :: qs) (m :: ns)
theorem Way.len {N : Int → List Nu} {e c : Int} {qs ns : List Int} (h : Way N e c qs ns) : qs.length = ns.length + 1 := by
  induction h with
  | one => rfl
  | cons _ _ _ ih => rw [List.length_cons, List.length_cons, ih]
theorem Way.nodup {N : Int → List Nu} {e c : Int} {qs ns : List Int} (h : Way N e c qs ns) : qs.Nodup := by
  induction h with
  | one => simp
  | cons _ _ hp ih => exact List.nodup_cons.mpr ⟨hp, ih⟩
/-- the way back, by the walk alone -/
inductive Bk (ws : List We) : Int → List Int → List Int → Prop
  | stop {c : Int} {k : Nat} : (c, k, none) ∈ ws → Bk ws c [c] []
  | step {c p m : Int} {k : Nat} {qs ns : List Int} : (c, k, some (p, m)) ∈ ws → Bk ws p qs ns → Bk ws c (c :: qs) (m :: ns)
theorem Bk.one {ws : List We} (nd : (ws.map (·.1)).Nodup) {c : Int} {qs ns : List Int} (a : Bk ws c qs ns) : ∀ {qs' ns' : List Int}, Bk ws c qs' ns' → qs = qs' ∧ ns = ns' := by
  induction a with
  | stop h =>
    intro qs' ns' b
    cases b with
    | stop _ => exact ⟨rfl, rfl⟩
    | step h' _ => cases (we_one nd h h').2
  | step h t ih =>
    intro qs' ns' b
    cases b with
    | stop h' => cases (we_one nd h h').2
    | step h' t' =>
      cases (we_one nd h h').2
      obtain ⟨e1, e2⟩ := ih t'
      rw [e1, e2]
      exact ⟨rfl, rfl⟩
/-- the way that is told, and no other -/
def Exa (N : Int → List Nu) (s e : Int) (qs ns : List Int) : Prop := ∃ ws, WF N s ws ∧ Bk ws e qs.reverse ns.reverse
theorem Exa.one {N : Int → List Nu} {s e : Int} {qs ns qs' ns' : List Int} (a : Exa N s e qs ns) (b : Exa N s e qs' ns') : qs = qs' ∧ ns = ns' := by
  obtain ⟨ws, h1, h2⟩ := a
  obtain ⟨ws', h1', h2'⟩ := b
  obtain rfl := h1.ex.one h1'.ex
  obtain ⟨e1, e2⟩ := h2.one h1.nd h2'
  exact ⟨List.reverse_inj.mp e1, List.reverse_inj.mp e2⟩
def spWayTo : Sp := fun vs H Q _ => ∃ (e s : Int) (D : Addr) (ws : List We) (N : Int → List Nu) (k : Nat) (f : Option (Int × Int)), vs = [.int e, .ref D] ∧ WalkAt H D ws ∧ WF N s ws ∧ (e, k, f) ∈ ws ∧ k ≤ 200 ∧ ∀ r a b qs ns H', Same H H' → H' r = some (.tup [.ref a, .ref b]) → H' a = some (.tup (qs.map V.int)) → H' b = some (.tup (ns.map V.int)) → Way N e s qs ns → Exa N s e qs ns → ns.length = k → Q (.ref r) H'
section
variable {P : Program} {w : World} {K : PySem.W.Frag} {mg : Str → Option Value} {base : Heap}
theorem ok_way_to {f : Addr} {fd : FuncData} (F : Fun K "way_to" "way_to" s_way_to f fd) (M : Free mg) : FnOk P w K mg base CX0 1 f fd ["end", "walk"] spWayTo := by
  refine F.ok sc_way_to (fun vs H Q E h => ?_) (fun cdv A outer sh H vs Q E hr h => ?_)
  · obtain ⟨e, s, D, ws, N, k, f, rfl, _⟩ := h
    rfl
  · obtain ⟨e, s, D, ws, N, k, f, rfl, hw, wf, he, k2, q⟩ := h
    have hu := room1 hr
    refine ⟨_, (pss_cons (ps_set (i := 2) sc_way_to.nd rfl (.inl rfl) (pe_lst (pa_cons (pv 0) pa_nil)))
      (pss_cons (ps_set (i := 3) sc_way_to.nd rfl (.inl rfl) (pe_lst pa_nil))
      (pss_cons (ps_asg (pe_dget hu (pv 1) (pv 0) (fun _ _ => rfl)) (pg_tup rfl (pgs_cons (pg_name (i := 4) sc_way_to.nd rfl (.inl rfl)) (pgs_cons (pg_name (i := 5) sc_way_to.nd rfl (.inl rfl)) (pgs_cons (pg_name (i := 6) sc_way_to.nd rfl (.inl rfl)) pgs_nil)))))
      (pss_cons (ps_while PassesOwn.never (pt_cmpR op_notN (pv 5) pe_non (nomark _))
        (pss_cons (ps_expr (pe_bm PySem.F.plainAttrs_list PySem.F.slot_list_append PySem.F.type_list_append mt_append (pv 2) (pa_cons (pv 5) pa_nil)))
        (pss_cons (ps_expr (pe_bm PySem.F.plainAttrs_list PySem.F.slot_list_append PySem.F.type_list_append mt_append (pv 3) (pa_cons (pv 6) pa_nil)))
        (pss_one (ps_asg (pe_dget hu (pv 1) (pv 5) (fun _ _ => rfl)) (pg_tup rfl (pgs_cons (pg_name (i := 4) sc_way_to.nd rfl (.inl rfl)) (pgs_cons (pg_name (i := 5) sc_way_to.nd rfl (.inl rfl)) (pgs_cons (pg_name (i := 6) sc_way_to.nd rfl (.inl rfl)) pgs_nil)))))))))
      (pss_one (ps_ret (pe_tup (pa_cons (pe_callTy call_tuple_of (by rfl) M.tuple (by decide +kernel) (pa_cons (pe_revL (pv 2)) pa_nil)) (pa_cons (pe_callTy call_tuple_of (by rfl) M.tuple (by decide +kernel) (pa_cons (pe_revL (pv 3)) pa_nil)) pa_nil))))))))), ?_⟩
    refine ⟨.int e, rfl, by show 1 ≤ sizeLine; decide, fun A1 n1 => ⟨Nat.zero_le _, fun B n2 => ?_⟩⟩
    have s2 := (same_new (o := .lst [.int e]) n1).trans (same_new (o := .lst []) n2)
    have hAB : A1 ≠ B := ne_of_none upd_same n2
    have hA2 : (upd (upd H A1 (.lst [.int e])) B (.lst [])) A1 = some (.lst [.int e]) := by rw [upd_ne hAB]; exact upd_same
    have hB2 : (upd (upd H A1 (.lst [.int e])) B (.lst [])) B = some (.lst []) := upd_same
    have nBH : H B = none := (same_new n1).free n2
    generalize upd (upd H A1 (.lst [.int e])) B (.lst []) = H2 at s2 hA2 hB2
    -- an entry, read
    have get : ∀ (H' : Hp) (x : Int) (j : Nat) (g : Option (Int × Int)), Same H H' → (x, j, g) ∈ ws → ∃ a, DGet H' D (.int x) (some (.ref a)) ∧ H' a = some (.tup (weL (x, j, g))) := fun H' x j g s3 hx => by
      obtain ⟨kvs, h1, h2⟩ := hw.same s3
      obtain ⟨a, e1, e2⟩ := wes_some h2 wf.nd hx
      exact ⟨a, by rw [← e1]; exact DGet.k (k := Sum.inl x) h1, e2⟩
    let aV : Option (Int × Int) → V := fun g => match g with | none => .non | some z => .int z.1
    let nV : Option (Int × Int) → V := fun g => match g with | none => .non | some z => .int z.2
    have wl : ∀ (x : Int) (j : Nat) (g : Option (Int × Int)), weL (x, j, g) = [.int (j : Nat), aV g, nV g] := fun x j g => by cases g <;> rfl
    obtain ⟨a0, g0, h0⟩ := get H2 e k f s2 he
    rw [wl] at h0
    refine ⟨.ref D, rfl, .int e, rfl, D, _, rfl, g0, a0, _, rfl, SqT.of h0, rfl, _, _, rfl, _, _, rfl, _, _, rfl, rfl, ?_⟩
    refine ⟨fun j σ' H' => ∃ (c : Int) (g : Option (Int × Int)) (qs ns : List Int), σ' = [some (.int e), some (.ref D), some (.ref A1), some (.ref B), some (.int (j : Nat)), some (aV g), some (nV g)] ∧ (c, j, g) ∈ ws ∧ H' A1 = some (.lst (qs.reverse.map V.int)) ∧ H' B = some (.lst (ns.reverse.map V.int)) ∧ Same H H' ∧ Way N e c qs ns ∧ ns.length + j = k ∧ (∀ qs' ns', Bk ws c (c :: qs') ns' → Bk ws e (qs.reverse ++ qs') (ns.reverse ++ ns')) ∧ ∀ x ∈ qs, ∃ i g, (x, i, g) ∈ ws ∧ j ≤ i, ⟨k, e, f, [e], [], rfl, he, hA2, hB2, s2, .one, by simp, fun _ _ h => h, fun x hx => ⟨k, f, by rw [List.mem_singleton.mp hx]; exact he, Nat.le_refl _⟩⟩, ?_⟩
    clear hA2 hB2 s2 n2 h0 g0
    rintro j σ' H1 ⟨c, g, qs, ns, rfl, hc, hA, hB, s3, way, hl, bk, lev⟩
    have lq := way.len
    refine ⟨aV g, rfl, rfl, _, rfl, ?_⟩
    cases g with
    | some z =>
      obtain ⟨p, m⟩ := z
      obtain ⟨i, g', hp, hj, hm⟩ := wf.par _ _ _ _ hc
      refine ⟨fun σ' H' => ∃ j', j' < j ∧ ∃ (c : Int) (g : Option (Int × Int)) (qs ns : List Int), σ' = [some (.int e), some (.ref D), some (.ref A1), some (.ref B), some (.int (j' : Nat)), some (aV g), some (nV g)] ∧ (c, j', g) ∈ ws ∧ H' A1 = some (.lst (qs.reverse.map V.int)) ∧ H' B = some (.lst (ns.reverse.map V.int)) ∧ Same H H' ∧ Way N e c qs ns ∧ ns.length + j' = k ∧ (∀ qs' ns', Bk ws c (c :: qs') ns' → Bk ws e (qs.reverse ++ qs') (ns.reverse ++ ns')) ∧ ∀ x ∈ qs, ∃ i g, (x, i, g) ∈ ws ∧ j' ≤ i, fun _ _ h => h, ?_⟩
      refine ⟨.ref A1, rfl, .inl ⟨rfl, _, SqL.of hA⟩, .int p, rfl, A1, _, _, rfl, rfl, hA, by rw [List.length_map, List.length_reverse]; exact small1000 (by omega), ?_⟩
      have hB2 : (upd H1 A1 (.lst (qs.reverse.map V.int ++ [.int p]))) B = some (.lst (ns.reverse.map V.int)) := by rw [upd_ne (Ne.symm hAB)]; exact hB
      refine ⟨.ref B, rfl, .inl ⟨rfl, _, SqL.of hB2⟩, .int m, rfl, B, _, _, rfl, rfl, hB2, by rw [List.length_map, List.length_reverse]; exact small1000 (by omega), ?_⟩
      have s4 : Same H (upd (upd H1 A1 (.lst (qs.reverse.map V.int ++ [.int p]))) B (.lst (ns.reverse.map V.int ++ [.int m]))) := Same.mut (Same.mut s3 n1) nBH
      obtain ⟨a1, g1, h1⟩ := get _ p i g' s4 hp
      rw [wl] at h1
      refine ⟨.ref D, rfl, .int p, rfl, D, _, rfl, g1, a1, _, rfl, SqT.of h1, rfl, _, _, rfl, _, _, rfl, _, _, rfl, rfl, ?_⟩
      refine ⟨i, by omega, p, g', p :: qs, m :: ns, rfl, hp, ?_, ?_, s4, .cons way hm (fun hin => ?_), by rw [List.length_cons]; omega, fun qs' ns' hb => ?_, fun x hx => ?_⟩
      · rw [upd_ne hAB, upd_same, List.reverse_cons, List.map_append]
        rfl
      · rw [upd_same, List.reverse_cons, List.map_append]
        rfl
      · obtain ⟨i', g'', hx, hle⟩ := lev p hin
        have := (we_one wf.nd hp hx).1
        omega
      · have := bk _ _ (.step hc hb)
        rw [List.reverse_cons, List.reverse_cons, List.append_assoc, List.append_assoc]
        exact this
      · rcases List.mem_cons.mp hx with z | z
        · exact ⟨i, g', by rw [z]; exact hp, Nat.le_refl _⟩
        · obtain ⟨i', g'', h2, h3⟩ := lev x z
          exact ⟨i', g'', h2, by omega⟩
    | none =>
      obtain ⟨rfl, rfl⟩ := wf.non _ _ hc
      refine ⟨.ref A1, rfl, A1, _, rfl, SqL.of hA, fun p1 m1 => ⟨p1, _, rfl, .inl ⟨SqL.of upd_same, fun r1 m2 => ?_⟩⟩⟩
      have e1 := (same_new (o := .lst (qs.reverse.map V.int).reverse) m1)
      have e2 := (same_new (o := .tup (qs.reverse.map V.int).reverse) m2)
      have hB2 := e2 _ _ (e1 _ _ hB)
      refine ⟨.ref B, rfl, B, _, rfl, SqL.of hB2, fun p3 m3 => ⟨p3, _, rfl, .inl ⟨SqL.of upd_same, fun r2 m4 => ⟨by show 2 ≤ sizeLine; decide, fun r m5 => ?_⟩⟩⟩⟩
      have e3 := (same_new (o := .lst (ns.reverse.map V.int).reverse) m3)
      have e4 := (same_new (o := .tup (ns.reverse.map V.int).reverse) m4)
      have e5 := (same_new (o := .tup [.ref r1, .ref r2]) m5)
      have rr : ∀ xs : List Int, (xs.reverse.map V.int).reverse = xs.map V.int := fun xs => by rw [List.map_reverse, List.reverse_reverse]
      refine q r r1 r2 qs ns _ ((((s3.trans e1).trans e2).trans e3).trans e4 |>.trans e5) upd_same ?_ ?_ way ⟨ws, wf, by have := bk [] [] (.stop hc); rw [List.append_nil, List.append_nil] at this; exact this⟩ hl
      · rw [e5 _ _ (e4 _ _ (e3 _ _ upd_same)), rr]
      · rw [e5 _ _ upd_same, rr]
end
/-! ### min of a list of pairs -/
def PV2 (H : Hp) (v : V) (q : Int × Int) : Prop := ∃ a, v = .ref a ∧ H a = some (.tup [.int q.1, .int q.2])
def lexle (p q : Int × Int) : Prop := p.1 < q.1 ∨ (p.1 = q.1 ∧ p.2 ≤ q.2)
theorem lexle_of_not {p q : Int × Int} (h : PySem.W.DatumOrd.lt q p = false) : lexle p q := by
  have h : (if q.1 = p.1 then decide (q.2 < p.2) else decide (q.1 < p.1)) = false := h
  unfold lexle
  split at h
  · have := of_decide_eq_false h
    omega
  · have := of_decide_eq_false h
    omega
theorem lexle_of {p q : Int × Int} (h : PySem.W.DatumOrd.lt p q = true) : lexle p q := by
  have h : (if p.1 = q.1 then decide (p.2 < q.2) else decide (p.1 < q.1)) = true := h
  unfold lexle
  split at h
  · have := of_decide_eq_true h
    omega
  · have := of_decide_eq_true h
    omega
theorem lexle_trans {p q r : Int × Int} (h : lexle p q) (g : lexle q r) : lexle p r := by
  unfold lexle at *
  omega
theorem minOf_spec : ∀ (ps : List (Int × Int)) (p : Int × Int), PySem.W.minOf p ps ∈ p :: ps ∧ ∀ q ∈ p :: ps, lexle (PySem.W.minOf p ps) q
  | [], p => ⟨by simp [PySem.W.minOf], fun q hq => by rw [List.mem_singleton.mp hq]; exact .inr ⟨rfl, Int.le_refl _⟩⟩
  | x :: ps, p => by
    have e : PySem.W.minOf p (x :: ps) = PySem.W.minOf (if PySem.W.DatumOrd.lt x p = true then x else p) ps := rfl
    rw [e]
    cases h : PySem.W.DatumOrd.lt x p with
    | true =>
      obtain ⟨h1, h2⟩ := minOf_spec ps x
      rw [if_pos rfl]
      refine ⟨List.mem_cons_of_mem _ h1, fun q hq => ?_⟩
      rcases List.mem_cons.mp hq with z | z
      · rw [z]
        exact lexle_trans (h2 x (by simp)) (lexle_of h)
      · exact h2 q z
    | false =>
      obtain ⟨h1, h2⟩ := minOf_spec ps p
      rw [if_neg (by simp)]
      refine ⟨?_, fun q hq => ?_⟩
      · rcases List.mem_cons.mp h1 with z | z
        · rw [z]
          simp
        · exact List.mem_cons_of_mem _ (List.mem_cons_of_mem _ z)
      · rcases List.mem_cons.mp hq with z | z
        · rw [z]
          exact h2 p (by simp)
        · rcases List.mem_cons.mp z with y | y
          · rw [y]
            exact lexle_trans (h2 p (by simp)) (lexle_of_not h)
          · exact h2 q (List.mem_cons_of_mem _ y)
def pD (p : Int × Int) : PyData := .tuple [.int p.1, .int p.2]
theorem dp_pairs {K : PySem.W.Frag} {H : Hp} : ∀ {xs : List V} {ps : List (Int × Int)}, Paired (PV2 H) xs ps → DpAll K H xs (ps.map pD)
  | _, _, .nil => .nil
  | _, _, .cons r t => by
    obtain ⟨a, rfl, e⟩ := r
    exact .cons (.tup (SqT.of e) (.cons (.int _) (.cons (.int _) .nil))) (dp_pairs t)
theorem deep_pairs : ∀ ps : List (Int × Int), PyData.depthAll (ps.map pD) ≤ 1
  | [] => by simp [PyData.depthAll]
  | p :: ps => by
    have h := deep_pairs ps
    have g : (pD p).depth = 1 := by simp [pD, PyData.depth, PyData.depthAll]
    rw [List.map_cons, PyData.depthAll, g]
    omega
def rMinP (K : PySem.W.Frag) : List V → Hp → VK → Prop := fun vs H Q => ∃ (a : Addr) (xs : List V) (ps : List (Int × Int)), vs = [V.ref a] ∧ SqL K H a xs ∧ Paired (PV2 H) xs ps ∧ ps ≠ [] ∧ ∀ x p, PV2 H x p → p ∈ ps → (∀ q ∈ ps, lexle p q) → Q x H
theorem cr_minP {X : Cx} (hc : X.calm = true) (hu : X.A.units + 65 < cLine) : CallR X (.builtin "min") (rMinP X.K) := by
  intro pins s σ H vs us Q I r h
  obtain ⟨a, xs, ps, rfl, hs, hp, hne, q⟩ := h
  obtain ⟨its, rv, hl, _⟩ := I.list hs
  rw [Vals.ref1 r]
  obtain ⟨p0, ps', rfl⟩ := List.exists_cons_of_ne_nil hne
  obtain ⟨as, hr⟩ := Dp.readsAll I _ _ _ (dp_pairs (K := X.K) hp) rv
  have hr' : ReadsAll s.heap its.toArray.toList (pD p0 :: ps'.map pD) as := hr
  refine PySem.W.min_list_data (I.ok.hd hc) hl.isList hr' (PySem.W.alikeAll_datum (p0 :: ps')) (by have := deep_pairs (p0 :: ps'); rw [List.map_cons] at this; omega) fun i v h' tk bs hv rd hk => ?_
  have em : PySem.W.minD (pD p0) (ps'.map pD) = pD (PySem.W.minOf p0 ps') := PySem.W.minD_map p0 ps'
  rw [em] at rd
  have hv' : its[i]? = some v := by simpa using hv
  obtain ⟨x, ex, rx⟩ := Paired.at' rv hv'
  obtain ⟨p, ep, t, rfl, ht⟩ := Paired.at hp ex
  obtain ⟨cs, rd2, _⟩ := PySem.W.readsAll_atA hr' i v hv
  have eg : (pD p0 :: ps'.map pD).getD i .none = pD p := by
    have : ((p0 :: ps').map pD)[i]? = some (pD p) := by rw [List.getElem?_map, ep]; rfl
    rw [List.getD_eq_getElem?_getD]
    rw [List.map_cons] at this
    rw [this]
    rfl
  rw [eg] at rd2
  have lay : (pD p).canLay0 = true := by simp [pD, PyData.canLay0, PyData.canLayAll0]
  have eq := PySem.SeqAt.Reads.unique _ _ _ _ _ lay (PySem.W.reads_keeps hk rd2) rd
  have ep2 : p = PySem.W.minOf p0 ps' := by
    unfold pD at eq
    injection eq with eq
    injection eq with e1 e2
    injection e2 with e2 _
    injection e1 with e1
    injection e2 with e2
    exact Prod.ext e1 e2
  obtain ⟨m1, m2⟩ := minOf_spec ps' p0
  exact ⟨.ref t, H, I.kept hk, rx, q _ p ⟨t, rfl, ht⟩ (List.mem_of_getElem? ep) (by rw [ep2]; exact m2)⟩
/-! ### doubled webs -/
def dblA (t : Tie) : Tie := ⟨2 * t.one, 2 * t.other + bI t.foe, false⟩
def dblB (t : Tie) : Tie := ⟨2 * t.one + 1, 2 * t.other + 1 - bI t.foe, false⟩
def dbl : List Tie → List Tie
  | [] => []
  | t :: ts => dblA t :: dblB t :: dbl ts
theorem dbl_len : ∀ ts, (dbl ts).length = 2 * ts.length
  | [] => rfl
  | t :: ts => by
    show (dbl ts).length + 1 + 1 = _
    rw [dbl_len ts, List.length_cons]
    omega
theorem dbl_snoc (t : Tie) : ∀ ts, dbl (ts ++ [t]) = dbl ts ++ [dblA t, dblB t]
  | [] => rfl
  | x :: ts => by
    show dblA x :: dblB x :: dbl (ts ++ [t]) = _
    rw [dbl_snoc t ts]
    rfl
theorem dbl_get : ∀ (ts : List Tie) (i : Nat), (dbl ts)[2 * i]? = (ts[i]?).map dblA ∧ (dbl ts)[2 * i + 1]? = (ts[i]?).map dblB
  | [], i => by simp [dbl]
  | t :: ts, 0 => ⟨rfl, rfl⟩
  | t :: ts, i + 1 => by
    have h := dbl_get ts i
    have e1 : 2 * (i + 1) = 2 * i + 1 + 1 := by omega
    rw [e1]
    exact ⟨by simpa [dbl] using h.1, by simpa [dbl] using h.2⟩
theorem bI01 (b : Bool) : bI b = 0 ∨ bI b = 1 := by unfold bI; cases b <;> simp
theorem dbl_ok {n : Nat} : ∀ {ts : List Tie}, (∀ t ∈ ts, TieOk n t) → ∀ t ∈ dbl ts, TieOk (2 * (n : Int)) t
  | [], _ => fun t ht => by cases ht
  | x :: ts, h => fun t ht => by
    have o := h x (by simp)
    have b := bI01 x.foe
    obtain ⟨o1, o2, o3, o4, o5⟩ := o
    rcases List.mem_cons.mp ht with z | z
    · rw [z]
      exact ⟨by show 0 ≤ 2 * x.one; omega, by show 2 * x.one < _; omega, by show 0 ≤ 2 * x.other + bI x.foe; omega, by show 2 * x.other + bI x.foe < _; omega, by show 2 * x.one ≠ 2 * x.other + bI x.foe; omega⟩
    · rcases List.mem_cons.mp z with y | y
      · rw [y]
        exact ⟨by show 0 ≤ 2 * x.one + 1; omega, by show 2 * x.one + 1 < _; omega, by show 0 ≤ 2 * x.other + 1 - bI x.foe; omega, by show 2 * x.other + 1 - bI x.foe < _; omega, by show 2 * x.one + 1 ≠ 2 * x.other + 1 - bI x.foe; omega⟩
      · exact dbl_ok (fun t ht => h t (List.mem_cons_of_mem _ ht)) t y
theorem cut_last {xs : List V} : cutV xs none (some (-1)) = xs.dropLast := by
  unfold cutV
  rw [HT.sIx_none]
  have : HT.sIx xs.length xs.length (some (-1)) = xs.length - 1 := by
    unfold HT.sIx
    simp
    omega
  rw [this, List.drop_zero, List.dropLast_eq_take]
  rfl
def lvW (ws : List We) (x : Int) : Option Nat := (ws.find? fun e => decide (e.1 = x)).map (·.2.1)
theorem lvW_some {ws : List We} (nd : (ws.map (·.1)).Nodup) {x : Int} {k : Nat} {f : Option (Int × Int)} (h : (x, k, f) ∈ ws) : lvW ws x = some k := by
  induction ws with
  | nil => cases h
  | cons e ws ih =>
    rw [List.map_cons, List.nodup_cons] at nd
    unfold lvW at ih ⊢
    rw [List.find?_cons]
    rcases List.mem_cons.mp h with z | z
    · subst z
      simp
    · have ne : ¬ e.1 = x := fun y => nd.1 (by rw [y]; exact List.mem_map.mpr ⟨_, z, rfl⟩)
      rw [decide_eq_false ne]
      exact ih nd.2 z
theorem lvW_none {ws : List We} {x : Int} (h : x ∉ ws.map (·.1)) : lvW ws x = none := by
  induction ws with
  | nil => rfl
  | cons e ws ih =>
    rw [List.map_cons, List.mem_cons, not_or] at h
    unfold lvW at ih ⊢
    rw [List.find?_cons, decide_eq_false (fun z => h.1 z.symm)]
    exact ih h.2
def rowW (ws : List We) (far : Int) (m : Nat) : List Int := (List.range m).map fun x : Nat => ((lvW ws (x : Int)).map fun k : Nat => (k : Int)).getD far
def spDoubled : Sp := fun vs H Q _ => ∃ (wv : V) (n : Nat) (ts : List Tie), vs = [wv] ∧ WebAt H wv n ts ∧ WebOk n ts ∧ ∀ v H', Same H H' → WebAt H' v (2 * (n : Int)) (dbl ts) → Q v H'
def spHalved : Sp := fun vs H Q _ => ∃ (r a b : Addr) (qs ns : List Int), vs = [.ref r] ∧ H r = some (.tup [.ref a, .ref b]) ∧ H a = some (.tup (qs.map V.int)) ∧ H b = some (.tup (ns.map V.int)) ∧ qs.length ≤ 200 ∧ ns.length ≤ 200 ∧ ∀ r' a' b' H', Same H H' → H' r' = some (.tup [.ref a', .ref b']) → H' a' = some (.tup ((qs.dropLast.map (· / 2)).map V.int)) → H' b' = some (.tup ((ns.map (· / 2)).map V.int)) → Q (.ref r') H'
def spRowOf : Sp := fun vs H Q _ => ∃ (m : Nat) (D : Addr) (far : Int) (ws : List We), vs = [.int m, .ref D, .int far] ∧ m ≤ 100 ∧ WalkAt H D ws ∧ (ws.map (·.1)).Nodup ∧ ∀ r H', Same H H' → H' r = some (.tup ((rowW ws far m).map V.int)) → Q (.ref r) H'
section
variable {P : Program} {w : World} {K : PySem.W.Frag} {mg : Str → Option Value} {base : Heap}
theorem ok_doubled {f : Addr} {fd : FuncData} (F : Fun K "doubled" "doubled" s_doubled f fd) (M : Free mg) : FnOk P w K mg base CX0 1 f fd ["web"] spDoubled := by
  refine F.ok sc_doubled (fun vs H Q E h => ?_) (fun cdv A outer s H vs Q E hr h => ?_)
  · obtain ⟨wv, n, ts, rfl, _⟩ := h
    rfl
  · obtain ⟨wv, n, ts, rfl, hW, ok, q⟩ := h
    refine ⟨_, (pss_cons (ps_set (i := 1) sc_doubled.nd rfl (.inl rfl) (pe_lst pa_nil))
      (pss_cons (ps_for PassesOwn.never rfl (pi_tup (pe_ix ix_tup (pv 0) pe_int (fun _ _ => rfl))) (pg_tup rfl (pgs_cons (pg_name (i := 2) sc_doubled.nd rfl (.inl rfl)) (pgs_cons (pg_name (i := 3) sc_doubled.nd rfl (.inl rfl)) (pgs_cons (pg_name (i := 4) sc_doubled.nd rfl (.inl rfl)) pgs_nil))))
        (Evl.pss_cut (ps_set (i := 5) sc_doubled.nd rfl (.inl rfl) (pe_ifExp (pt_cmpR op_eq (pv 4) pe_str (nomark _)) pe_int pe_int))
        (pss_cons (ps_expr (pe_bm PySem.F.plainAttrs_list PySem.F.slot_list_append PySem.F.type_list_append mt_append (pv 1) (pa_cons (pe_tup (pa_cons (pe_op op_mul pe_int (pv 2)) (pa_cons (pe_op op_add (pe_op op_mul pe_int (pv 3)) (pv 5)) (pa_cons pe_str pa_nil)))) pa_nil)))
        (pss_one (ps_expr (pe_bm PySem.F.plainAttrs_list PySem.F.slot_list_append PySem.F.type_list_append mt_append (pv 1) (pa_cons (pe_tup (pa_cons (pe_op op_add (pe_op op_mul pe_int (pv 2)) pe_int) (pa_cons (pe_op op_sub (pe_op op_add (pe_op op_mul pe_int (pv 3)) pe_int) (pv 5)) (pa_cons pe_str pa_nil)))) pa_nil)))))))
      (pss_one (ps_ret (pe_tup (pa_cons (pe_op op_mul pe_int (pe_ix ix_tup (pv 0) pe_int (fun _ _ => rfl))) (pa_cons (pe_callTy call_tuple_of (by rfl) M.tuple (by decide +kernel) (pa_cons (pv 1) pa_nil)) pa_nil))))))), ?_⟩
    obtain ⟨wa, wb, us, rfl, hwa, hwb, hp⟩ := id hW
    have few := ok.few
    have lu : us.length = ts.length := Paired.length hp
    refine ⟨Nat.zero_le _, fun L nL => ?_⟩
    have eL := same_new (o := .lst []) nL
    refine ⟨.ref wa, rfl, wa, _, 1, .ref wb, rfl, rfl, SqT.of (eL _ _ hwa), rfl, wb, rfl, ⟨_, SqT.of (eL _ _ hwb)⟩, ?_⟩
    refine for_tup (xs := us) (fun i σ' H' => ∃ (y2 y3 y4 y5 : Option V) (vs : List V), σ' = [some (.ref wa), some (.ref L), y2, y3, y4, y5] ∧ H' L = some (.lst vs) ∧ Paired (TieV H') vs (dbl (ts.take i)) ∧ Same H H') ⟨none, none, none, none, [], rfl, upd_same, .nil, eL⟩ (fun i σ' H' _ h => by
      obtain ⟨_, _, _, _, _, _, _, _, s⟩ := h
      exact SqT.of (s _ _ hwb)) ?_ ?_
    · rintro i x σ' H1 ex ⟨y2, y3, y4, y5, vs, rfl, hL, hpv, s1⟩
      obtain ⟨t, et, c, rfl, hc⟩ := Paired.at hp ex
      have ek : decide (V.str (kindS t.foe) = V.str "foe") = t.foe := by cases t.foe <;> decide +kernel
      have lv := Paired.length hpv
      rw [dbl_len, List.length_take] at lv
      refine ⟨c, _, rfl, SqT.of (s1 _ _ hc), rfl, _, _, rfl, _, _, rfl, _, _, rfl, rfl, ?_⟩
      refine ⟨fun σ' H' => σ' = [some (.ref wa), some (.ref L), some (.int t.one), some (.int t.other), some (.str (kindS t.foe)), some (.int (bI t.foe))] ∧ H' = H1, ?_, ?_⟩
      · refine ⟨.str (kindS t.foe), rfl, rfl, _, rfl, ?_⟩
        rw [ek]
        cases t.foe
        · exact ⟨rfl, rfl⟩
        · exact ⟨rfl, rfl⟩
      rintro σ' H' ⟨rfl, eH⟩
      subst eH
      refine ⟨.ref L, rfl, .inl ⟨rfl, _, SqL.of hL⟩, .int t.one, rfl, 2, t.one, rfl, rfl, .inl ⟨by decide, by decide⟩, .int t.other, rfl, 2, t.other, rfl, rfl, .inl ⟨by decide, by decide⟩, .int (bI t.foe), rfl, _, _, rfl, rfl, by show 3 ≤ sizeLine; decide, fun c1 n1 => ?_⟩
      have e1 := same_new (o := .tup [.int (2 * t.one), .int (2 * t.other + bI t.foe), .str "friend"]) n1
      refine ⟨L, vs, _, rfl, rfl, e1 _ _ hL, small1000 (by omega), ?_⟩
      have tk1 := tk_lst (ys := vs ++ [.ref c1]) (e1 _ _ hL)
      have hL2 : (upd (upd H' c1 (.tup [.int (2 * t.one), .int (2 * t.other + bI t.foe), .str "friend"])) L (.lst (vs ++ [.ref c1]))) L = some (.lst (vs ++ [.ref c1])) := upd_same
      have hp2 : Paired (TieV (upd (upd H' c1 (.tup [.int (2 * t.one), .int (2 * t.other + bI t.foe), .str "friend"])) L (.lst (vs ++ [.ref c1])))) (vs ++ [.ref c1]) (dbl (ts.take i) ++ [dblA t]) := Paired.snoc (ties_tk ((Same.tk e1).trans tk1) hpv) ⟨c1, rfl, tk1 _ _ upd_same⟩
      have s2 := Same.mut (o := .lst (vs ++ [.ref c1])) (s1.trans e1) nL
      generalize upd (upd H' c1 (.tup [.int (2 * t.one), .int (2 * t.other + bI t.foe), .str "friend"])) L (.lst (vs ++ [.ref c1])) = H2 at hL2 hp2 s2
      refine ⟨.ref L, rfl, .inl ⟨rfl, _, SqL.of hL2⟩, .int t.one, rfl, 2, t.one, rfl, rfl, .inl ⟨by decide, by decide⟩, _, 1, rfl, rfl, .int t.other, rfl, 2, t.other, rfl, rfl, .inl ⟨by decide, by decide⟩, _, 1, rfl, rfl, .int (bI t.foe), rfl, _, _, rfl, rfl, by show 3 ≤ sizeLine; decide, fun c2 n2 => ?_⟩
      have e2 := same_new (o := .tup [.int (2 * t.one + 1), .int (2 * t.other + 1 - bI t.foe), .str "friend"]) n2
      refine ⟨L, _, _, rfl, rfl, e2 _ _ hL2, small1000 (by rw [List.length_append]; show vs.length + 1 ≤ _; omega), ?_⟩
      have tk2 := tk_lst (ys := (vs ++ [.ref c1]) ++ [.ref c2]) (e2 _ _ hL2)
      refine ⟨_, _, _, _, _, rfl, upd_same, ?_, Same.mut (s2.trans e2) nL⟩
      have e3 : dbl (ts.take (i + 1)) = (dbl (ts.take i) ++ [dblA t]) ++ [dblB t] := by rw [take_snoc et, dbl_snoc, List.append_assoc]; rfl
      rw [e3]
      exact Paired.snoc (ties_tk ((Same.tk e2).trans tk2) hp2) ⟨c2, rfl, tk2 _ _ upd_same⟩
    · rintro σ' H1 ⟨y2, y3, y4, y5, vs, rfl, hL, hpv, s1⟩
      rw [lu, List.take_length] at hpv
      refine ⟨.ref wa, rfl, wa, _, 0, .int n, rfl, rfl, SqT.of (s1 _ _ hwa), rfl, 2, n, rfl, rfl, .inl ⟨by decide, by decide⟩, .ref L, rfl, L, _, rfl, .inl ⟨SqL.of hL, fun B nB => ⟨by show 2 ≤ sizeLine; decide, fun r nr => ?_⟩⟩⟩
      have e2 := (same_new (o := .tup vs) nB).trans (same_new (o := .tup [.int (2 * (n : Int)), .ref B]) nr)
      exact q _ _ (s1.trans e2) ⟨r, B, vs, rfl, upd_same, same_new nr _ _ upd_same, ties_tk (Same.tk e2) hpv⟩
theorem ok_halved {f : Addr} {fd : FuncData} (F : Fun K "halved" "halved" s_halved f fd) (M : Free mg) : FnOk P w K mg base CX0 1 f fd ["way"] spHalved := by
  refine F.ok sc_halved (fun vs H Q E h => ?_) (fun cdv A outer s H vs Q E hr h => ?_)
  · obtain ⟨r, a, b, qs, ns, rfl, _⟩ := h
    rfl
  · obtain ⟨r, a, b, qs, ns, rfl, hr0, ha, hb, lq, ln, q⟩ := h
    refine ⟨_, (pss_cons (ps_asg (pv 0) (pg_tup rfl (pgs_cons (pg_name (i := 1) sc_halved.nd rfl (.inl rfl)) (pgs_cons (pg_name (i := 2) sc_halved.nd rfl (.inl rfl)) pgs_nil))))
      (pss_one (ps_ret (pe_tup (pa_cons (pe_callTy call_tuple_of (by rfl) M.tuple (by decide +kernel) (pa_cons (pe_lc (own := [("place", 3)]) (g := (gName 3)) (tt := tYes) rfl sc_halved.nd (pi_tup (pe_slice sl_tupU (pv 1) po_none (po_some (pe_un un_neg pe_int)))) (blkOk_by (N := N_halved) (sc := defScope s_halved) (own := [("place", 3)]) (by decide +kernel)) (fun _ _ _ _ _ => (pg_name (i := 3) sc_halved.nd rfl (.inl rfl))) (fun _ _ _ _ _ => pts_nil) (fun _ _ _ _ _ => (pe_op op_fdiv (pv 3) pe_int))) pa_nil)) (pa_cons (pe_callTy call_tuple_of (by rfl) M.tuple (by decide +kernel) (pa_cons (pe_lc (own := [("tie", 4)]) (g := (gName 4)) (tt := tYes) rfl sc_halved.nd (pi_tup (pv 2)) (blkOk_by (N := N_halved) (sc := defScope s_halved) (own := [("tie", 4)]) (by decide +kernel)) (fun _ _ _ _ _ => (pg_name (i := 4) sc_halved.nd rfl (.inl rfl))) (fun _ _ _ _ _ => pts_nil) (fun _ _ _ _ _ => (pe_op op_fdiv (pv 4) pe_int))) pa_nil)) pa_nil)))))), ?_⟩
    refine ⟨.ref r, rfl, r, _, rfl, SqT.of hr0, rfl, _, _, rfl, _, _, rfl, rfl, ?_⟩
    refine ⟨.ref a, rfl, 1, rfl, -1, rfl, a, _, rfl, ha, fun r1 H1 s1 h1 => ⟨r1, rfl, ⟨_, SqT.of h1⟩, fun Z nZ => ?_⟩⟩
    rw [cut_last, ← List.map_dropLast] at h1
    have ld : qs.dropLast.length ≤ 200 := by rw [List.length_dropLast]; omega
    refine lc_tup (xs := qs.dropLast.map V.int) (fun j H' => H' Z = some (.lst (((qs.dropLast.take j).map (· / 2)).map V.int)) ∧ Same H1 H') ⟨upd_same, same_new nZ⟩ (fun j H' _ h => SqT.of (h.2 _ _ h1)) ?_ ?_
    · rintro j x H2 ex ⟨hZ, s2⟩
      rw [List.getElem?_map] at ex
      obtain ⟨y, ey, rfl⟩ := Option.map_eq_some_iff.mp ex
      refine ⟨rfl, .int y, rfl, y, 2, rfl, rfl, ⟨by decide, by decide⟩, _, hZ, by rw [List.length_map, List.length_map, List.length_take]; exact small1000 (by omega), ?_, Same.mut s2 nZ⟩
      rw [upd_same, take_snoc ey, List.map_append, List.map_append]
      rfl
    · rintro H2 ⟨hZ, s2⟩
      rw [List.length_map, List.take_length] at hZ
      refine ⟨Z, _, rfl, .inl ⟨SqL.of hZ, fun A1 n1 => ?_⟩⟩
      have e1 := same_new (o := .tup ((qs.dropLast.map (· / 2)).map V.int)) n1
      have s3 := (s1.trans s2).trans e1
      have hA1 := upd_same (H := H2) (a := A1) (o := .tup ((qs.dropLast.map (· / 2)).map V.int))
      generalize upd H2 A1 (.tup ((qs.dropLast.map (· / 2)).map V.int)) = H3 at s3 hA1
      refine ⟨.ref b, rfl, b, rfl, ⟨_, SqT.of (s3 _ _ hb)⟩, fun Y nY => ?_⟩
      refine lc_tup (xs := ns.map V.int) (fun j H' => H' Y = some (.lst (((ns.take j).map (· / 2)).map V.int)) ∧ Same H3 H') ⟨upd_same, same_new nY⟩ (fun j H' _ h => SqT.of (h.2 _ _ (s3 _ _ hb))) ?_ ?_
      · rintro j x H4 ex ⟨hY, s4⟩
        rw [List.getElem?_map] at ex
        obtain ⟨y, ey, rfl⟩ := Option.map_eq_some_iff.mp ex
        refine ⟨rfl, .int y, rfl, y, 2, rfl, rfl, ⟨by decide, by decide⟩, _, hY, by rw [List.length_map, List.length_map, List.length_take]; exact small1000 (by omega), ?_, Same.mut s4 nY⟩
        rw [upd_same, take_snoc ey, List.map_append, List.map_append]
        rfl
      · rintro H4 ⟨hY, s4⟩
        rw [List.length_map, List.take_length] at hY
        refine ⟨Y, _, rfl, .inl ⟨SqL.of hY, fun B1 n2 => ⟨by show 2 ≤ sizeLine; decide, fun r' nr => ?_⟩⟩⟩
        have e2 := same_new (o := .tup ((ns.map (· / 2)).map V.int)) n2
        have e3 := same_new (o := .tup [.ref A1, .ref B1]) nr
        exact q r' A1 B1 _ (((s3.trans s4).trans e2).trans e3) upd_same (e3 _ _ (e2 _ _ (s4 _ _ hA1))) (e3 _ _ upd_same)
theorem ok_row_of {f : Addr} {fd : FuncData} (F : Fun K "row_of" "row_of" s_row_of f fd) (M : Free mg) : FnOk P w K mg base CX0 1 f fd ["many", "walk", "far"] spRowOf := by
  refine F.ok sc_row_of (fun vs H Q E h => ?_) (fun cdv A outer s H vs Q E hr h => ?_)
  · obtain ⟨m, D, far, ws, rfl, _⟩ := h
    rfl
  · obtain ⟨m, D, far, ws, rfl, hm, hw, nd, q⟩ := h
    have hu := room1 hr
    refine ⟨_, (pss_one (ps_ret (pe_callTy call_tuple_of (by rfl) M.tuple (by decide +kernel) (pa_cons (pe_lc (own := [("place", 3)]) (g := (gName 3)) (tt := tYes) rfl sc_row_of.nd (pi_range1 (by rfl) M.range (pa_cons (pv 0) pa_nil)) (blkOk_by (N := N_row_of) (sc := defScope s_row_of) (own := [("place", 3)]) (by decide +kernel)) (fun _ _ _ _ _ => (pg_name (i := 3) sc_row_of.nd rfl (.inl rfl))) (fun _ _ _ _ _ => pts_nil) (fun _ _ _ _ _ => (pe_ifExp (pt_cmp (pc_din hu (pv 3) (pv 1))) (pe_ix (r := rIxT K) ix_tup (pe_dget hu (pv 1) (pv 3) (fun _ _ => rfl)) pe_int (fun _ _ => rfl)) (pv 2)))) pa_nil)))), ?_⟩
    refine ⟨.int m, rfl, m, rfl, by omega, by omega, fun Z nZ => ?_⟩
    rw [Int.toNat_natCast]
    refine lc_range (lo := 0) (n := m) (fun j H' => H' Z = some (.lst ((rowW ws far j).map V.int)) ∧ Same H H') ⟨upd_same, same_new nZ⟩ ?_ ?_
    · rintro j H1 hj ⟨hZ, s1⟩
      rw [show (0 : Int) + (j : Nat) = j from by omega]
      obtain ⟨kvs, h1, h2⟩ := hw.same s1
      have fin : ∀ v : Int, ((lvW ws (j : Int)).map fun k : Nat => (k : Int)).getD far = v → ∃ acc, H1 Z = some (.lst acc) ∧ acc.length < sizeLine ∧ ((upd H1 Z (.lst (acc ++ [.int v]))) Z = some (.lst ((rowW ws far (j + 1)).map V.int)) ∧ Same H (upd H1 Z (.lst (acc ++ [.int v])))) := fun v ev => by
        refine ⟨_, hZ, by unfold rowW; rw [List.length_map, List.length_map, List.length_range]; exact small1000 (by omega), ?_, Same.mut s1 nZ⟩
        rw [upd_same, ← ev]
        unfold rowW
        rw [List.range_succ, List.map_append, List.map_append]
        rfl
      refine ⟨rfl, .int j, rfl, .ref D, rfl, D, _, rfl, DGet.k (k := Sum.inl (j : Int)) h1, _, rfl, ?_⟩
      by_cases hin : (j : Int) ∈ ws.map (·.1)
      · obtain ⟨kk, f, he⟩ := we_key hin
        obtain ⟨a, ev, ha⟩ := wes_some h2 nd he
        rw [ev]
        have wl : weL ((j : Int), kk, f) = .int (kk : Nat) :: (weL ((j : Int), kk, f)).tail := by cases f <;> rfl
        rw [wl] at ha
        refine ⟨.ref D, rfl, .int j, rfl, D, _, rfl, (by rw [← ev]; exact DGet.k (k := Sum.inl (j : Int)) h1), a, _, 0, .int (kk : Nat), rfl, rfl, SqT.of ha, at0 _ _, ?_⟩
        exact fin kk (by rw [lvW_some nd he]; rfl)
      · rw [wes_none h2 hin]
        exact ⟨.int far, rfl, fin far (by rw [lvW_none hin]; rfl)⟩
    · rintro H1 ⟨hZ, s1⟩
      exact ⟨Z, _, rfl, .inl ⟨SqL.of hZ, fun r nr => q r _ (s1.trans (same_new nr)) upd_same⟩⟩
end
/-! ### shortest_odd -/
theorem rgV_rng' (n : Nat) : rgV 0 n = lf (fun i => i) n := by
  unfold rgV lf rng
  rw [List.map_map]
  show (List.range ((n : Int) - 0).toNat).map _ = _
  rw [show ((n : Int) - 0).toNat = n from by omega]
  refine List.map_congr_left fun i _ => ?_
  show V.int (0 + (i : Nat)) = V.int ((i : Nat) : Int)
  rw [Int.zero_add]
theorem room65 {k : Nat} {A : PySem.Around} (r : Room k A) : A.units + 65 < cLine := by have := r.un; omega
def dN (ts : List Tie) : Int → List Nu := nN (dbl ts) (rng (dbl ts).length)
def Wks (ts : List Tie) (p : Nat) (ws : List We) : Prop := WF (dN ts) (2 * (p : Int)) ws
def odL (ws : List We) (p : Nat) : Option Nat := lvW ws (2 * (p : Int) + 1)
theorem dN_in {n : Nat} {ts : List Tie} (ok : ∀ t ∈ ts, TieOk n t) {x : Int} {q : Nu} (h : q ∈ dN ts x) : 0 ≤ q.1 ∧ q.1 < 2 * (n : Int) := by
  obtain ⟨h1, h2⟩ := mem_nN.mp h
  have hm := mem_rng.mp h1
  have o := dbl_ok ok (tieN (dbl ts) q.2.toNat) (by
    unfold tieN
    rw [List.getD_eq_getElem?_getD, List.getElem?_eq_getElem (by omega)]
    exact List.getElem_mem _)
  rcases h2 with ⟨_, e⟩ | ⟨e, _⟩
  · rw [← e]
    exact ⟨o.2.2.1, o.2.2.2.1⟩
  · rw [← e]
    exact ⟨o.1, o.2.1⟩
def lens (W : Nat → List We) (j : Nat) : List (Int × Int) := (List.range j).filterMap fun p : Nat => (odL (W p) p).map fun k : Nat => ((k : Int), (p : Int))
theorem lens_succ (W : Nat → List We) (j : Nat) : lens W (j + 1) = lens W j ++ (match odL (W j) j with | some k => [((k : Int), (j : Int))] | none => []) := by
  unfold lens
  rw [List.range_succ, List.filterMap_append]
  cases h : odL (W j) j <;> simp [h]
theorem mem_lens {W : Nat → List We} {n : Nat} {q : Int × Int} : q ∈ lens W n ↔ ∃ p k : Nat, p < n ∧ odL (W p) p = some k ∧ q = ((k : Int), (p : Int)) := by
  unfold lens
  rw [List.mem_filterMap]
  constructor
  · rintro ⟨p, hp, e⟩
    obtain ⟨k, hk, rfl⟩ := Option.map_eq_some_iff.mp e
    exact ⟨p, k, List.mem_range.mp hp, hk, rfl⟩
  · rintro ⟨p, k, hp, hk, rfl⟩
    exact ⟨p, List.mem_range.mpr hp, by rw [hk]; rfl⟩
theorem lens_len (W : Nat → List We) (j : Nat) : (lens W j).length ≤ j := by
  unfold lens
  have := List.length_filterMap_le (fun p : Nat => (odL (W p) p).map fun k : Nat => ((k : Int), (p : Int))) (List.range j)
  rw [List.length_range] at this
  exact this
theorem WF.lev {N : Int → List Nu} {s : Int} {ws : List We} (h : WF N s ws) : ∀ (k : Nat) (y : Int) (f : Option (Int × Int)), (y, k, f) ∈ ws → ∃ l : List Int, l.length = k + 1 ∧ l.Nodup ∧ ∀ x ∈ l, ∃ j g, (x, j, g) ∈ ws ∧ j ≤ k
  | 0, y, f, hy => ⟨[y], rfl, by simp, fun x hx => ⟨0, f, by rw [List.mem_singleton.mp hx]; exact hy, Nat.le_refl _⟩⟩
  | k + 1, y, none, hy => by
    have := (h.non _ _ hy).2
    omega
  | k + 1, y, some (p, m), hy => by
    obtain ⟨j, g, hp, e, _⟩ := h.par _ _ _ _ hy
    have : j = k := by omega
    subst this
    obtain ⟨l, l1, l2, l3⟩ := WF.lev h j p g hp
    refine ⟨y :: l, by rw [List.length_cons, l1], List.nodup_cons.mpr ⟨fun hin => ?_, l2⟩, fun x hx => ?_⟩
    · obtain ⟨i, g', h1, h2⟩ := l3 y hin
      have := (we_one h.nd hy h1).1
      omega
    · rcases List.mem_cons.mp hx with z | z
      · exact ⟨j + 1, _, by rw [z]; exact hy, Nat.le_refl _⟩
      · obtain ⟨i, g', h1, h2⟩ := l3 x z
        exact ⟨i, g', h1, by omega⟩
def spShort : Sp := fun vs H Q _ => ∃ (wv : V) (n : Nat) (ts : List Tie), vs = [wv] ∧ WebAt H wv n ts ∧ WebOk n ts ∧
  (∀ (W : Nat → List We) H', (∀ p, p < n → Wks ts p (W p)) → (∀ p, p < n → odL (W p) p = none) → Same H H' → Q .non H') ∧
  ∀ (W : Nat → List We) (L s : Nat) (qs ns : List Int) (r rg ly a b : Addr) (rows : List V) H', (∀ p, p < n → Wks ts p (W p)) → s < n → odL (W s) s = some L → (∀ p k : Nat, p < n → odL (W p) p = some k → L < k ∨ (L = k ∧ s ≤ p)) → Way (dN ts) (2 * (s : Int) + 1) (2 * (s : Int)) qs ns → Exa (dN ts) (2 * (s : Int)) (2 * (s : Int) + 1) qs ns → ns.length = L → Same H H' → H' r = some (.tup [.ref rg, .ref ly]) → H' rg = some (.tup [.ref a, .ref b]) → H' a = some (.tup ((qs.dropLast.map (· / 2)).map V.int)) → H' b = some (.tup ((ns.map (· / 2)).map V.int)) → H' ly = some (.tup rows) → Paired (IntsV H') rows ((List.range n).map fun p => rowW (W p) L (2 * n)) → Q (.ref r) H'
section
variable {P : Program} {w : World} {K : PySem.W.Frag} {mg : Str → Option Value} {base : Heap}
theorem ok_shortest_odd {f : Addr} {fd : FuncData} (F : Fun K "shortest_odd" "shortest_odd" s_shortest_odd f fd) (M : Free mg) (m_enumerate : mg "enumerate" = none) (m_min : mg "min" = none) (D_doubled : Df P w K mg base 1 "doubled" ["web"] spDoubled) (D_ties_around : Df P w K mg base 1 "ties_around" ["web", "numbers"] spAround) (D_walk_from : Df P w K mg base 1 "walk_from" ["start", "around"] spWalkFrom) (D_way_to : Df P w K mg base 1 "way_to" ["end", "walk"] spWayTo) (D_halved : Df P w K mg base 1 "halved" ["way"] spHalved) (D_row_of : Df P w K mg base 1 "row_of" ["many", "walk", "far"] spRowOf) : FnOk P w K mg base CX0 2 f fd ["web"] spShort := by
  obtain ⟨f_doubled, fd_doubled, G_doubled, g_doubled, k_doubled, b_doubled⟩ := D_doubled
  obtain ⟨f_ties_around, fd_ties_around, G_ties_around, g_ties_around, k_ties_around, b_ties_around⟩ := D_ties_around
  obtain ⟨f_walk_from, fd_walk_from, G_walk_from, g_walk_from, k_walk_from, b_walk_from⟩ := D_walk_from
  obtain ⟨f_way_to, fd_way_to, G_way_to, g_way_to, k_way_to, b_way_to⟩ := D_way_to
  obtain ⟨f_halved, fd_halved, G_halved, g_halved, k_halved, b_halved⟩ := D_halved
  obtain ⟨f_row_of, fd_row_of, G_row_of, g_row_of, k_row_of, b_row_of⟩ := D_row_of
  refine F.ok sc_shortest_odd (fun vs H Q E h => ?_) (fun cdv A outer s H vs Q E hr h => ?_)
  · obtain ⟨wv, n, ts, rfl, _⟩ := h
    rfl
  · obtain ⟨wv, n, ts, rfl, hW, ok, qn, qs'⟩ := h
    have hu := room1 hr
    refine ⟨_, (pss_cons (ps_set (i := 1) sc_shortest_odd.nd rfl (.inr rfl) (pe_call G_doubled (hr.mono (by decide)) (by rfl) g_doubled k_doubled b_doubled .nil pass0 (pa_cons (pv 0) pa_nil)))
      (pss_cons (ps_set (i := 2) sc_shortest_odd.nd rfl (.inr rfl) (pe_call G_ties_around (hr.mono (by decide)) (by rfl) g_ties_around k_ties_around b_ties_around .nil pass0 (pa_cons (pv 1) (pa_cons (pe_listRg rfl (by rfl) M.list (prg_1 (by rfl) M.range (pe_callB call_len_seq (by rfl) M.len PySem.boot_len (pa_cons (pe_ix ix_tup (pv 1) pe_int (fun _ _ => rfl)) pa_nil)))) pa_nil))))
      (Evl.pss_cut (ps_setLc (i := 3) (own := [("place", 4)]) (g := (gName 4)) (tt := tYes) rfl sc_shortest_odd.nd rfl rfl (sw_true rfl rfl rfl (by decide +kernel)) (pi_range1 (by rfl) M.range (pa_cons (pe_ix ix_tup (pv 0) pe_int (fun _ _ => rfl)) pa_nil)) (blkOk_by (N := N_shortest_odd) (sc := defScope s_shortest_odd) (own := [("place", 4)]) (by decide +kernel)) (fun _ _ _ _ _ => (pg_name (i := 4) sc_shortest_odd.nd rfl (.inl rfl))) (fun _ _ _ _ _ => pts_nil) (fun _ _ _ _ _ => (pe_call G_walk_from (hr.mono (by decide)) (by rfl) g_walk_from k_walk_from b_walk_from .nil pass0 (pa_cons (pe_op op_mul pe_int (pv 4)) (pa_cons (pv 2) pa_nil)))))
      (Evl.pss_cut (ps_setLc (i := 5) (own := [("place", 4), ("walk", 6)]) (g := (gTup K 2 (gCons (gName 4) (gCons (gName 6) gNil)))) rfl sc_shortest_odd.nd rfl rfl (sw_true rfl rfl rfl (by decide +kernel)) (pi_enum (by rfl) m_enumerate (pa_cons (pv 3) pa_nil)) (blkOk_by (N := N_shortest_odd) (sc := defScope s_shortest_odd) (own := [("place", 4), ("walk", 6)]) (by decide +kernel)) (fun _ _ _ _ _ => (pg_tup rfl (pgs_cons (pg_name (i := 4) sc_shortest_odd.nd rfl (.inl rfl)) (pgs_cons (pg_name (i := 6) sc_shortest_odd.nd rfl (.inl rfl)) pgs_nil)))) (fun _ _ _ _ _ => (pts_one (pt_cmp (pc_din hu (pe_op op_add (pe_op op_mul pe_int (pv 4)) pe_int) (pv 6))))) (fun _ _ _ _ _ => (pe_tup (pa_cons (pe_ix (r := rIxT K) ix_tup (pe_dget hu (pv 6) (pe_op op_add (pe_op op_mul pe_int (pv 4)) pe_int) (fun _ _ => rfl)) pe_int (fun _ _ => rfl)) (pa_cons (pv 4) pa_nil)))))
      (pss_cons (ps_if (pt_not (pt_truth (pv 5) (by intro _; rfl)))
        (pss_one (ps_ret pe_non))
        pss_nil)
      (pss_cons (ps_asg (pe_callB (cr_minP rfl (room65 hr)) (by rfl) m_min (by decide +kernel) (pa_cons (pv 5) pa_nil)) (pg_tup rfl (pgs_cons (pg_name (i := 7) sc_shortest_odd.nd rfl (.inr rfl)) (pgs_cons (pg_name (i := 8) sc_shortest_odd.nd rfl (.inl rfl)) pgs_nil))))
      (pss_cons (ps_set (i := 9) sc_shortest_odd.nd rfl (.inl rfl) (pe_call G_halved (hr.mono (by decide)) (by rfl) g_halved k_halved b_halved .nil pass0 (pa_cons (pe_call G_way_to (hr.mono (by decide)) (by rfl) g_way_to k_way_to b_way_to .nil pass0 (pa_cons (pe_op op_add (pe_op op_mul pe_int (pv 8)) pe_int) (pa_cons (pe_ix ix_list (pv 3) (pv 8) (fun _ _ => rfl)) pa_nil))) pa_nil)))
      (pss_one (ps_ret (pe_tup (pa_cons (pv 9) (pa_cons (pe_callTy call_tuple_of (by rfl) M.tuple (by decide +kernel) (pa_cons (pe_lc (own := [("walk", 6)]) (g := (gName 6)) (tt := tYes) rfl sc_shortest_odd.nd (pi_list (pv 3)) (blkOk_by (N := N_shortest_odd) (sc := defScope s_shortest_odd) (own := [("walk", 6)]) (by decide +kernel)) (fun _ _ _ _ _ => (pg_name (i := 6) sc_shortest_odd.nd rfl (.inl rfl))) (fun _ _ _ _ _ => pts_nil) (fun _ _ _ _ _ => (pe_call G_row_of (hr.mono (by decide)) (by rfl) g_row_of k_row_of b_row_of .nil pass0 (pa_cons (pe_ix (r := rIxT K) ix_tup (pv 1) pe_int (fun _ _ => rfl)) (pa_cons (pv 6) (pa_cons (pv 7) pa_nil)))))) pa_nil)) pa_nil)))))))))))), ?_⟩
    obtain ⟨wa, wb, us, ewv, hwa, hwb, hp⟩ := id hW
    have n1 : 1 ≤ n := by have := ok.lo; omega
    have n40 : n ≤ 40 := by have := ok.hi; omega
    have few := ok.few
    refine ⟨wv, rfl, wv, n, ts, rfl, hW, ok, fun dv H1 s1 hD => ?_⟩
    obtain ⟨da, db, dus, edv, hda, hdb, hdp⟩ := id hD
    have ld : dus.length = (dbl ts).length := Paired.length hdp
    have ldd := dbl_len ts
    refine ⟨dv, rfl, dv, rfl, da, _, 1, .ref db, by rw [edv], rfl, SqT.of hda, rfl, db, dus, rfl, .inr (SqT.of hdb), dus.length, rfl, RgOk.of_le (by decide) (by omega) (by decide) (by omega), fun Lr nLr => ?_⟩
    rw [rgV_rng']
    have eLr := same_new (o := .lst (lf (fun i => i) dus.length)) nLr
    refine ⟨dv, Lr, 2 * (n : Int), dbl ts, rng (dbl ts).length, rfl, hD.tk (Same.tk eLr), by omega, by rw [← ld]; exact upd_same, by rw [rng_length]; omega, fun m hm => mem_rng.mp hm, fun u H2 s2 hU => ?_⟩
    have s12 := (s1.trans eLr).trans s2
    have hD2 := hD.tk ((Same.tk eLr).trans (Same.tk s2))
    have hU : AroAt H2 u (dN ts) := hU
    have sD : Same H1 H2 := eLr.trans s2
    have hda2 := sD _ _ hda
    clear eLr
    -- the walks
    refine ⟨fun σ' H' => ∃ (y4 : Option V) (Lw : Addr) (As : List Addr) (W : Nat → List We), σ' = [some wv, some dv, some u, some (.ref Lw), y4, none, none, none, none, none] ∧ H' Lw = some (.lst (As.map V.ref)) ∧ As.length = n ∧ (∀ (p : Nat) a, As[p]? = some a → WalkAt H' a (W p) ∧ Wks ts p (W p) ∧ (W p).length ≤ 80) ∧ Same H2 H', ?_, ?_⟩
    · refine ⟨wv, rfl, wa, _, 0, .int n, by rw [ewv], rfl, SqT.of (s12 _ _ hwa), rfl, n, rfl, by omega, by omega, fun Z nZ => ?_⟩
      rw [Int.toNat_natCast]
      refine lc_range (lo := 0) (n := n) (fun j H' => ∃ (As : List Addr) (W : Nat → List We), H' Z = some (.lst (As.map V.ref)) ∧ As.length = j ∧ (∀ (p : Nat) a, As[p]? = some a → WalkAt H' a (W p) ∧ Wks ts p (W p) ∧ (W p).length ≤ 80) ∧ Same H2 H') ⟨[], fun _ => [], upd_same, rfl, fun p a e => (by simp at e), same_new nZ⟩ ?_ ?_
      · rintro j H3 hj ⟨As, W, hZ, la, each, s3⟩
        rw [show (0 : Int) + (j : Nat) = j from by omega]
        obtain ⟨U, Us, eu, hUs⟩ := id hU
        refine ⟨rfl, .int j, rfl, 2, j, rfl, rfl, .inl ⟨by decide, by decide⟩, u, rfl, u, 2 * n, 2 * (j : Int), dN ts, rfl, ⟨U, Us, eu, hUs.same s3⟩, by omega, by omega, by omega, fun x q hq => ?_, fun D ws H4 s4 hw wf lw => ?_⟩
        · have := dN_in ok.ok hq
          omega
        · have hZ4 := s4 _ _ hZ
          refine ⟨_, hZ4, by rw [List.length_map]; exact small1000 (by omega), As ++ [D], fun p => if p = j then ws else W p, by rw [upd_same, List.map_append]; rfl, by simp [la], fun p a ea => ?_, Same.mut (s3.trans s4) nZ⟩
          have up : ∀ {d : Addr} {vs : List We}, WalkAt H4 d vs → WalkAt (upd H4 Z (.lst (As.map V.ref ++ [.ref D]))) d vs := fun ⟨kvs, h1, h2⟩ => ⟨kvs, by rw [upd_ne (ne_of h1 hZ4 (by intro z; cases z))]; exact h1, wes_tk (tk_lst hZ4) h2⟩
          show WalkAt _ _ (if p = j then ws else W p) ∧ Wks ts p (if p = j then ws else W p) ∧ (if p = j then ws else W p).length ≤ 80
          by_cases hpj : p < As.length
          · rw [List.getElem?_append_left hpj] at ea
            obtain ⟨e1, e2, e3⟩ := each p a ea
            rw [if_neg (by omega)]
            exact ⟨up (e1.same s4), e2, e3⟩
          · have : p = j := by
              have := (List.getElem?_eq_some_iff.mp ea).1
              rw [List.length_append] at this
              simp at this
              omega
            subst this
            rw [← la, List.getElem?_append_right (Nat.le_refl _)] at ea
            have : D = a := by simpa using ea
            subst this
            rw [if_pos rfl]
            exact ⟨up hw, wf, by omega⟩
      · rintro H3 ⟨As, W, hZ, la, each, s3⟩
        exact ⟨_, Z, As, W, rfl, hZ, la, each, s3⟩
    rintro σ' H3 ⟨y4, Lw, As, W, rfl, hLw, la, each, s3⟩
    have wks : ∀ p, p < n → Wks ts p (W p) := fun p hp => (each p _ (List.getElem?_eq_getElem (by omega))).2.1
    -- the lengths
    refine ⟨fun σ' H' => ∃ (y4 y6 : Option V) (Ll : Addr) (xs : List V), σ' = [some wv, some dv, some u, some (.ref Lw), y4, some (.ref Ll), y6, none, none, none] ∧ H' Ll = some (.lst xs) ∧ Paired (PV2 H') xs (lens W n) ∧ Same H3 H', ?_, ?_⟩
    · refine ⟨.ref Lw, rfl, Lw, _, rfl, SqL.of hLw, fun Z nZ => ?_⟩
      refine lc_it (walk_enum (xs := As.map V.ref)) (fun i H' => ∃ xs : List V, H' Z = some (.lst xs) ∧ Paired (PV2 H') xs (lens W i) ∧ Same H3 H') ⟨[], upd_same, .nil, same_new nZ⟩ (fun i H' _ h => by
        obtain ⟨_, _, _, s⟩ := h
        exact SqL.of (s _ _ hLw)) ?_ ?_
      · rintro i x H4 H5 hi ⟨xs, hZ, hpx, s4⟩ ⟨Tp, x1, y1, rfl, nTp, rfl, gx, gy⟩
        obtain rfl : V.int (i : Nat) = x1 := Option.some.inj gx
        have gy : (As.map V.ref)[i]? = some y1 := gy
        rw [List.getElem?_map] at gy
        obtain ⟨D, eD, rfl⟩ := Option.map_eq_some_iff.mp gy
        have eT := same_new (o := .tup [.int (i : Nat), .ref D]) nTp
        obtain ⟨hw, wf, lw⟩ := each i D eD
        have hin : i < n := by have := (List.getElem?_eq_some_iff.mp eD).1; omega
        obtain ⟨kvs, h1, h2⟩ := hw.same (s4.trans eT)
        have lx : xs.length ≤ 40 := by
          have := Paired.length hpx
          have := lens_len W i
          omega
        have hZ5 := eT _ _ hZ
        refine ⟨Tp, _, rfl, SqT.of upd_same, rfl, _, _, rfl, _, _, rfl, rfl, rfl, ?_⟩
        refine ⟨.int (i : Nat), rfl, 2, i, rfl, rfl, .inl ⟨by decide, by decide⟩, _, 1, rfl, rfl, .ref D, rfl, D, _, rfl, DGet.k (k := Sum.inl (2 * (i : Int) + 1)) h1, _, rfl, ?_⟩
        by_cases hin2 : (2 * (i : Int) + 1) ∈ (W i).map (·.1)
        · obtain ⟨kk, f, he⟩ := we_key hin2
          obtain ⟨a, ev, ha⟩ := wes_some h2 wf.nd he
          rw [ev]
          have wl : weL (2 * (i : Int) + 1, kk, f) = .int (kk : Nat) :: (weL (2 * (i : Int) + 1, kk, f)).tail := by cases f <;> rfl
          rw [wl] at ha
          have eo : odL (W i) i = some kk := lvW_some wf.nd he
          refine ⟨.ref D, rfl, .int (i : Nat), rfl, 2, i, rfl, rfl, .inl ⟨by decide, by decide⟩, _, 1, rfl, rfl, D, _, rfl, (by rw [← ev]; exact DGet.k (k := Sum.inl (2 * (i : Int) + 1)) h1), a, _, 0, .int (kk : Nat), rfl, rfl, SqT.of ha, at0 _ _, .int (i : Nat), rfl, by show 2 ≤ sizeLine; decide, fun c nc => ?_⟩
          have ec := same_new (o := .tup [.int (kk : Nat), .int (i : Nat)]) nc
          refine ⟨xs, ec _ _ hZ5, small1000 (by omega), xs ++ [.ref c], upd_same, ?_, Same.mut ((s4.trans eT).trans ec) nZ⟩
          have tk := tk_lst (ys := xs ++ [.ref c]) (ec _ _ hZ5)
          rw [lens_succ, eo]
          refine Paired.snoc (Paired.mono (fun _ _ x => ?_) hpx) ⟨c, rfl, tk _ _ upd_same⟩
          obtain ⟨b, e, hb⟩ := x
          exact ⟨b, e, tk _ _ (ec _ _ (eT _ _ hb))⟩
        · rw [wes_none h2 hin2]
          have eo : odL (W i) i = none := lvW_none hin2
          refine ⟨xs, hZ5, ?_, s4.trans eT⟩
          rw [lens_succ, eo]
          simp only [List.append_nil]
          refine Paired.mono (fun _ _ x => ?_) hpx
          obtain ⟨b, e, hb⟩ := x
          exact ⟨b, e, eT _ _ hb⟩
      · rintro H4 ⟨xs, hZ, hpx, s4⟩
        rw [List.length_map, la] at hpx
        exact ⟨_, _, Z, xs, rfl, hZ, hpx, s4⟩
    rintro σ' H4 ⟨y4', y6, Ll, xs, rfl, hLl, hpx, s4⟩
    have sH4 := ((s12.trans s3).trans s4)
    refine ⟨.ref Ll, rfl, _, .inl ⟨_, SqL.of hLl, rfl⟩, ?_⟩
    by_cases hx : xs = []
    · subst hx
      refine qn W H4 wks (fun p hp => ?_) sH4
      cases hpe : lens W n with
      | nil =>
        cases ho : odL (W p) p with
        | none => rfl
        | some k =>
          have : ((k : Int), (p : Int)) ∈ lens W n := mem_lens.mpr ⟨p, k, hp, ho, rfl⟩
          rw [hpe] at this
          cases this
      | cons a l =>
        rw [hpe] at hpx
        cases hpx
    rw [show (!xs.isEmpty) = true from by cases xs; exact absurd rfl hx; rfl]
    have hne : lens W n ≠ [] := fun z => hx (List.length_eq_zero_iff.mp (by rw [Paired.length hpx, z]; rfl))
    refine ⟨.ref Ll, rfl, Ll, xs, lens W n, rfl, SqL.of hLl, hpx, hne, fun x p hxp hpm hmin => ?_⟩
    obtain ⟨s, L, hs, ho, rfl⟩ := mem_lens.mp hpm
    obtain ⟨c, rfl, hc⟩ := hxp
    refine ⟨c, _, rfl, SqT.of hc, rfl, _, _, rfl, _, _, rfl, rfl, ?_⟩
    have hLw4 := s4 _ _ hLw
    obtain ⟨hw, wf, lw⟩ := each s _ (List.getElem?_eq_getElem (show s < As.length by omega))
    have hw4 := hw.same s4
    obtain ⟨f, he⟩ : ∃ f, (2 * (s : Int) + 1, L, f) ∈ W s := by
      by_cases hin : (2 * (s : Int) + 1) ∈ (W s).map (·.1)
      · obtain ⟨kk, f, he⟩ := we_key hin
        have := lvW_some wf.nd he
        unfold odL at ho
        rw [ho] at this
        cases this
        exact ⟨f, he⟩
      · have := lvW_none hin
        unfold odL at ho
        rw [ho] at this
        cases this
    have lowL : L ≤ 100 := by
      obtain ⟨l, l1, l2, l3⟩ := WF.lev wf L _ f he
      have := pigeon (2 * n) l l2 fun x hx => by
        obtain ⟨j, g, h1, _⟩ := l3 x hx
        have r := WF.rg (n := 2 * (n : Int)) wf ⟨by omega, by omega⟩ (fun x q hq => dN_in ok.ok hq) (List.mem_map.mpr ⟨_, h1, rfl⟩)
        exact ⟨r.1, by have := r.2; push_cast; exact this⟩
      omega
    refine ⟨.int s, rfl, 2, s, rfl, rfl, .inl ⟨by decide, by decide⟩, _, 1, rfl, rfl, .ref Lw, rfl, .int s, rfl, Lw, _, s, _, rfl, rfl, SqL.of hLw4, atI_nat (by rw [List.getElem?_map, List.getElem?_eq_getElem (show s < As.length by omega)]; rfl), 2 * (s : Int) + 1, 2 * (s : Int), _, W s, dN ts, L, f, rfl, hw4, wf, he, (by omega), fun r a b qs ns H5 s5 hr5 ha5 hb5 way exa ln => ?_⟩
    have lq := way.len
    refine ⟨r, a, b, qs, ns, rfl, hr5, ha5, hb5, by omega, by omega, fun r' a' b' H6 s6 hr6 ha6 hb6 => ?_⟩
    -- the rows
    have s36 := (s4.trans s5).trans s6
    have hLw6 := s36 _ _ hLw
    refine ⟨.ref r', rfl, .ref Lw, rfl, Lw, rfl, ⟨_, SqL.of hLw6⟩, fun Z nZ => ?_⟩
    refine lc_list (xs := As.map V.ref) (fun j H' => ∃ rows, H' Z = some (.lst rows) ∧ Paired (IntsV H') rows ((List.range j).map fun p => rowW (W p) L (2 * n)) ∧ Same H6 H') ⟨[], upd_same, .nil, same_new nZ⟩ (fun j H' _ h => by
      obtain ⟨_, _, _, s⟩ := h
      exact SqL.of (s _ _ hLw6)) ?_ ?_
    · rintro j x H7 ex ⟨rows, hZ, hpr, s7⟩
      rw [List.getElem?_map] at ex
      obtain ⟨D, eD, rfl⟩ := Option.map_eq_some_iff.mp ex
      obtain ⟨hwj, wfj, lwj⟩ := each j D eD
      have lr : rows.length = j := by rw [Paired.length hpr, List.length_map, List.length_range]
      have hjn : j < n := by have := (List.getElem?_eq_some_iff.mp eD).1; omega
      refine ⟨rfl, dv, rfl, da, _, 0, .int (2 * (n : Int)), by rw [edv], rfl, SqT.of (((s3.trans s36).trans s7) _ _ hda2), rfl, .ref D, rfl, .int (L : Nat), rfl, 2 * n, D, (L : Nat), W j, by show [V.int (2 * (n : Int)), V.ref D, V.int (L : Nat)] = [V.int ((2 * n : Nat) : Int), V.ref D, V.int (L : Nat)]; rw [show ((2 * n : Nat) : Int) = 2 * (n : Int) from by omega], by omega, hwj.same (s36.trans s7), wfj.nd, fun r2 H8 s8 h8 => ?_⟩
      have hZ8 := s8 _ _ hZ
      refine ⟨rows, hZ8, small1000 (by omega), rows ++ [.ref r2], upd_same, ?_, Same.mut (s7.trans s8) nZ⟩
      have tk := tk_lst (ys := rows ++ [.ref r2]) hZ8
      rw [List.range_succ, List.map_append]
      exact Paired.snoc (Paired.mono (fun _ _ x => (x.tk (Same.tk s8)).tk tk) hpr) ⟨r2, rfl, tk _ _ h8⟩
    · rintro H7 ⟨rows, hZ, hpr, s7⟩
      rw [List.length_map, la] at hpr
      refine ⟨Z, _, rfl, .inl ⟨SqL.of hZ, fun ly nly => ⟨by show 2 ≤ sizeLine; decide, fun rr nrr => ?_⟩⟩⟩
      have e1 := same_new (o := .tup rows) nly
      have e2 := same_new (o := .tup [.ref r', .ref ly]) nrr
      have s78 := (s7.trans e1).trans e2
      refine qs' W L s qs ns rr r' ly a' b' rows _ wks hs ho (fun p k hp hk => ?_) way exa ln (((sH4.trans s5).trans s6).trans s78) upd_same (s78 _ _ hr6) (s78 _ _ ha6) (s78 _ _ hb6) (e2 _ _ upd_same) (Paired.mono (fun _ _ x => x.tk (Same.tk (e1.trans e2))) hpr)
      have := hmin _ (mem_lens.mpr ⟨p, k, hp, hk, rfl⟩)
      unfold lexle at this
      simp only at this
      omega
end
/-! ### walks by their length (mathematics) -/
theorem Way.head {N : Int → List Nu} {e s : Int} {qs ns : List Int} (h : Way N e s qs ns) : qs[0]? = some s := by cases h <;> rfl
theorem Way.last {N : Int → List Nu} {e s : Int} {qs ns : List Int} (h : Way N e s qs ns) : qs[ns.length]? = some e := by
  induction h with
  | one => rfl
  | cons _ _ _ ih => simpa using ih
theorem Way.each {N : Int → List Nu} {e s : Int} {qs ns : List Int} (h : Way N e s qs ns) : ∀ k : Nat, k < ns.length → ∃ x y m, qs[k]? = some x ∧ qs[k + 1]? = some y ∧ ns[k]? = some m ∧ (y, m) ∈ N x := by
  induction h with
  | one => exact fun k hk => absurd hk (by simp)
  | cons w hm _ ih =>
    intro k hk
    cases k with
    | zero => exact ⟨_, _, _, rfl, by simpa using w.head, rfl, hm⟩
    | succ k =>
      obtain ⟨x, y, m, h1, h2, h3, h4⟩ := ih k (by simpa using hk)
      exact ⟨x, y, m, by simpa using h1, by simpa using h2, by simpa using h3, h4⟩
inductive RPk (ts : List Tie) (x : Int) : Nat → Int → Bool → Prop
  | nil : RPk ts x 0 x false
  | step {k : Nat} {y z : Int} {b f : Bool} : RPk ts x k y b → Adj ts y z f → RPk ts x (k + 1) z (b ^^ f)
def oB (x : Int) : Bool := decide (x % 2 = 1)
theorem bI_xor (b f : Bool) : bI (b ^^ f) = (bI b + bI f) % 2 := by cases b <;> cases f <;> rfl
theorem oB_bI (y : Int) (b : Bool) : oB (2 * y + bI b) = b := by
  have := bI01 b
  unfold oB
  cases b
  · show decide ((2 * y + 0) % 2 = 1) = false
    exact decide_eq_false (by omega)
  · show decide ((2 * y + 1) % 2 = 1) = true
    exact decide_eq_true (by omega)
theorem oB_add {x z : Int} {f : Bool} (h : z % 2 = (x % 2 + bI f) % 2) : oB z = (oB x ^^ f) := by
  unfold oB
  have hx : x % 2 = 0 ∨ x % 2 = 1 := by omega
  rw [h]
  rcases hx with e | e <;> rw [e] <;> cases f <;> rfl
/-- a step in the doubled web -/
theorem dN_to {ts : List Tie} {x z m : Int} (h : (z, m) ∈ dN ts x) : ∃ (i : Nat) (t : Tie), ts[i]? = some t ∧ m / 2 = (i : Int) ∧ 0 ≤ m ∧ ((t.one = x / 2 ∧ t.other = z / 2) ∨ (t.one = z / 2 ∧ t.other = x / 2)) ∧ z % 2 = (x % 2 + bI t.foe) % 2 := by
  obtain ⟨h1, h2⟩ := mem_nN.mp h
  obtain ⟨m0, m1⟩ := mem_rng.mp h1
  simp only at h2 m0 m1
  rw [dbl_len] at m1
  have hi : (m / 2).toNat < ts.length := by omega
  obtain ⟨g1, g2⟩ := dbl_get ts (m / 2).toNat
  rw [List.getElem?_eq_getElem hi] at g1 g2
  have b01 := bI01 (ts[(m / 2).toNat]).foe
  have hm : m % 2 = 0 ∨ m % 2 = 1 := by omega
  rcases hm with hm | hm
  · have e : m.toNat = 2 * (m / 2).toNat := by omega
    rw [e, tieN_of g1] at h2
    refine ⟨(m / 2).toNat, _, List.getElem?_eq_getElem hi, by omega, m0, ?_, ?_⟩
    · rcases h2 with ⟨a, b⟩ | ⟨a, b⟩
      · left
        have a : 2 * (ts[(m / 2).toNat]).one = x := a
        have b : 2 * (ts[(m / 2).toNat]).other + bI (ts[(m / 2).toNat]).foe = z := b
        omega
      · right
        have a : 2 * (ts[(m / 2).toNat]).one = z := a
        have b : 2 * (ts[(m / 2).toNat]).other + bI (ts[(m / 2).toNat]).foe = x := b
        omega
    · rcases h2 with ⟨a, b⟩ | ⟨a, b⟩
      · have a : 2 * (ts[(m / 2).toNat]).one = x := a
        have b : 2 * (ts[(m / 2).toNat]).other + bI (ts[(m / 2).toNat]).foe = z := b
        omega
      · have a : 2 * (ts[(m / 2).toNat]).one = z := a
        have b : 2 * (ts[(m / 2).toNat]).other + bI (ts[(m / 2).toNat]).foe = x := b
        omega
  · have e : m.toNat = 2 * (m / 2).toNat + 1 := by omega
    rw [e, tieN_of g2] at h2
    refine ⟨(m / 2).toNat, _, List.getElem?_eq_getElem hi, by omega, m0, ?_, ?_⟩
    · rcases h2 with ⟨a, b⟩ | ⟨a, b⟩
      · left
        have a : 2 * (ts[(m / 2).toNat]).one + 1 = x := a
        have b : 2 * (ts[(m / 2).toNat]).other + 1 - bI (ts[(m / 2).toNat]).foe = z := b
        omega
      · right
        have a : 2 * (ts[(m / 2).toNat]).one + 1 = z := a
        have b : 2 * (ts[(m / 2).toNat]).other + 1 - bI (ts[(m / 2).toNat]).foe = x := b
        omega
    · rcases h2 with ⟨a, b⟩ | ⟨a, b⟩
      · have a : 2 * (ts[(m / 2).toNat]).one + 1 = x := a
        have b : 2 * (ts[(m / 2).toNat]).other + 1 - bI (ts[(m / 2).toNat]).foe = z := b
        omega
      · have a : 2 * (ts[(m / 2).toNat]).one + 1 = z := a
        have b : 2 * (ts[(m / 2).toNat]).other + 1 - bI (ts[(m / 2).toNat]).foe = x := b
        omega
theorem dN_adj {ts : List Tie} {x z m : Int} (h : (z, m) ∈ dN ts x) : ∃ f, Adj ts (x / 2) (z / 2) f ∧ z % 2 = (x % 2 + bI f) % 2 := by
  obtain ⟨i, t, et, _, _, h1, h2⟩ := dN_to h
  exact ⟨t.foe, ⟨t, List.mem_of_getElem? et, rfl, h1⟩, h2⟩
theorem dN_of {ts : List Tie} {y z : Int} {f b : Bool} (h : Adj ts y z f) : ∃ m, (2 * z + bI (b ^^ f), m) ∈ dN ts (2 * y + bI b) := by
  obtain ⟨t, ht, rfl, q⟩ := h
  obtain ⟨i, hi⟩ := List.getElem?_of_mem ht
  have hl := (List.getElem?_eq_some_iff.mp hi).1
  obtain ⟨g1, g2⟩ := dbl_get ts i
  rw [hi] at g1 g2
  have dl := dbl_len ts
  have mk : ∀ (m : Nat) (T : Tie), (dbl ts)[m]? = some T → Jn T (2 * y + bI b) (2 * z + bI (b ^^ t.foe)) → ∃ m, (2 * z + bI (b ^^ t.foe), m) ∈ dN ts (2 * y + bI b) := fun m T hm hj => by
    have := (List.getElem?_eq_some_iff.mp hm).1
    refine ⟨(m : Int), mem_nN.mpr ⟨mem_rng.mpr ⟨by omega, by show (m : Int) < _; omega⟩, ?_⟩⟩
    show Jn (tieN (dbl ts) ((m : Nat) : Int).toNat) _ _
    rw [Int.toNat_natCast, tieN_of hm]
    exact hj
  rw [bI_xor] at mk ⊢
  have b01 := bI01 b
  have f01 := bI01 t.foe
  rcases q with ⟨q1, q2⟩ | ⟨q1, q2⟩
  · rcases b01 with e | e
    · refine mk (2 * i) _ g1 (.inl ⟨?_, ?_⟩)
      · show 2 * t.one = _; omega
      · show 2 * t.other + bI t.foe = _; omega
    · refine mk (2 * i + 1) _ g2 (.inl ⟨?_, ?_⟩)
      · show 2 * t.one + 1 = _; omega
      · show 2 * t.other + 1 - bI t.foe = _; omega
  · have hs : (bI b + bI t.foe) % 2 = 0 ∨ (bI b + bI t.foe) % 2 = 1 := by omega
    rcases hs with e | e
    · refine mk (2 * i) _ g1 (.inr ⟨?_, ?_⟩)
      · show 2 * t.one = _; omega
      · show 2 * t.other + bI t.foe = _; omega
    · refine mk (2 * i + 1) _ g2 (.inr ⟨?_, ?_⟩)
      · show 2 * t.one + 1 = _; omega
      · show 2 * t.other + 1 - bI t.foe = _; omega
theorem wks_walk {ts : List Tie} {p : Nat} {ws : List We} (h : Wks ts p ws) : ∀ (k : Nat) (x : Int) (f : Option (Int × Int)), (x, k, f) ∈ ws → RPk ts p k (x / 2) (oB x)
  | 0, x, none, hx => by
    obtain ⟨e, _⟩ := h.non _ _ hx
    have e1 : x / 2 = p := by omega
    have e2 : oB x = false := decide_eq_false (by omega)
    rw [e1, e2]
    exact .nil
  | 0, x, some (q, m), hx => by
    obtain ⟨j, g, _, e, _⟩ := h.par _ _ _ _ hx
    omega
  | k + 1, x, none, hx => by
    have := (h.non _ _ hx).2
    omega
  | k + 1, x, some (q, m), hx => by
    obtain ⟨j, g, hp, e, hm⟩ := h.par _ _ _ _ hx
    have : j = k := by omega
    subst this
    have r := wks_walk h j q g hp
    obtain ⟨f, ad, pr⟩ := dN_adj hm
    rw [oB_add pr]
    exact .step r ad
theorem walk_wks {ts : List Tie} {p : Nat} {ws : List We} (h : Wks ts p ws) {k : Nat} {y : Int} {b : Bool} (r : RPk ts p k y b) : ∃ j f, (2 * y + bI b, j, f) ∈ ws ∧ j ≤ k := by
  induction r with
  | nil => exact ⟨0, none, by show (2 * (p : Int) + 0, 0, none) ∈ ws; rw [Int.add_zero]; exact h.root, Nat.le_refl _⟩
  | step r ad ih =>
    obtain ⟨j, f, he, hj⟩ := ih
    obtain ⟨m, hm⟩ := dN_of ad
    obtain ⟨k', f', h1, h2⟩ := h.cl _ he _ hm
    exact ⟨k', f', h1, by simp only at h2; omega⟩
theorem odL_some {ts : List Tie} {p L : Nat} {ws : List We} (h : Wks ts p ws) : odL ws p = some L ↔ RPk ts p L p true ∧ ∀ k, RPk ts p k p true → L ≤ k := by
  have key : ∀ k f, (2 * (p : Int) + 1, k, f) ∈ ws → RPk ts p k p true := fun k f he => by
    have r := wks_walk h k _ f he
    rw [show (2 * (p : Int) + 1) / 2 = p from by omega, show oB (2 * (p : Int) + 1) = true from oB_bI p true] at r
    exact r
  constructor
  · intro e
    by_cases hin : (2 * (p : Int) + 1) ∈ ws.map (·.1)
    · obtain ⟨k, f, he⟩ := we_key hin
      have : odL ws p = some k := lvW_some h.nd he
      rw [e] at this
      cases this
      refine ⟨key _ _ he, fun k r => ?_⟩
      obtain ⟨j, g, h1, h2⟩ := walk_wks h r
      have := (we_one h.nd he h1).1
      omega
    · have : odL ws p = none := lvW_none hin
      rw [e] at this
      cases this
  · rintro ⟨r, least⟩
    obtain ⟨j, g, h1, h2⟩ := walk_wks h r
    have e : odL ws p = some j := lvW_some h.nd h1
    have := least j (key _ _ h1)
    rw [e]
    congr 1
    omega
theorem odL_none {ts : List Tie} {p : Nat} {ws : List We} (h : Wks ts p ws) : odL ws p = none ↔ ∀ k, ¬ RPk ts p k p true := by
  constructor
  · intro e k r
    obtain ⟨j, g, h1, _⟩ := walk_wks h r
    have : odL ws p = some j := lvW_some h.nd h1
    rw [e] at this
    cases this
  · intro no
    cases e : odL ws p with
    | none => rfl
    | some L => exact absurd ((odL_some h).mp e).1 (no L)
/-! ### the law's own distances -/
/-! ### rows and layers -/
def gI (row : List Int) (i : Int) : Int := row.getD i.toNat 0
def nearZ (a b : Int) : Bool := decide (a - b ≤ 1) && decide (b - a ≤ 1)
def nearI (row : List Int) (t : Tie) : Bool := nearZ (gI row (2 * t.one)) (gI row (2 * t.other + bI t.foe)) && nearZ (gI row (2 * t.one + 1)) (gI row (2 * t.other + 1 - bI t.foe))
structure RowG (ts : List Tie) (n : Nat) (s : Int) (row : List Int) : Prop where
  len : row.length = 2 * n
  pos : ∀ x ∈ row, 0 ≤ x
  zero : gI row (2 * s) = 0
  near : ∀ t ∈ ts, nearI row t = true
def rowL (f : Int → Int → Int) : Nat → List Int
  | 0 => []
  | n + 1 => rowL f n ++ [f n 0, f n 1]
theorem rowL_len (f : Int → Int → Int) : ∀ n, (rowL f n).length = 2 * n
  | 0 => rfl
  | n + 1 => by
    show (rowL f n ++ [f n 0, f n 1]).length = _
    rw [List.length_append, rowL_len f n]
    show 2 * n + 2 = _
    omega
theorem rowL_get (f : Int → Int → Int) {x o : Int} (h0 : 0 ≤ x) (ho : o = 0 ∨ o = 1) : ∀ {n : Nat}, x < n → gI (rowL f n) (2 * x + o) = f x o
  | 0, h => by omega
  | n + 1, h => by
    show (rowL f n ++ [f n 0, f n 1]).getD (2 * x + o).toNat 0 = _
    rw [List.getD_eq_getElem?_getD]
    by_cases e : x < n
    · rw [List.getElem?_append_left (by rw [rowL_len]; omega)]
      have := rowL_get f h0 ho e
      unfold gI at this
      rw [List.getD_eq_getElem?_getD] at this
      exact this
    · have e : x = n := by omega
      subst e
      rw [List.getElem?_append_right (by rw [rowL_len]; omega), rowL_len]
      rcases ho with rfl | rfl
      · rw [show ((2 * ((n : Nat) : Int) + 0).toNat - 2 * n) = 0 from by omega]
        rfl
      · rw [show ((2 * ((n : Nat) : Int) + 1).toNat - 2 * n) = 1 from by omega]
        rfl
theorem rowL_mem (f : Int → Int → Int) {v : Int} : ∀ {n : Nat}, v ∈ rowL f n → ∃ x o, v = f x o
  | n + 1, h => by
    rcases List.mem_append.mp h with z | z
    · exact rowL_mem f z
    · simp only [List.mem_cons, List.not_mem_nil, or_false] at z
      rcases z with z | z
      · exact ⟨_, _, z⟩
      · exact ⟨_, _, z⟩
theorem num_near {u v cap : Int} {half : Bool} (h1 : u ≤ v + 1) (h2 : v ≤ u + 1) : nearZ (let w := if half = true then u / 2 else u; if cap < w then cap else w) (let w := if half = true then v / 2 else v; if cap < w then cap else w) = true := by
  unfold nearZ
  simp only [Bool.and_eq_true, decide_eq_true_eq]
  cases half
  · simp only [Bool.false_eq_true, if_false]
    constructor <;> split <;> split <;> omega
  · simp only [if_true]
    constructor <;> split <;> split <;> omega
def LayAt (H : Hp) (v : V) (n : Nat) (ts : List Tie) (rs : List (List Int)) : Prop := ∃ a vs, v = .ref a ∧ H a = some (.tup vs) ∧ Paired (IntsV H) vs rs ∧ rs.length = n ∧ ∀ (s : Nat) row, rs[s]? = some row → RowG ts n s row
theorem LayAt.tk {H H' : Hp} (k : Tk H H') {v : V} {n : Nat} {ts : List Tie} {rs : List (List Int)} (h : LayAt H v n ts rs) : LayAt H' v n ts rs := by
  obtain ⟨a, vs, e, h1, h2, h3, h4⟩ := h
  exact ⟨a, vs, e, k _ _ h1, Paired.mono (fun _ _ x => x.tk k) h2, h3, h4⟩
/-! ### what is asked of layers -/
def toI : V → Int
  | .int i => i
  | _ => 0
def PartK (H : Hp) (x : V) : Prop := Kn H x ∧ ∀ ys, parts H x = some ys → ∀ y ∈ ys, Kn H y
def ThingK (H : Hp) (v : V) : Prop := Kn H v ∧ ∀ xs, parts H v = some xs → ∀ x ∈ xs, PartK H x
theorem kt_parts {Ps : List Addr} {H H' : Hp} (k : Kt Ps H H') (t : Tabs Ps H) {v : V} (h : Kn H v) : parts H' v = parts H v := by
  cases v with
  | ref a =>
    unfold parts
    rcases h with ⟨xs, h⟩ | ⟨xs, h⟩ | ⟨xs, h⟩
    · simp only [h, k.lst t h]
    · simp only [h, k.tup t h]
    · simp only [h, k.dct t h]
  | _ => rfl
theorem PartK.kt {Ps : List Addr} {H H' : Hp} (k : Kt Ps H H') (t : Tabs Ps H) {v : V} (h : PartK H v) : PartK H' v :=
  ⟨k.kn t h.1, fun ys e y hy => by
    rw [kt_parts k t h.1] at e
    exact k.kn t (h.2 ys e y hy)⟩
theorem ThingK.kt {Ps : List Addr} {H H' : Hp} (k : Kt Ps H H') (t : Tabs Ps H) {v : V} (h : ThingK H v) : ThingK H' v :=
  ⟨k.kn t h.1, fun ys e y hy => by
    rw [kt_parts k t h.1] at e
    exact (h.2 ys e y hy).kt k t⟩
theorem ints0 : ∀ {xs : List V}, xs.all (wfrom 0) = true → ∃ ns : List Int, xs = ns.map V.int ∧ ∀ n ∈ ns, 0 ≤ n
  | [], _ => ⟨[], rfl, fun n hn => by simp at hn⟩
  | x :: xs, h => by
    rw [List.all_cons, Bool.and_eq_true] at h
    obtain ⟨ns, e, h2⟩ := ints0 h.2
    cases x with
    | int i =>
      have h1 : decide ((0 : Int) ≤ i) = true := h.1
      refine ⟨i :: ns, by rw [e]; rfl, fun n hn => ?_⟩
      rcases List.mem_cons.mp hn with z | z
      · rw [z]
        exact of_decide_eq_true h1
      · exact h2 n z
    | _ => exact absurd (show false = true from h.1) Bool.false_ne_true
theorem all_ints {ns : List Int} (h : ∀ n ∈ ns, 0 ≤ n) : (ns.map V.int).all (wfrom 0) = true := by
  rw [List.all_eq_true]
  intro x hx
  obtain ⟨n, hn, rfl⟩ := List.mem_map.mp hx
  exact decide_eq_true (h n hn)
theorem toI_map (ns : List Int) : (ns.map V.int).map toI = ns := by
  rw [List.map_map]
  exact List.map_id ns
theorem atI_gI {ns : List Int} {i : Int} (h0 : 0 ≤ i) (h1 : i < (ns.length : Int)) : atI (ns.map V.int) i = some (.int (gI ns i)) := by
  refine atI_of h0 ?_
  unfold gI
  rw [List.getElem?_map, List.getD_eq_getElem?_getD, List.getElem?_eq_getElem (by omega)]
  rfl
def isRowB (n : Nat) : Option (List V) → Bool
  | some xs => decide (xs.length = 2 * n) && xs.all (wfrom 0)
  | none => false
def rowC (ts : List Tie) (num s : Int) (r : List Int) : Bool := decide (gI r (2 * s) = 0) && (decide (num ≤ gI r (2 * s + 1)) && ts.all (nearI r))
def rowB (n : Nat) (ts : List Tie) (num s : Int) (o : Option (List V)) : Bool := isRowB n o && rowC ts num s ((o.getD []).map toI)
def layB (H : Hp) (n : Nat) (ts : List Tie) (num : Int) (v : V) : Bool := match parts H v with
  | some rows => decide (rows.length = n) && (List.range n).all fun s : Nat => rowB n ts num (s : Int) (parts H (rows.getD s .non))
  | none => false
theorem take_all_step {α : Type} {p : α → Bool} {xs : List α} {i : Nat} {x : α} (ex : xs[i]? = some x) (h : (xs.take i).all p = true) : (xs.take (i + 1)).all p = p x := by
  rw [List.take_add_one, ex, List.all_append, h]
  simp
theorem all_no {α : Type} {p : α → Bool} {xs : List α} {i : Nat} {x : α} (ex : xs[i]? = some x) (h : p x = false) : xs.all p = false := by
  rw [Bool.eq_false_iff]
  intro z
  rw [List.all_eq_true] at z
  rw [z x (List.mem_of_getElem? ex)] at h
  cases h
theorem range_step {p : Nat → Bool} {n i : Nat} (h : (List.range i).all p = true) : (List.range (i + 1)).all p = p i := by
  rw [List.range_succ, List.all_append, h]
  simp
theorem range_no {p : Nat → Bool} {n i : Nat} (hi : i < n) (h : p i = false) : (List.range n).all p = false := by
  rw [Bool.eq_false_iff]
  intro z
  rw [List.all_eq_true] at z
  rw [z i (List.mem_range.mpr hi)] at h
  cases h
def spIsRow (Ps : List Addr) : Sp := fun vs H Q _ => ∃ (n : Nat) (v : V), vs = [.int n, v] ∧ PartK H v ∧ Tabs Ps H ∧ ∀ H', Kt Ps H H' → Q (.bl (isRowB n (parts H v))) H'
def spNear : Sp := fun vs H Q _ => ∃ a b : Int, vs = [.int a, .int b] ∧ Q (.bl (nearZ a b)) H
def spAlong : Sp := fun vs H Q _ => ∃ (a c : Addr) (n : Nat) (ns : List Int) (t : Tie), vs = [.ref a, .ref c] ∧ H a = some (.tup (ns.map V.int)) ∧ ns.length = 2 * n ∧ TieOk n t ∧ H c = some (.tup [.int t.one, .int t.other, .str (kindS t.foe)]) ∧ ∀ H', Same H H' → Q (.bl (nearI ns t)) H'
def spRowHolds (Ps : List Addr) : Sp := fun vs H Q _ => ∃ (wv : V) (n : Nat) (ts : List Tie) (num : Int) (s : Nat) (v : V), vs = [wv, .int num, .int s, v] ∧ WebAt H wv n ts ∧ WebOk n ts ∧ s < n ∧ PartK H v ∧ Tabs Ps H ∧ ∀ H', Kt Ps H H' → Q (.bl (rowB n ts num s (parts H v))) H'
def spLayersHold (Ps : List Addr) : Sp := fun vs H Q _ => ∃ (wv : V) (n : Nat) (ts : List Tie) (num : Int) (v : V), vs = [wv, .int num, v] ∧ WebAt H wv n ts ∧ WebOk n ts ∧ ThingK H v ∧ Tabs Ps H ∧ ∀ H', Kt Ps H H' → Q (.bl (layB H n ts num v)) H'
theorem mul2 (x : Int) : (-(2 ^ 20) : Int) ≤ 2 ∧ (2 : Int) ≤ 2 ^ 20 := ⟨by decide, by decide⟩
theorem dec_near (a b : Int) : decide ((if a - b < 0 then -(a - b) else a - b) ≤ 1) = nearZ a b := by
  unfold nearZ
  rw [Bool.eq_iff_iff, Bool.and_eq_true, decide_eq_true_iff, decide_eq_true_iff, decide_eq_true_iff]
  split <;> omega
section
variable {P : Program} {w : World} {K : PySem.W.Frag} {mg : Str → Option Value} {base : Heap}
theorem ok_is_row {f c Pt : Addr} {fd : FuncData} {Ps : List Addr} (F : FunC K "is_row" "is_row" s_is_row f fd c) (TB : GxR.TabB base mg c Pt) (hPt : Pt ∈ Ps) (m_all : mg "all" = none) (D_is_whole_from : Df P w K mg base 2 "is_whole_from" ["low", "thing"] spFrom) (D_is_tuple_of : Df P w K mg base 1 "is_tuple_of" ["length", "thing"] spTupleOf) : FnOk P w K mg base CX0 4 f fd ["many", "thing"] (spIsRow Ps) := by
  obtain ⟨f_is_whole_from, fd_is_whole_from, G_is_whole_from, g_is_whole_from, k_is_whole_from, b_is_whole_from⟩ := D_is_whole_from
  obtain ⟨f_is_tuple_of, fd_is_tuple_of, G_is_tuple_of, g_is_tuple_of, k_is_tuple_of, b_is_tuple_of⟩ := D_is_tuple_of
  refine F.ok sc_is_row (fun vs H Q E h => ?_) (fun A outer s H vs Q E hr h => ?_)
  · obtain ⟨n, v, rfl, _⟩ := h
    rfl
  · obtain ⟨n, v, rfl, hk, hT, q⟩ := h
    refine ⟨_, (pss_one (ps_ret (pe_and (pe_call G_is_tuple_of (hr.mono (by decide)) (by rfl) g_is_tuple_of k_is_tuple_of b_is_tuple_of .nil pass0 (pa_cons (pe_op op_mul pe_int (pv 0)) (pa_cons (pv 1) pa_nil))) (pe_one (pe_all (k := 2) (own := [("number", 2)]) (g := gName 2) hr TB rfl rfl sc_is_row.nd (by rfl) m_all (pi_tup (pv 1)) (blkOk_by (N := N_is_row) (sc := defScope s_is_row) (own := [("number", 2)]) (by decide +kernel)) ⟨rfl, by decide +kernel, by decide +kernel⟩ (show (".0" : Str) ∉ N_is_row by decide +kernel) (fun _ _ _ _ _ _ _ => (pg_name (i := 2) sc_is_row.nd rfl (.inl rfl))) (fun _ _ _ _ _ _ _ hr' => (pe_call G_is_whole_from hr' (by rfl) g_is_whole_from k_is_whole_from b_is_whole_from .nil pass0 (pa_cons pe_int (pa_cons (pv 2) pa_nil))))))))), ?_⟩
    refine ⟨.int n, rfl, 2, n, rfl, rfl, .inl ⟨by decide, by decide⟩, v, rfl, _, v, rfl, hk.1, _, rfl, ?_⟩
    cases hpv : parts H v with
    | none =>
      have e1 : lenIs H v (2 * (n : Int)) = false := by unfold lenIs; rw [hpv]
      rw [hpv] at q
      rw [e1]
      exact q _ (Kt.refl hT)
    | some xs =>
    have e1 : lenIs H v (2 * (n : Int)) = decide ((xs.length : Int) = 2 * (n : Int)) := by unfold lenIs; rw [hpv]
    rw [hpv] at q
    rw [e1]
    by_cases hl : xs.length = 2 * n
    · rw [decide_eq_true (show (xs.length : Int) = 2 * (n : Int) by omega)]
      have eb : isRowB n (some xs) = xs.all (wfrom 0) := by
        show (decide (xs.length = 2 * n) && xs.all (wfrom 0)) = _
        rw [decide_eq_true hl, Bool.true_and]
      rw [eb] at q
      obtain ⟨a, rfl, ea⟩ := parts_at hpv
      refine ⟨.ref a, rfl, a, rfl, ⟨_, SqT.of ea⟩, hT Pt hPt, fun i m H' => i + m = xs.length ∧ Kt Ps H H' ∧ (xs.take i).all (wfrom 0) = true, fun H2 hH2 => ⟨xs.length, by omega, Kt.tabbed hT hPt hH2, rfl⟩, fun i m H' hw => ?_⟩
      obtain ⟨em, kt, hal⟩ := hw
      have ea' := kt.tup hT ea
      by_cases hi : i < xs.length
      · refine .inr ⟨⟨_, _, SqT.of ea', List.getElem?_eq_getElem hi⟩, fun H3 => Kt Ps H H3 ∧ (xs.take (i + 1)).all (wfrom 0) = true, fun H3 n3 => ⟨m - 1, by omega, by omega, n3.1, n3.2⟩, fun x H3 hy => ?_⟩
        obtain ⟨rfl, fy⟩ := hy
        have ex : xs[i]? = some x := fy _ (SqT.of ea')
        refine ⟨rfl, x, rfl, 0, x, rfl, kt.kn hT (hk.2 xs hpv x (List.mem_of_getElem? ex)), _, rfl, ?_⟩
        cases hb : wfrom 0 x with
        | true => exact ⟨kt, (take_all_step ex hal).trans hb⟩
        | false =>
          rw [all_no ex hb] at q
          exact q _ kt
      · refine .inl ⟨⟨_, SqT.of ea', by omega⟩, ?_⟩
        rw [List.take_of_length_le (by omega)] at hal
        rw [hal] at q
        exact q _ kt
    · rw [decide_eq_false (show ¬ (xs.length : Int) = 2 * (n : Int) by omega)]
      have eb : isRowB n (some xs) = false := by
        show (decide (xs.length = 2 * n) && xs.all (wfrom 0)) = _
        rw [decide_eq_false hl, Bool.false_and]
      rw [eb] at q
      exact q _ (Kt.refl hT)
theorem ok_are_near {f : Addr} {fd : FuncData} (F : Fun K "are_near" "are_near" s_are_near f fd) (m_abs : mg "abs" = none) : FnOk P w K mg base CX0 1 f fd ["one", "other"] spNear := by
  refine F.ok sc_are_near (fun vs H Q E h => ?_) (fun cdv A outer s H vs Q E hr h => ?_)
  · obtain ⟨a, b, rfl, _⟩ := h
    rfl
  · obtain ⟨a, b, rfl, q⟩ := h
    refine ⟨_, (pss_one (ps_ret (pe_cmpR op_le (pe_callB call_abs (by rfl) m_abs (by decide +kernel) (pa_cons (pe_op op_sub (pv 0) (pv 1)) pa_nil)) pe_int (nomark _)))), ?_⟩
    refine ⟨.int a, rfl, .int b, rfl, a, b, rfl, rfl, _, rfl, _, 1, rfl, rfl, ?_⟩
    rw [← dec_near] at q
    exact q
theorem ok_near_along {f : Addr} {fd : FuncData} (F : Fun K "near_along" "near_along" s_near_along f fd) (D_are_near : Df P w K mg base 1 "are_near" ["one", "other"] spNear) : FnOk P w K mg base CX0 2 f fd ["row", "tie"] spAlong := by
  obtain ⟨f_are_near, fd_are_near, G_are_near, g_are_near, k_are_near, b_are_near⟩ := D_are_near
  refine F.ok sc_near_along (fun vs H Q E h => ?_) (fun cdv A outer s H vs Q E hr h => ?_)
  · obtain ⟨a, c, n, ns, t, rfl, _⟩ := h
    rfl
  · obtain ⟨a, c, n, ns, t, rfl, ha, ln, okt, hc, q⟩ := h
    refine ⟨_, (pss_cons (ps_asg (pv 1) (pg_tup rfl (pgs_cons (pg_name (i := 2) sc_near_along.nd rfl (.inl rfl)) (pgs_cons (pg_name (i := 3) sc_near_along.nd rfl (.inl rfl)) (pgs_cons (pg_name (i := 4) sc_near_along.nd rfl (.inl rfl)) pgs_nil)))))
      (Evl.pss_cut (ps_set (i := 5) sc_near_along.nd rfl (.inl rfl) (pe_ifExp (pt_cmpR op_eq (pv 4) pe_str (nomark _)) pe_int pe_int))
      (pss_one (ps_ret (pe_and (pe_call G_are_near (hr.mono (by decide)) (by rfl) g_are_near k_are_near b_are_near .nil pass0 (pa_cons (pe_ix ix_tup (pv 0) (pe_op op_mul pe_int (pv 2)) (fun _ _ => rfl)) (pa_cons (pe_ix ix_tup (pv 0) (pe_op op_add (pe_op op_mul pe_int (pv 3)) (pv 5)) (fun _ _ => rfl)) pa_nil))) (pe_one (pe_call G_are_near (hr.mono (by decide)) (by rfl) g_are_near k_are_near b_are_near .nil pass0 (pa_cons (pe_ix ix_tup (pv 0) (pe_op op_add (pe_op op_mul pe_int (pv 2)) pe_int) (fun _ _ => rfl)) (pa_cons (pe_ix ix_tup (pv 0) (pe_op op_sub (pe_op op_add (pe_op op_mul pe_int (pv 3)) pe_int) (pv 5)) (fun _ _ => rfl)) pa_nil))))))))), ?_⟩
    have ek : decide (V.str (kindS t.foe) = V.str "foe") = t.foe := by cases t.foe <;> decide +kernel
    refine ⟨.ref c, rfl, c, _, rfl, SqT.of hc, rfl, _, _, rfl, _, _, rfl, _, _, rfl, rfl, ?_⟩
    refine ⟨fun σ' H' => σ' = [some (.ref a), some (.ref c), some (.int t.one), some (.int t.other), some (.str (kindS t.foe)), some (.int (bI t.foe))] ∧ H' = H, ?_, ?_⟩
    · refine ⟨.str (kindS t.foe), rfl, rfl, _, rfl, ?_⟩
      rw [ek]
      cases t.foe
      · exact ⟨rfl, rfl⟩
      · exact ⟨rfl, rfl⟩
    rintro σ' H' ⟨rfl, eH⟩
    subst eH
    have b01 : bI t.foe = 0 ∨ bI t.foe = 1 := by unfold bI; split <;> simp
    have o := okt
    have ln' : (ns.length : Int) = 2 * (n : Int) := by omega
    obtain ⟨o1, o2, o3, o4, _⟩ := o
    refine ⟨.ref a, rfl, .int t.one, rfl, 2, t.one, rfl, rfl, .inl ⟨by decide, by decide⟩, a, _, 2 * t.one, _, rfl, rfl, SqT.of ha, atI_gI (by omega) (by omega), .ref a, rfl, .int t.other, rfl, 2, t.other, rfl, rfl, .inl ⟨by decide, by decide⟩, .int (bI t.foe), rfl, _, _, rfl, rfl, a, _, 2 * t.other + bI t.foe, _, rfl, rfl, SqT.of ha, atI_gI (by omega) (by omega), _, _, rfl, _, rfl, ?_⟩
    unfold nearI at q
    cases h1 : nearZ (gI ns (2 * t.one)) (gI ns (2 * t.other + bI t.foe)) with
    | false =>
      rw [h1, Bool.false_and] at q
      exact q _ (Same.refl _)
    | true =>
      rw [h1, Bool.true_and] at q
      exact ⟨.ref a, rfl, .int t.one, rfl, 2, t.one, rfl, rfl, .inl ⟨by decide, by decide⟩, _, 1, rfl, rfl, a, _, 2 * t.one + 1, _, rfl, rfl, SqT.of ha, atI_gI (by omega) (by omega), .ref a, rfl, .int t.other, rfl, 2, t.other, rfl, rfl, .inl ⟨by decide, by decide⟩, _, 1, rfl, rfl, .int (bI t.foe), rfl, _, _, rfl, rfl, a, _, 2 * t.other + 1 - bI t.foe, _, rfl, rfl, SqT.of ha, atI_gI (by omega) (by omega), _, _, rfl, q _ (Same.refl _)⟩
theorem ok_row_holds {f c Pt : Addr} {fd : FuncData} {Ps : List Addr} (F : FunC K "row_holds" "row_holds" s_row_holds f fd c) (TB : GxR.TabB base mg c Pt) (hPt : Pt ∈ Ps) (m_all : mg "all" = none) (D_is_row : Df P w K mg base 4 "is_row" ["many", "thing"] (spIsRow Ps)) (D_near_along : Df P w K mg base 2 "near_along" ["row", "tie"] spAlong) : FnOk P w K mg base CX0 6 f fd ["web", "number", "start", "thing"] (spRowHolds Ps) := by
  obtain ⟨f_is_row, fd_is_row, G_is_row, g_is_row, k_is_row, b_is_row⟩ := D_is_row
  obtain ⟨f_near_along, fd_near_along, G_near_along, g_near_along, k_near_along, b_near_along⟩ := D_near_along
  refine F.ok sc_row_holds (fun vs H Q E h => ?_) (fun A outer sh H vs Q E hr h => ?_)
  · obtain ⟨wv, n, ts, num, s, v, rfl, _⟩ := h
    rfl
  · obtain ⟨wv, n, ts, num, s, v, rfl, hW, ok, hs, hk, hT, q⟩ := h
    refine ⟨_, (pss_cons (ps_if (pt_not (pt_val (pe_call G_is_row (hr.mono (by decide)) (by rfl) g_is_row k_is_row b_is_row .nil pass0 (pa_cons (pe_ix ix_tup (pv 0) pe_int (fun _ _ => rfl)) (pa_cons (pv 3) pa_nil)))))
        (pss_one (ps_ret pe_bl))
        pss_nil)
      (pss_cons (ps_if (PW.pt (pw_or (pt_cmpR op_ne (pe_ix ix_tup (pv 3) (pe_op op_mul pe_int (pv 2)) (fun _ _ => rfl)) pe_int (nomark _)) (pw_or1 (pt_cmpR op_lt (pe_ix ix_tup (pv 3) (pe_op op_add (pe_op op_mul pe_int (pv 2)) pe_int) (fun _ _ => rfl)) (pv 1) (nomark _)))))
        (pss_one (ps_ret pe_bl))
        pss_nil)
      (pss_one (ps_ret (pe_all (k := 4) (own := [("tie", 4)]) (g := gName 4) hr TB rfl rfl sc_row_holds.nd (by rfl) m_all (pi_tup (pe_ix ix_tup (pv 0) pe_int (fun _ _ => rfl))) (blkOk_by (N := N_row_holds) (sc := defScope s_row_holds) (own := [("tie", 4)]) (by decide +kernel)) ⟨rfl, by decide +kernel, by decide +kernel⟩ (show (".0" : Str) ∉ N_row_holds by decide +kernel) (fun _ _ _ _ _ _ _ => (pg_name (i := 4) sc_row_holds.nd rfl (.inl rfl))) (fun _ _ _ _ _ _ _ hr' => (pe_call G_near_along (hr'.mono (by decide)) (by rfl) g_near_along k_near_along b_near_along .nil pass0 (pa_cons (pv 3) (pa_cons (pv 4) pa_nil))))))))), ?_⟩
    obtain ⟨wa, wb, us, rfl, hwa, hwb, hp⟩ := id hW
    have lu : us.length = ts.length := Paired.length hp
    refine ⟨.ref wa, rfl, wa, _, 0, .int n, rfl, rfl, SqT.of hwa, rfl, v, rfl, n, v, rfl, hk, hT, fun H1 k1 => ⟨_, rfl, ?_⟩⟩
    cases hb : isRowB n (parts H v) with
    | false =>
      have e : rowB n ts num s (parts H v) = false := by unfold rowB; rw [hb, Bool.false_and]
      rw [e] at q
      exact q _ k1
    | true =>
    cases hpv : parts H v with
    | none => rw [hpv] at hb; cases hb
    | some xs =>
    rw [hpv] at hb
    have hb' : (decide (xs.length = 2 * n) && xs.all (wfrom 0)) = true := hb
    rw [Bool.and_eq_true, decide_eq_true_iff] at hb'
    obtain ⟨ln, al⟩ := hb'
    obtain ⟨ns, rfl, pos⟩ := ints0 al
    rw [List.length_map] at ln
    have e : rowB n ts num s (parts H v) = rowC ts num s ns := by
      unfold rowB
      rw [hpv, hb, Bool.true_and]
      show rowC ts num s ((ns.map V.int).map toI) = _
      rw [toI_map]
    rw [e] at q
    obtain ⟨a, rfl, ea⟩ := parts_at hpv
    have ea1 := k1.tup hT ea
    have ln' : (ns.length : Int) = 2 * (n : Int) := by omega
    refine ⟨.ref a, rfl, .int s, rfl, 2, s, rfl, rfl, .inl ⟨by decide, by decide⟩, a, _, 2 * (s : Int), _, rfl, rfl, SqT.of ea1, atI_gI (by omega) (by omega), rfl, _, rfl, ?_⟩
    unfold rowC at q
    rw [dec_int]
    by_cases h0 : gI ns (2 * (s : Int)) = 0
    · rw [decide_eq_true h0] at q ⊢
      rw [Bool.true_and] at q
      refine ⟨.ref a, rfl, .int s, rfl, 2, s, rfl, rfl, .inl ⟨by decide, by decide⟩, _, 1, rfl, rfl, a, _, 2 * (s : Int) + 1, _, rfl, rfl, SqT.of ea1, atI_gI (by omega) (by omega), .int num, rfl, _, num, rfl, rfl, _, rfl, ?_⟩
      by_cases h1 : num ≤ gI ns (2 * (s : Int) + 1)
      · rw [decide_eq_true h1, Bool.true_and] at q
        rw [decide_eq_false (show ¬ gI ns (2 * (s : Int) + 1) < num by omega)]
        have hwa1 := k1.tup hT hwa
        have hwb1 := k1.tup hT hwb
        refine ⟨.ref wa, rfl, wa, _, 1, .ref wb, rfl, rfl, SqT.of hwa1, rfl, wb, rfl, ⟨_, SqT.of hwb1⟩, k1.tab Pt hPt, fun i m H' => i + m = ts.length ∧ Kt Ps H H' ∧ (ts.take i).all (nearI ns) = true, fun H2 hH2 => ⟨ts.length, by omega, k1.trans (Kt.tabbed k1.tab hPt hH2), rfl⟩, fun i m H' hw => ?_⟩
        obtain ⟨em, kt, hal⟩ := hw
        have hwb' := kt.tup hT hwb
        have ea' := kt.tup hT ea
        by_cases hi : i < ts.length
        · refine .inr ⟨⟨_, _, SqT.of hwb', List.getElem?_eq_getElem (show i < us.length by omega)⟩, fun H3 => Kt Ps H H3 ∧ (ts.take (i + 1)).all (nearI ns) = true, fun H3 n3 => ⟨m - 1, by omega, by omega, n3.1, n3.2⟩, fun x H3 hy => ?_⟩
          obtain ⟨rfl, fy⟩ := hy
          have ex : us[i]? = some x := fy _ (SqT.of hwb')
          obtain ⟨t, et, c, rfl, hc⟩ := Paired.at (ties_tk (kt.tk hT) hp) ex
          refine ⟨rfl, .ref a, rfl, .ref c, rfl, a, c, n, ns, t, rfl, ea', ln, ok.ok t (List.mem_of_getElem? et), hc, fun H4 s4 => ⟨_, rfl, ?_⟩⟩
          have kt4 : Kt Ps H H4 := kt.trans (Kt.same kt.tab s4)
          cases hb : nearI ns t with
          | true => exact ⟨kt4, (take_all_step et hal).trans hb⟩
          | false =>
            rw [all_no et hb] at q
            exact q _ kt4
        · refine .inl ⟨⟨_, SqT.of hwb', by omega⟩, ?_⟩
          rw [List.take_of_length_le (by omega)] at hal
          rw [hal] at q
          exact q _ kt
      · rw [decide_eq_false h1, Bool.false_and] at q
        rw [decide_eq_true (show gI ns (2 * (s : Int) + 1) < num by omega)]
        exact q _ k1
    · rw [decide_eq_false h0] at q ⊢
      rw [Bool.false_and] at q
      exact q _ k1
theorem ok_layers_hold {f c Pt : Addr} {fd : FuncData} {Ps : List Addr} (F : FunC K "layers_hold" "layers_hold" s_layers_hold f fd c) (TB : GxR.TabB base mg c Pt) (hPt : Pt ∈ Ps) (m_all : mg "all" = none) (m_enumerate : mg "enumerate" = none) (D_is_tuple_of : Df P w K mg base 1 "is_tuple_of" ["length", "thing"] spTupleOf) (D_row_holds : Df P w K mg base 6 "row_holds" ["web", "number", "start", "thing"] (spRowHolds Ps)) : FnOk P w K mg base CX0 8 f fd ["web", "number", "thing"] (spLayersHold Ps) := by
  obtain ⟨f_is_tuple_of, fd_is_tuple_of, G_is_tuple_of, g_is_tuple_of, k_is_tuple_of, b_is_tuple_of⟩ := D_is_tuple_of
  obtain ⟨f_row_holds, fd_row_holds, G_row_holds, g_row_holds, k_row_holds, b_row_holds⟩ := D_row_holds
  refine F.ok sc_layers_hold (fun vs H Q E h => ?_) (fun A outer s H vs Q E hr h => ?_)
  · obtain ⟨wv, n, ts, num, v, rfl, _⟩ := h
    rfl
  · obtain ⟨wv, n, ts, num, v, rfl, hW, ok, hk, hT, q⟩ := h
    refine ⟨_, (pss_cons (ps_if (pt_not (pt_val (pe_call G_is_tuple_of (hr.mono (by decide)) (by rfl) g_is_tuple_of k_is_tuple_of b_is_tuple_of .nil pass0 (pa_cons (pe_ix ix_tup (pv 0) pe_int (fun _ _ => rfl)) (pa_cons (pv 2) pa_nil)))))
        (pss_one (ps_ret pe_bl))
        pss_nil)
      (pss_one (ps_ret (pe_all (k := 6) (own := [("start", 3), ("row", 4)]) (g := gTup K 2 (gCons (gName 3) (gCons (gName 4) gNil))) hr TB rfl rfl sc_layers_hold.nd (by rfl) m_all (pi_enumT (by rfl) m_enumerate (pa_cons (pv 2) pa_nil)) (blkOk_by (N := N_layers_hold) (sc := defScope s_layers_hold) (own := [("start", 3), ("row", 4)]) (by decide +kernel)) ⟨rfl, by decide +kernel, by decide +kernel⟩ (show (".0" : Str) ∉ N_layers_hold by decide +kernel) (fun _ _ _ _ _ _ _ => (pg_tup rfl (pgs_cons (pg_name (i := 3) sc_layers_hold.nd rfl (.inl rfl)) (pgs_cons (pg_name (i := 4) sc_layers_hold.nd rfl (.inl rfl)) pgs_nil)))) (fun _ _ _ _ _ _ _ hr' => (pe_call G_row_holds hr' (by rfl) g_row_holds k_row_holds b_row_holds .nil pass0 (pa_cons (pv 0) (pa_cons (pv 1) (pa_cons (pv 3) (pa_cons (pv 4) pa_nil)))))))))), ?_⟩
    obtain ⟨wa, wb, us, rfl, hwa, hwb, hp⟩ := id hW
    refine ⟨.ref wa, rfl, wa, _, 0, .int n, rfl, rfl, SqT.of hwa, rfl, v, rfl, _, v, rfl, hk.1, _, rfl, ?_⟩
    cases hpv : parts H v with
    | none =>
      have e1 : lenIs H v (n : Int) = false := by unfold lenIs; rw [hpv]
      have e2 : layB H n ts num v = false := by unfold layB; rw [hpv]
      rw [e2] at q
      rw [e1]
      exact q _ (Kt.refl hT)
    | some rows =>
    have e1 : lenIs H v (n : Int) = decide ((rows.length : Int) = (n : Int)) := by unfold lenIs; rw [hpv]
    have e2 : layB H n ts num v = (decide (rows.length = n) && (List.range n).all fun s : Nat => rowB n ts num (s : Int) (parts H (rows.getD s .non))) := by unfold layB; rw [hpv]
    rw [e2] at q
    rw [e1]
    by_cases hl : rows.length = n
    · rw [decide_eq_true hl, Bool.true_and] at q
      rw [decide_eq_true (show (rows.length : Int) = (n : Int) by omega)]
      obtain ⟨a, rfl, ea⟩ := parts_at hpv
      refine ⟨.ref a, rfl, a, _, rfl, SqT.of ea, hT Pt hPt, fun i m H' => i + m = n ∧ Kt Ps H H' ∧ ((List.range i).all fun s : Nat => rowB n ts num (s : Int) (parts H (rows.getD s .non))) = true, fun H2 hH2 => ⟨n, by omega, Kt.tabbed hT hPt hH2, rfl⟩, fun i m H' hw => ?_⟩
      obtain ⟨em, kt, hal⟩ := hw
      have ea' := kt.tup hT ea
      by_cases hi : i < n
      · refine .inr ⟨⟨_, _, SqT.of ea', List.getElem?_eq_getElem (show i < rows.length by omega)⟩, fun H3 => Kt Ps H H3 ∧ ((List.range (i + 1)).all fun s : Nat => rowB n ts num (s : Int) (parts H (rows.getD s .non))) = true, fun H3 n3 => ⟨m - 1, by omega, by omega, n3.1, n3.2⟩, fun x H3 hy => ?_⟩
        obtain ⟨T, y, rfl, nT, rfl, fy⟩ := hy
        have ex : rows[i]? = some y := fy _ (SqT.of ea')
        have eT := same_new (o := .tup [.int (i : Nat), y]) nT
        have kt3 : Kt Ps H (upd H' T (.tup [.int (i : Nat), y])) := kt.trans (Kt.same kt.tab eT)
        have hpk := hk.2 rows hpv y (List.mem_of_getElem? ex)
        have eg : rows.getD i .non = y := by rw [List.getD_eq_getElem?_getD, ex]; rfl
        refine ⟨T, _, rfl, SqT.of upd_same, rfl, _, _, rfl, _, _, rfl, rfl, rfl, .ref wa, rfl, .int num, rfl, .int i, rfl, y, rfl, .ref wa, n, ts, num, i, y, rfl, hW.tk (kt3.tk hT), ok, hi, hpk.kt kt3 hT, kt3.tab, fun H4 k4 => ⟨_, rfl, ?_⟩⟩
        have kt4 := kt3.trans k4
        rw [kt_parts kt3 hT hpk.1]
        cases hb : rowB n ts num (i : Int) (parts H y) with
        | true => exact ⟨kt4, by rw [range_step (n := n) hal, eg]; exact hb⟩
        | false =>
          rw [range_no (n := n) hi (by rw [eg]; exact hb)] at q
          exact q _ kt4
      · refine .inl ⟨⟨_, SqT.of ea', by omega⟩, ?_⟩
        have : i = n := by omega
        subst this
        rw [hal] at q
        exact q _ kt
    · rw [decide_eq_false hl, Bool.false_and] at q
      rw [decide_eq_false (show ¬ (rows.length : Int) = (n : Int) by omega)]
      exact q _ (Kt.refl hT)
end
/-! ### the script stays -/
theorem Kt.seq {Ps : List Addr} {K : PySem.W.Frag} {H H' : Hp} {a : Addr} {xs : List V} (k : Kt Ps H H') (t : Tabs Ps H) (h : SqL K H a xs) : SqL K H' a xs := by
  rcases h with (h | ⟨o, h⟩) | h
  · exact .inl (.inl (k.lst t h))
  · exact .inl (.inr ⟨o, k.keep _ _ (t.out h fun _ z => by cases z) h⟩)
  · exact .inr h
theorem sql_ne {K : PySem.W.Frag} {H : Hp} {a d : Addr} {xs : List V} (h : SqL K H a xs) (nd : H d = none) : a ≠ d ∨ ∀ H', SqL K H' a xs := by
  rcases h with (h | ⟨o, h⟩) | h
  · exact .inl (ne_of_none h nd)
  · exact .inl (ne_of_none h nd)
  · exact .inr fun _ => .inr h
theorem sql_well {K : PySem.W.Frag} {H H' : Hp} {a d : Addr} {xs : List V} (h : SqL K H a xs) (ne : a ≠ d ∨ ∀ H', SqL K H' a xs) (k : Kp d d H H') : SqL K H' a xs := by
  rcases ne with ne | f
  · rcases h with (h | ⟨o, h⟩) | h
    · exact .inl (.inl (k _ _ ne ne h))
    · exact .inl (.inr ⟨o, k _ _ ne ne h⟩)
    · exact .inr h
  · exact f H'
theorem map_take_snoc {α β : Type} {f : α → β} {xs : List α} {i : Nat} {x : α} (h : xs[i]? = some x) : (xs.take (i + 1)).map f = (xs.take i).map f ++ [f x] := by
  rw [List.take_add_one, h, List.map_append]
  rfl
/-! ### len(set(t)) of a tuple of ints -/
theorem sub_len : ∀ {ks ns : List Int}, ks.Nodup → (∀ x ∈ ks, x ∈ ns) → ks.length ≤ ns.length
  | [], _, _, _ => Nat.zero_le _
  | k :: ks, ns, nd, h => by
    rw [List.nodup_cons] at nd
    have hk := h k (by simp)
    have q := sub_len (ks := ks) (ns := ns.erase k) nd.2 fun x hx => (List.mem_erase_of_ne (fun z => nd.1 (by rw [← z]; exact hx))).mpr (h x (List.mem_cons_of_mem _ hx))
    rw [List.length_erase_of_mem hk] at q
    have : 0 < ns.length := List.length_pos_of_mem hk
    rw [List.length_cons]
    omega
theorem twice : ∀ {ns : List Int}, ¬ ns.Nodup → ∃ x, x ∈ ns ∧ x ∈ ns.erase x
  | [], h => absurd List.nodup_nil h
  | y :: l, h => by
    by_cases hy : y ∈ l
    · exact ⟨y, by simp, by rw [List.erase_cons_head]; exact hy⟩
    · have hl : ¬ l.Nodup := fun z => h (List.nodup_cons.mpr ⟨hy, z⟩)
      obtain ⟨x, h1, h2⟩ := twice hl
      refine ⟨x, List.mem_cons_of_mem _ h1, ?_⟩
      have ne : y ≠ x := fun z => hy (by rw [z]; exact h1)
      rw [List.erase_cons_tail (by simpa using ne)]
      exact List.mem_cons_of_mem _ h2
theorem many_iff {ks ns : List Int} (nd : ks.Nodup) (h : ∀ x, x ∈ ns ↔ x ∈ ks) : ks.length = ns.length ↔ ns.Nodup := by
  constructor
  · intro e
    by_cases hn : ns.Nodup
    · exact hn
    · obtain ⟨x, h1, h2⟩ := twice hn
      have q := sub_len (ns := ns.erase x) nd fun y hy => by
        by_cases e2 : y = x
        · rw [e2]
          exact h2
        · exact (List.mem_erase_of_ne e2).mpr ((h y).mpr hy)
      rw [List.length_erase_of_mem h1] at q
      have : 0 < ns.length := List.length_pos_of_mem h1
      omega
  · intro hn
    have q1 := sub_len nd fun y hy => (h y).mpr hy
    have q2 := sub_len hn fun y hy => (h y).mp hy
    omega
def tLenSet (K : PySem.W.Frag) (ta : TE) : TE := fun σ H Q => ta σ H fun x H1 => ∃ (l : Addr) (ns : List Int), x = .ref l ∧ SqT K H1 l (ns.map V.int) ∧ ns.length ≤ 4000 ∧ ∀ c : Nat, (c = ns.length ↔ ns.Nodup) → Q (.int c) H1
theorem pe_lenSetT {X : Cx} {a : Expr} {ta : TE} {p p2 q pos : Pos} (hg : Gl X "len") (hm : X.mg "len" = none) (hg2 : Gl X "set") (hm2 : X.mg "set" = none) (ha : PE X a ta) (hc : X.calm = true := by rfl)
    (na : starEach [a] X.env = (false, eval a X.env) :: starEach [] X.env := by rfl) : PE X (.Call (.Name "len" p) [.Call (.Name "set" p2) [a] [] q] [] pos) (tLenSet X.K ta) := by
  refine ⟨fun pins s σ H Q I want => Call_ (ld_blt I hg hm PySem.boot_len (PyProof.Rows.callWith_builtin1 (PyProof.Rows.args_cons (Call_ (ld_blt I hg2 hm2 PyProof.Rows.boot_set (PyProof.Rows.callWith_type1 (PyProof.Rows.args_cons (thn (ha.run pins s σ H _ I want) fun v s1 got => PyProof.Rows.args_nil ?_) na) na rfl))) rfl) rfl rfl))⟩
  obtain ⟨x, H1, J, r1, l, ns, ex, hq, hl, q1⟩ := got
  subst ex
  obtain rfl : v = Value.ref l := r1
  obtain ⟨its, rel, tup, _⟩ := J.tuple hq
  refine call_set_tupI ns (J.ok.hd hc) tup (by simpa using rel.ints) (by unfold scanBound; omega) fun h' tk c hS hcl kp => PyProof.Rows.args_nil ?_
  obtain ⟨o, es, ep, t, ho, hex, hd, _, nd, mem, _, hf, hn, _⟩ := hS
  have J2 : Inv X pins σ H1 { s1 with heap := h', toks := tk } := J.kept kp
  have len : (es.toList.map keyOf).length = c := by rw [List.length_map, Array.length_toList, hn]
  have key : c = ns.length ↔ ns.Nodup := by
    rw [← len]
    refine many_iff nd fun y => ?_
    rw [← mem y, decide_eq_true_iff]
  exact call_len_set ho hex hd hf (by omega) ⟨.int c, H1, J2.tok _, ⟨_, by rw [hn]⟩, q1 c key⟩
/-! ### webs as data -/
def tieD (t : Tie) : PyData := .tuple [.int t.one, .int t.other, .str (kindS t.foe)]
def webD (n : Int) (ts : List Tie) : PyData := .tuple [.int n, .tuple (ts.map tieD)]
theorem kind_ok (b : Bool) : (PyData.str (kindS b)).canLay0 = true ∧ (kindS b).cps.size ≤ 100 := by cases b <;> decide +kernel
theorem dp_ties {K : PySem.W.Frag} {H : Hp} : ∀ {vs : List V} {ts : List Tie}, Paired (TieV H) vs ts → DpAll K H vs (ts.map tieD)
  | _, _, .nil => .nil
  | _, _, .cons r t => by
    obtain ⟨a, rfl, e⟩ := r
    exact .cons (.tup (SqT.of e) (.cons (.int _) (.cons (.int _) (.cons (.str _) .nil)))) (dp_ties t)
theorem WebAt.dp {K : PySem.W.Frag} {H : Hp} {v : V} {n : Int} {ts : List Tie} (h : WebAt H v n ts) : Dp K H v (webD n ts) := by
  obtain ⟨a, b, vs, rfl, h1, h2, h3⟩ := h
  exact .tup (SqT.of h1) (.cons (.int _) (.cons (.tup (SqT.of h2) (dp_ties h3)) .nil))
theorem lay_tie (t : Tie) : (tieD t).canLay0 = true := by
  unfold tieD
  have h := (kind_ok t.foe).1
  simp only [PyData.canLay0, PyData.canLayAll0, Bool.true_and, Bool.and_true] at h ⊢
  exact h
theorem lay_ties : ∀ ts : List Tie, PyData.canLayAll0 (ts.map tieD) = true
  | [] => by simp [PyData.canLayAll0]
  | t :: ts => by rw [List.map_cons, PyData.canLayAll0, lay_tie t, lay_ties ts]; rfl
theorem lay_web (n : Int) (ts : List Tie) : (webD n ts).canLay0 = true := by
  unfold webD
  rw [PyData.canLay0, PyData.canLayAll0, PyData.canLayAll0, PyData.canLay0, PyData.canLay0, lay_ties, PyData.canLayAll0]
  rfl
theorem deep_ties : ∀ ts : List Tie, PyData.depthAll (ts.map tieD) ≤ 1
  | [] => by simp [PyData.depthAll]
  | t :: ts => by
    have h := deep_ties ts
    have g : (tieD t).depth = 1 := by simp [tieD, PyData.depth, PyData.depthAll]
    rw [List.map_cons, PyData.depthAll, g]
    omega
theorem shaped_web (n : Int) (ts : List Tie) : SeqAt.shaped (webD n ts) = true := by
  have h := deep_ties ts
  have d : (webD n ts).depth ≤ 3 := by
    simp only [webD, PyData.depth, PyData.depthAll]
    omega
  unfold SeqAt.shaped
  rw [lay_web]
  simp
  omega
/-! ### rows of numbers, in lists -/
def listD (xs : List Int) : PyData := .list (xs.map PyData.int)
theorem shaped_listD (xs : List Int) : SeqAt.shaped (listD xs) = true := by
  unfold SeqAt.shaped listD
  rw [PyData.canLay0, PyData.depth, lay_ints, deep_ints]
  rfl
theorem eqvAll_ints : ∀ xs ys : List Int, PyData.eqvAll (xs.map PyData.int) (ys.map PyData.int) = decide (xs = ys)
  | [], [] => by simp [PyData.eqvAll]
  | [], y :: ys => by simp [PyData.eqvAll]
  | x :: xs, [] => by simp [PyData.eqvAll]
  | x :: xs, y :: ys => by
    rw [List.map_cons, List.map_cons, PyData.eqvAll, eqvAll_ints xs ys, PyData.eqv]
    by_cases h1 : x = y <;> by_cases h2 : xs = ys <;> simp [h1, h2]
theorem eqv_listD (xs ys : List Int) : PyData.eqv (listD xs) (listD ys) = decide (xs = ys) := by
  unfold listD
  rw [PyData.eqv]
  exact eqvAll_ints xs ys
theorem filter_rng_succ (p : Int → Bool) (i : Nat) : ((rng (i + 1)).filter p).map V.int = ((rng i).filter p).map V.int ++ (if p i = true then [V.int i] else []) := by
  rw [rng_succ, List.filter_append, List.map_append, List.filter_cons]
  by_cases h : p i = true
  · rw [if_pos h, if_pos h]
    rfl
  · rw [if_neg h, if_neg h]
    rfl
theorem filter_rng_len (p : Int → Bool) (i : Nat) : ((rng i).filter p).length ≤ i := by
  have := List.length_filter_le p (rng i)
  rw [rng_length] at this
  exact this
/-! ### the ring that is told (mathematics) -/
def foeS (ts : List Tie) : List Int → Int
  | [] => 0
  | m :: ms => bI (tieN ts m.toNat).foe + foeS ts ms
theorem foeS_snoc (ts : List Tie) (m : Int) : ∀ ms, foeS ts (ms ++ [m]) = foeS ts ms + bI (tieN ts m.toNat).foe
  | [] => by
    show bI (tieN ts m.toNat).foe + 0 = 0 + bI (tieN ts m.toNat).foe
    omega
  | x :: ms => by
    show bI (tieN ts x.toNat).foe + foeS ts (ms ++ [m]) = bI (tieN ts x.toNat).foe + foeS ts ms + _
    rw [foeS_snoc ts m ms]
    omega
structure RingO (ts : List Tie) (rs ms : List Int) : Prop where
  len : rs.length = ms.length
  two : 2 ≤ ms.length
  few : ms.length ≤ 100
  rp : ∀ x ∈ rs, 0 ≤ x
  mp : ∀ m ∈ ms, 0 ≤ m ∧ m < (ts.length : Int)
  rd : rs.Nodup
  md : ms.Nodup
  each : ∀ k : Nat, k < ms.length → ∃ x y m t, rs[k]? = some x ∧ rs[(k + 1) % rs.length]? = some y ∧ ms[k]? = some m ∧ ts[m.toNat]? = some t ∧ Jn t x y
  odd : foeS ts ms % 2 = 1
theorem rpk_in {n : Nat} {ts : List Tie} (ok : ∀ t ∈ ts, TieOk n t) {x y : Int} {k : Nat} {b : Bool} (h : RPk ts x k y b) : (k = 0 ∧ y = x ∧ b = false) ∨ ((0 ≤ x ∧ x < n) ∧ (0 ≤ y ∧ y < n)) := by
  induction h with
  | nil => exact .inl ⟨rfl, rfl, rfl⟩
  | step r ad ih =>
    right
    obtain ⟨t, ht, _, q⟩ := ad
    have o := ok t ht
    have yz : (0 ≤ (if t.one = t.one then t.one else t.one) ∧ True) := ⟨by simpa using o.1, trivial⟩
    rcases ih with ⟨_, e, _⟩ | ⟨hx, _⟩
    · subst e
      rcases q with ⟨a, b⟩ | ⟨a, b⟩
      · rw [← a, ← b]
        exact ⟨⟨o.1, o.2.1⟩, o.2.2.1, o.2.2.2.1⟩
      · rw [← a, ← b]
        exact ⟨⟨o.2.2.1, o.2.2.2.1⟩, o.1, o.2.1⟩
    · refine ⟨hx, ?_⟩
      rcases q with ⟨a, b⟩ | ⟨a, b⟩
      · rw [← b]
        exact ⟨o.2.2.1, o.2.2.2.1⟩
      · rw [← a]
        exact ⟨o.1, o.2.1⟩
theorem xor_cancel3 (a b c : Bool) : ((a ^^ b) ^^ (b ^^ c)) = (a ^^ c) := by cases a <;> cases b <;> cases c <;> rfl
theorem jn_two {t : Tie} {a b c d : Int} (h : Jn t a b) (g : Jn t c d) : (a = c ∧ b = d) ∨ (a = d ∧ b = c) := by
  rcases h with ⟨h1, h2⟩ | ⟨h1, h2⟩ <;> rcases g with ⟨g1, g2⟩ | ⟨g1, g2⟩ <;> omega
theorem ring_of {n : Nat} {ts : List Tie} (ok : ∀ t ∈ ts, TieOk n t) {s : Nat} {qs ns : List Int} (way : Way (dN ts) (2 * (s : Int) + 1) (2 * (s : Int)) qs ns) (least : ∀ (x : Int) (k : Nat), RPk ts x k x true → ns.length ≤ k) (few : ns.length ≤ 100) (s0 : (0 : Int) ≤ s) : RingO ts (qs.dropLast.map (· / 2)) (ns.map (· / 2)) := by
  have lq := way.len
  have hd := way.head
  have la := way.last
  have ea := way.each
  have nd := way.nodup
  let g : Nat → Int := fun i => qs.getD i 0
  have gq : ∀ i, i ≤ ns.length → qs[i]? = some (g i) := fun i hi => by
    show qs[i]? = some (qs.getD i 0)
    rw [List.getD_eq_getElem?_getD, List.getElem?_eq_getElem (by omega)]
    rfl
  have g0 : g 0 = 2 * (s : Int) := by
    have := gq 0 (Nat.zero_le _)
    rw [hd] at this
    exact (Option.some.inj this).symm
  have gL : g ns.length = 2 * (s : Int) + 1 := by
    have := gq ns.length (Nat.le_refl _)
    rw [la] at this
    exact (Option.some.inj this).symm
  have st : ∀ i, i < ns.length → ∃ (m : Int) (j : Nat) (t : Tie), ns[i]? = some m ∧ ts[j]? = some t ∧ m / 2 = (j : Int) ∧ 0 ≤ m ∧ Jn t (g i / 2) (g (i + 1) / 2) ∧ g (i + 1) % 2 = (g i % 2 + bI t.foe) % 2 := fun i hi => by
    obtain ⟨x, y, m, h1, h2, h3, h4⟩ := ea i hi
    rw [gq i (by omega)] at h1
    rw [gq (i + 1) (by omega)] at h2
    cases h1
    cases h2
    obtain ⟨j, t, e1, e2, e3, e4, e5⟩ := dN_to h4
    exact ⟨m, j, t, h3, e1, e2, e3, e4, e5⟩
  have seg : ∀ d i, i + d ≤ ns.length → RPk ts (g i / 2) d (g (i + d) / 2) (oB (g i) ^^ oB (g (i + d))) := fun d => by
    induction d with
    | zero =>
      intro i _
      rw [Nat.add_zero, Bool.xor_self]
      exact .nil
    | succ d ih =>
      intro i hi
      have r := ih i (by omega)
      obtain ⟨m, j, t, _, et, _, _, jn, pr⟩ := st (i + d) (by omega)
      have e : oB (g (i + (d + 1))) = (oB (g (i + d)) ^^ t.foe) := oB_add pr
      rw [e, ← Bool.xor_assoc]
      exact .step r ⟨t, List.mem_of_getElem? et, rfl, jn⟩
  have dist : ∀ i j, i < j → j < ns.length → g i / 2 ≠ g j / 2 := fun i j hij hj e => by
    have ne : g i ≠ g j := fun z => by
      have h1 := gq i (by omega)
      have h2 := gq j (by omega)
      rw [z] at h1
      have := (List.getElem?_inj (show i < qs.length by omega) nd).mp (h1.trans h2.symm)
      omega
    have r := seg (j - i) i (by omega)
    rw [show i + (j - i) = j from by omega, ← e] at r
    have po : (oB (g i) ^^ oB (g j)) = true := by
      have a : g i % 2 = 0 ∨ g i % 2 = 1 := by omega
      have b : g j % 2 = 0 ∨ g j % 2 = 1 := by omega
      unfold oB
      rcases a with a | a <;> rcases b with b | b <;> rw [a, b]
      · omega
      · rfl
      · rfl
      · omega
    rw [po] at r
    have := least _ _ r
    omega
  have p0L : g ns.length / 2 = g 0 / 2 := by rw [gL, g0]; omega
  have pos : 1 ≤ ns.length := by
    by_cases h : ns.length = 0
    · rw [h, g0] at gL
      omega
    · omega
  have two : 2 ≤ ns.length := by
    by_cases h : ns.length = 1
    · obtain ⟨m, j, t, _, et, _, _, jn, _⟩ := st 0 (by omega)
      rw [show 0 + 1 = ns.length from by omega, p0L] at jn
      have := (ok t (List.mem_of_getElem? et)).2.2.2.2
      rcases jn with ⟨a, b⟩ | ⟨a, b⟩ <;> exact absurd (a.trans b.symm) this
    · omega
  have rg : ∀ i, i < ns.length → (qs.dropLast.map (· / 2))[i]? = some (g i / 2) := fun i hi => by
    rw [List.getElem?_map, List.dropLast_eq_take, List.getElem?_take, if_pos (by omega), gq i (by omega)]
    rfl
  have lr : (qs.dropLast.map (· / 2)).length = ns.length := by rw [List.length_map, List.length_dropLast]; omega
  have mg' : ∀ {i : Nat} {m : Int}, ns[i]? = some m → (ns.map (· / 2))[i]? = some (m / 2) := fun h => by rw [List.getElem?_map, h]; rfl
  have nonneg : ∀ i, i < ns.length → 0 ≤ g i / 2 := fun i hi => by
    rcases rpk_in ok (seg 1 i (by omega)) with ⟨e, _⟩ | ⟨h, _⟩
    · omega
    · exact h.1
  refine ⟨by rw [lr, List.length_map], by rw [List.length_map]; exact two, by rw [List.length_map]; exact few, fun x hx => ?_, fun m hm => ?_, ?_, ?_, fun k hk => ?_, ?_⟩
  · obtain ⟨i, hi⟩ := List.getElem?_of_mem hx
    have hil : i < ns.length := by have := (List.getElem?_eq_some_iff.mp hi).1; omega
    rw [rg i hil] at hi
    cases hi
    exact nonneg i hil
  · obtain ⟨y, hy, rfl⟩ := List.mem_map.mp hm
    obtain ⟨i, hi⟩ := List.getElem?_of_mem hy
    obtain ⟨m, j, t, h1, et, e2, _⟩ := st i (List.getElem?_eq_some_iff.mp hi).1
    rw [hi] at h1
    cases h1
    have := (List.getElem?_eq_some_iff.mp et).1
    omega
  · unfold List.Nodup
    rw [List.pairwise_iff_getElem]
    intro i j hi hj hij e
    have h1 := rg i (by omega)
    have h2 := rg j (by omega)
    rw [List.getElem?_eq_getElem hi] at h1
    rw [List.getElem?_eq_getElem hj] at h2
    exact dist i j hij (by omega) (by rw [← Option.some.inj h1, ← Option.some.inj h2]; exact e)
  · unfold List.Nodup
    rw [List.pairwise_iff_getElem]
    intro i j hi hj hij e
    rw [List.length_map] at hi hj
    obtain ⟨mi, ji, ti, h1, eti, e2, _, jni, pri⟩ := st i hi
    obtain ⟨mj, jj, tj, h1', etj, e2', _, jnj, prj⟩ := st j hj
    have em : mi / 2 = mj / 2 := by
      have a := mg' h1
      have b := mg' h1'
      rw [List.getElem?_eq_getElem (by rw [List.length_map]; exact hi)] at a
      rw [List.getElem?_eq_getElem (by rw [List.length_map]; exact hj)] at b
      rw [← Option.some.inj a, ← Option.some.inj b]
      exact e
    have ej : ji = jj := by omega
    subst ej
    rw [eti] at etj
    cases etj
    rcases jn_two jni jnj with ⟨a, b⟩ | ⟨a, b⟩
    · exact dist i j hij hj a
    · by_cases hL : j + 1 < ns.length
      · exact dist i (j + 1) (by omega) hL a
      · have hj1 : j + 1 = ns.length := by omega
        rw [hj1, p0L] at a
        have i0 : i = 0 := by
          by_cases h : i = 0
          · exact h
          · exact absurd a.symm (dist 0 i (by omega) hi)
        subst i0
        have j1 : j = 1 := by
          by_cases h : j = 1
          · exact h
          · exact absurd b (dist 1 j (by omega) hj)
        subst j1
        rw [show 1 + 1 = ns.length from by omega, gL] at prj
        rw [show 0 + 1 = 1 from rfl, g0] at pri
        have := bI01 ti.foe
        omega
  · rw [List.length_map] at hk
    obtain ⟨m, j, t, h1, et, e2, e3, jn, _⟩ := st k hk
    refine ⟨g k / 2, g (k + 1) / 2, m / 2, t, rg k hk, ?_, mg' h1, by rw [e2, Int.toNat_natCast]; exact et, jn⟩
    rw [lr]
    by_cases h : k + 1 < ns.length
    · rw [Nat.mod_eq_of_lt h]
      exact rg (k + 1) h
    · have : k + 1 = ns.length := by omega
      rw [this, Nat.mod_self, rg 0 (by omega), p0L]
  · have par : ∀ k, k ≤ ns.length → foeS ts ((ns.map (· / 2)).take k) % 2 = g k % 2 := fun k => by
      induction k with
      | zero =>
        intro _
        rw [List.take_zero, g0]
        show (0 : Int) % 2 = _
        omega
      | succ k ih =>
        intro hk
        obtain ⟨m, j, t, h1, et, e2, _, _, pr⟩ := st k (by omega)
        rw [List.take_add_one, mg' h1, Option.toList_some, foeS_snoc, e2, Int.toNat_natCast, tieN_of et, pr]
        have := ih (by omega)
        omega
    have := par ns.length (Nat.le_refl _)
    rw [List.take_of_length_le (by rw [List.length_map]; exact Nat.le_refl _), gL] at this
    omega
/-! ### the layers that are told -/
theorem gI_rowW {ws : List We} {far : Int} {m : Nat} {x : Int} (h0 : 0 ≤ x) (h1 : x < m) : gI (rowW ws far m) x = ((lvW ws x).map fun k : Nat => (k : Int)).getD far := by
  unfold gI rowW
  rw [List.getD_eq_getElem?_getD, List.getElem?_map, List.getElem?_range (by omega)]
  show ((lvW ws ((x.toNat : Nat) : Int)).map fun k : Nat => (k : Int)).getD far = _
  rw [show ((x.toNat : Nat) : Int) = x from by omega]
theorem lv_near {ts : List Tie} {p : Nat} {ws : List We} (h : Wks ts p ws) {y z : Int} {f b : Bool} (ad : Adj ts y z f) (far : Int) : nearZ (((lvW ws (2 * y + bI b)).map fun k : Nat => (k : Int)).getD far) (((lvW ws (2 * z + bI (b ^^ f))).map fun k : Nat => (k : Int)).getD far) = true := by
  have ad2 : Adj ts z y f := by
    obtain ⟨t, ht, e, q⟩ := ad
    exact ⟨t, ht, e, q.symm⟩
  have one : ∀ {y z : Int} {b : Bool}, Adj ts y z f → ∀ k g, (2 * y + bI b, k, g) ∈ ws → ∃ k' g', (2 * z + bI (b ^^ f), k', g') ∈ ws ∧ k' ≤ k + 1 := fun ad k g he => by
    obtain ⟨m, hm⟩ := dN_of ad
    obtain ⟨k', g', h1, h2⟩ := h.cl _ he _ hm
    exact ⟨k', g', h1, h2⟩
  by_cases hin : (2 * y + bI b) ∈ ws.map (·.1)
  · obtain ⟨k, g, he⟩ := we_key hin
    obtain ⟨k', g', h1, h2⟩ := one ad k g he
    obtain ⟨k2, g2, h3, h4⟩ := one ad2 k' g' h1
    rw [show ((b ^^ f) ^^ f) = b from by cases b <;> cases f <;> rfl] at h3
    have := (we_one h.nd he h3).1
    rw [lvW_some h.nd he, lvW_some h.nd h1]
    show (decide ((k : Int) - (k' : Int) ≤ 1) && decide ((k' : Int) - (k : Int) ≤ 1)) = true
    rw [decide_eq_true (by omega), decide_eq_true (by omega)]
    rfl
  · have hno : (2 * z + bI (b ^^ f)) ∉ ws.map (·.1) := fun hz => by
      obtain ⟨k, g, he⟩ := we_key hz
      obtain ⟨k', g', h1, _⟩ := one ad2 k g he
      rw [show ((b ^^ f) ^^ f) = b from by cases b <;> cases f <;> rfl] at h1
      exact hin (List.mem_map.mpr ⟨_, h1, rfl⟩)
    rw [lvW_none hin, lvW_none hno]
    show (decide (far - far ≤ 1) && decide (far - far ≤ 1)) = true
    rw [decide_eq_true (by omega)]
    rfl
theorem row_told {n : Nat} {ts : List Tie} (ok : ∀ t ∈ ts, TieOk n t) {p L : Nat} (hp : p < n) {ws : List We} (h : Wks ts p ws) : RowG ts n p (rowW ws L (2 * n)) := by
  refine ⟨by unfold rowW; rw [List.length_map, List.length_range], fun x hx => ?_, ?_, fun t ht => ?_⟩
  · unfold rowW at hx
    obtain ⟨i, _, rfl⟩ := List.mem_map.mp hx
    cases lvW ws (i : Int) with
    | none => show (0 : Int) ≤ (L : Int); omega
    | some k => show (0 : Int) ≤ (k : Int); omega
  · rw [gI_rowW (by omega) (by push_cast; omega), lvW_some h.nd h.root]
    rfl
  · obtain ⟨o1, o2, o3, o4, _⟩ := ok t ht
    have ad : Adj ts t.one t.other t.foe := ⟨t, ht, rfl, .inl ⟨rfl, rfl⟩⟩
    have n0 := lv_near (b := false) h ad (L : Int)
    have n1 := lv_near (b := true) h ad (L : Int)
    have f01 := bI01 t.foe
    have e0 : bI (false ^^ t.foe) = bI t.foe := by cases t.foe <;> rfl
    have e1 : bI (true ^^ t.foe) = 1 - bI t.foe := by cases t.foe <;> rfl
    rw [e0, show bI false = 0 from rfl, Int.add_zero] at n0
    rw [e1, show bI true = 1 from rfl, show 2 * t.other + (1 - bI t.foe) = 2 * t.other + 1 - bI t.foe from by omega] at n1
    unfold nearI
    rw [gI_rowW (by omega) (by push_cast; omega), gI_rowW (by omega) (by push_cast; omega), gI_rowW (by omega) (by push_cast; omega), gI_rowW (by omega) (by push_cast; omega), n0, n1]
    rfl
/-! ### zip of three tuples of one length -/
def ItZ (K : PySem.W.Frag) (a b c : Addr) : It where
  go := fun i H => ∃ (xs ys zs : List V), (SqT K H a xs ∧ SqT K H b ys ∧ SqT K H c zs) ∧ i < xs.length ∧ ys.length = xs.length ∧ zs.length = xs.length
  yld := fun i H v H' => ∃ T x y z, v = .ref T ∧ H T = none ∧ H' = upd H T (.tup [x, y, z]) ∧ (∀ xs, SqT K H a xs → xs[i]? = some x) ∧ (∀ ys, SqT K H b ys → ys[i]? = some y) ∧ ∀ zs, SqT K H c zs → zs[i]? = some z
  stop := fun i H => ∃ (xs ys zs : List V), (SqT K H a xs ∧ SqT K H b ys ∧ SqT K H c zs) ∧ xs.length = i ∧ ys.length = i ∧ zs.length = i
theorem turn_zip3 {P : Program} {w : World} {K : PySem.W.Frag} {elts : List Expr} {kk : Nat} {tpos : Pos} {a b c z TI TO i1 i2 i3 : Addr} (S : ZipSep3 z TI TO i1 i2 i3 [i1, a] [i2, b] [i3, c]) (n1 : a ≠ i1) (n2 : b ≠ i2) (n3 : c ≠ i3) :
    Turn P w K (.Tuple elts kk tpos) (ItZ K a b c) [z, TI, TO, i1, i2, i3] z (fun i h => IsZip h z TI TO .none ∧ IsTupOf3 h TI (.ref i1) (.ref i2) (.ref i3) ∧ (∃ a1 a2 a3, IsTupOf3 h TO a1 a2 a3) ∧ h.IsTupleIter i1 a i ∧ h.IsTupleIter i2 b i ∧ h.IsTupleIter i3 c i) where
  mem := List.mem_cons_self
  obj := by
    rintro i h ⟨hz, hTI, ⟨a1, a2, a3, hTO⟩, ⟨o1, e1, _, d1⟩, ⟨o2, e2, _, d2⟩, ⟨o3, e3, _, d3⟩⟩ q hq
    simp only [List.mem_cons, List.not_mem_nil, or_false] at hq
    rcases hq with rfl | rfl | rfl | rfl | rfl | rfl
    · exact ⟨_, hz, fun v y => nomatch y⟩
    · exact ⟨_, hTI, fun v y => nomatch y⟩
    · exact ⟨_, hTO, fun v y => nomatch y⟩
    · exact ⟨o1, e1, fun v y => by rw [d1] at y; cases y⟩
    · exact ⟨o2, e2, fun v y => by rw [d2] at y; cases y⟩
    · exact ⟨o3, e3, fun v y => by rw [d3] at y; cases y⟩
  keep := by
    rintro i h h' ⟨hz, hTI, ⟨a1, a2, a3, hTO⟩, t1, t2, t3⟩ kp
    exact ⟨kp z (by simp) _ hz, kp TI (by simp) _ hTI, ⟨a1, a2, a3, kp TO (by simp) _ hTO⟩, t1.at fun o q => kp i1 (by simp) o q, t2.at fun o q => kp i2 (by simp) o q, t3.at fun o q => kp i3 (by simp) o q⟩
  item := by
    intro X hP hw hK hc i pins s σ H E I hf st hg
    subst hP hw hK
    obtain ⟨hz, hTI, hTO, t1, t2, t3⟩ := st
    obtain ⟨xs, ys, zs, ⟨qx, qy, qz⟩, hi, ly, lz⟩ := hg
    obtain ⟨us, ru, tu, _⟩ := I.tuple qx
    obtain ⟨vs, rv, tv, _⟩ := I.tuple qy
    obtain ⟨ws, rw', tw, _⟩ := I.tuple qz
    have lu := ru.length
    have lv := rv.length
    have lw := rw'.length
    obtain ⟨u, hu, eu⟩ := ru.get (List.getElem?_eq_getElem hi)
    obtain ⟨v, hv, ev⟩ := rv.get (List.getElem?_eq_getElem (show i < ys.length by omega))
    obtain ⟨w', hw, ew⟩ := rw'.get (List.getElem?_eq_getElem (show i < zs.length by omega))
    have W := WalksT.zipD3 (A := X.A) S (Draws.tuple (prog := X.prog) (w := X.w) (A := X.A.in1) (I.ok.hd hc) i1 a n1 us.toArray) (Draws.tuple (prog := X.prog) (w := X.w) (A := X.A.in1) (I.ok.hd hc) i2 b n2 vs.toArray) (Draws.tuple (prog := X.prog) (w := X.w) (A := X.A.in1) (I.ok.hd hc) i3 c n3 ws.toArray)
    refine W.item i s _ _ (by simp only [List.size_toArray]; omega) ⟨hz, hTI, hTO, ⟨t1, tu⟩, ⟨t2, tv⟩, ⟨t3, tw⟩⟩ fun T vals h' tk hp newT isT mid kp => ?_
    obtain ⟨y1, y2, y3, p1, p2, p3, rfl⟩ := hp
    have apart := W.apart i T h' mid
    obtain rfl : u = y1 := Option.some.inj (((by simpa using hu) : us.toArray[i]? = some u).symm.trans p1)
    obtain rfl : v = y2 := Option.some.inj (((by simpa using hv) : vs.toArray[i]? = some v).symm.trans p2)
    obtain rfl : w' = y3 := Option.some.inj (((by simpa using hw) : ws.toArray[i]? = some w').symm.trans p3)
    refine ⟨_, rfl, W.go elts kk tpos i T { s with heap := h', toks := tk } _ _ mid fun h2 st2 kp2 => ?_⟩
    obtain ⟨g1, g2, g3, ⟨g4, _⟩, ⟨g5, _⟩, ⟨g6, _⟩⟩ := st2
    have objT : ObjOk X.prog X.w (upd H T (.tup [xs[i], ys[i], zs[i]])) h2 T (.tup [xs[i], ys[i], zs[i]]) := by
      obtain ⟨ot, et, ct, nt, dt⟩ := isT
      exact ⟨by show 3 ≤ sizeLine; decide, [u, v, w'], .cons eu (.cons ev (.cons ew .nil)), ⟨ot, kp2 _ _ apart et, ct, nt, dt⟩⟩
    have J : Inv X pins σ (upd H T (.tup [xs[i], ys[i], zs[i]])) { s with heap := h2, toks := tk } := I.turnedNew (ch := [z, TI, TO, i1, i2, i3]) (fun q ob hq e => by
      simp only [List.mem_cons, List.not_mem_nil, or_false, not_or] at hq
      have nw : q ∉ [z, TO, i1, i2, i3] := by simp [hq]
      exact kp2 q ob nw (kp q ob nw e)) hf newT objT
    refine ⟨.ref T, _, J, rfl, ⟨T, _, _, _, rfl, I.hok.fresh newT, rfl, fun l hl => by rw [I.tuple_inj hl qx]; exact List.getElem?_eq_getElem hi, fun l hl => by rw [I.tuple_inj hl qy]; exact List.getElem?_eq_getElem _, fun l hl => by rw [I.tuple_inj hl qz]; exact List.getElem?_eq_getElem _⟩, ⟨g1, g2, g3, g4, g5, g6⟩, fun q hq => ?_⟩
    have lq : q < s.heap.objs.size := by
      obtain ⟨_, _, ⟨a1, a2, a3, hTO⟩⟩ := (⟨hz, hTI, hTO⟩ : _ ∧ _ ∧ _)
      obtain ⟨o1, e1, _⟩ := t1
      obtain ⟨o2, e2, _⟩ := t2
      obtain ⟨o3, e3, _⟩ := t3
      simp only [List.mem_cons, List.not_mem_nil, or_false] at hq
      rcases hq with rfl | rfl | rfl | rfl | rfl | rfl
      · exact Heap.lt_size hz
      · exact Heap.lt_size hTI
      · exact Heap.lt_size hTO
      · exact Heap.lt_size e1
      · exact Heap.lt_size e2
      · exact Heap.lt_size e3
    rw [upd_ne (Nat.ne_of_lt (Nat.lt_of_lt_of_le lq newT))]
    exact (hf q hq).1
  done := by
    intro X hP hw hK hc i pins s σ H E I hf st hg
    subst hP hw hK
    obtain ⟨hz, hTI, hTO, t1, t2, t3⟩ := st
    obtain ⟨xs, ys, zs, ⟨qx, qy, qz⟩, lx, ly, lz⟩ := hg
    obtain ⟨us, ru, tu, _⟩ := I.tuple qx
    obtain ⟨vs, rv, tv, _⟩ := I.tuple qy
    obtain ⟨ws, rw', tw, _⟩ := I.tuple qz
    have lu := ru.length
    have lv := rv.length
    have lw := rw'.length
    have W := WalksT.zipD3 (A := X.A) S (Draws.tuple (prog := X.prog) (w := X.w) (A := X.A.in1) (I.ok.hd hc) i1 a n1 us.toArray) (Draws.tuple (prog := X.prog) (w := X.w) (A := X.A.in1) (I.ok.hd hc) i2 b n2 vs.toArray) (Draws.tuple (prog := X.prog) (w := X.w) (A := X.A.in1) (I.ok.hd hc) i3 c n3 ws.toArray)
    have en : min (min us.toArray.size vs.toArray.size) ws.toArray.size = i := by simp only [List.size_toArray]; omega
    refine W.done s _ _ ?_ fun h' tk kp => ⟨rfl, ?_⟩
    · rw [en]
      exact ⟨hz, hTI, hTO, ⟨t1, tu⟩, ⟨t2, tv⟩, ⟨t3, tw⟩⟩
    · refine I.turnedL (ch := [z, TI, TO, i1, i2, i3]) (fun q ob hq e => ?_) hf
      simp only [List.mem_cons, List.not_mem_nil, or_false, not_or] at hq
      exact kp q ob (by simp [hq]) e
  self := by
    rintro A i s Q E ⟨hz, _⟩ h
    exact wpAny_pyIter_zip hz h
def iZip3 (K : PySem.W.Frag) (ta : TA) : TI := fun σ H R => ta σ H fun vs H1 => ∃ a b c xs ys zs, vs = [.ref a, .ref b, .ref c] ∧ SqT K H1 a xs ∧ SqT K H1 b ys ∧ SqT K H1 c zs ∧ R (ItZ K a b c) H1
theorem pi_zip3 {X : Cx} {e e2 e3 : Expr} {ta : TA} {p pos tpos : Pos} {elts : List Expr} {kk : Nat} (hg : Gl X "zip") (hm : X.mg "zip" = none) (ha : PA X [e, e2, e3] ta) (hs : starEach [e, e2, e3] X.env = (false, eval e X.env) :: starEach [e2, e3] X.env := by rfl)
    (hpl : (backTo pos (starEach [e2, e3] X.env)).any (·.1) = false := by rfl) : PI X (.Tuple elts kk tpos) (.Call (.Name "zip" p) [e, e2, e3] [] pos) (iZip3 X.K ta) := by
  refine ⟨fun pins s σ H R I want => Call_ (ld_blt I hg hm PyProof.Rows.boot_zip (PyProof.Rows.callWith_type1 (thn (ha.run pos pins s σ H _ I want) fun us s1 got => ?_) hs hpl))⟩
  obtain ⟨vs, H1, J, rel, a, b, c, xs, ys, zs, ex, qa, qb, qc, q⟩ := got
  subst ex
  cases rel with
  | cons r1 rel =>
    cases rel with
    | cons r2 rel =>
      cases rel with
      | cons r3 rel =>
        cases rel
        cases r1
        cases r2
        cases r3
        obtain ⟨u1, _, t1, _⟩ := J.tuple qa
        obtain ⟨u2, _, t2, _⟩ := J.tuple qb
        obtain ⟨u3, _, t3, _⟩ := J.tuple qc
        have la : a < s1.heap.objs.size := let ⟨_, y, _⟩ := t1; Heap.lt_size y
        have lb : b < s1.heap.objs.size := let ⟨_, y, _⟩ := t2; Heap.lt_size y
        have lc : c < s1.heap.objs.size := let ⟨_, y, _⟩ := t3; Heap.lt_size y
        refine zip_begins3 (begins_tuple a u1.toArray) (begins_tuple b u2.toArray) (begins_tuple c u3.toArray) t1 t2 t3 fun h' hz hTI hTO g1 g2 g3 _ kp => wpAny_pyIter_zip hz ?_
        have J2 : Inv X pins σ H1 { s1 with heap := h' } := J.kept (t' := s1.toks) kp
        have S := zip_sep3 (N := s1.heap.objs.size) (fp1 := [a]) (fp2 := [b]) (fp3 := [c]) (fun y hy => by rw [List.mem_singleton.mp hy]; exact la) (fun y hy => by rw [List.mem_singleton.mp hy]; exact lb) (fun y hy => by rw [List.mem_singleton.mp hy]; exact lc)
        refine ⟨s1.heap.objs.size + 5, [s1.heap.objs.size + 5, s1.heap.objs.size + 3, s1.heap.objs.size + 4, s1.heap.objs.size, s1.heap.objs.size + 1, s1.heap.objs.size + 2], _, _, H1, rfl, J2, turn_zip3 S (Nat.ne_of_lt la) (Nat.ne_of_lt (Nat.lt_succ_of_lt lb)) (Nat.ne_of_lt (Nat.lt_succ_of_lt (Nat.lt_succ_of_lt lc))), ⟨hz, hTI, ⟨_, _, _, hTO⟩, ⟨_, g1, rfl, rfl⟩, ⟨_, g2, rfl, rfl⟩, ⟨_, g3, rfl, rfl⟩⟩, fun y hy => ?_, q⟩
        have ly : s1.heap.objs.size ≤ y := by
          simp only [List.mem_cons, List.not_mem_nil, or_false] at hy
          rcases hy with rfl | rfl | rfl | rfl | rfl | rfl
          · exact Nat.le_add_right _ _
          · exact Nat.le_add_right _ _
          · exact Nat.le_add_right _ _
          · exact Nat.le_refl _
          · exact Nat.le_add_right _ _
          · exact Nat.le_add_right _ _
        exact J.fpOk ly (J.hok.fresh ly)
/-! ### t[::-1] of a tuple -/
theorem fm_congr {α β : Type} {f g : α → Option β} : ∀ {l : List α}, (∀ x ∈ l, f x = g x) → l.filterMap f = l.filterMap g
  | [], _ => rfl
  | x :: l, h => by
    rw [List.filterMap_cons, List.filterMap_cons, h x (by simp), fm_congr (l := l) fun y hy => h y (List.mem_cons_of_mem _ hy)]
theorem back_pick (items : Array Value) : ((List.range items.size).filterMap fun (k : Nat) => items[((items.size : Int) - 1 + (k : Int) * (-1)).toNat]?).toArray = items.toList.reverse.toArray := by
  have e : (List.range items.size).filterMap (fun (k : Nat) => items[((items.size : Int) - 1 + (k : Int) * (-1)).toNat]?) = ((List.range items.size).map fun k => items.size - 1 - k).filterMap (items[·]?) := by
    rw [List.filterMap_map]
    refine fm_congr fun k hk => ?_
    have := List.mem_range.mp hk
    show _ = items[items.size - 1 - k]?
    congr 1
    omega
  rw [e, PySem.W.krv_range, List.filterMap_reverse, PySem.W.krv_all]
section
variable {P : Program} {w : World} {A : PySem.Around} {E : Value → Shared → Prop} {s : Shared}
theorem applied_back {sl : Addr} {vk : Value} {n : Nat} {Q : Int × Int × Nat → Shared → Prop} (hs : s.heap.IsSliceOf sl .none .none vk) (pk : IsPart vk (some (-1))) (h : Q ((n : Int) - 1, -1, n) s) : wpAny (model P w) A (Builtin.Slice.sliceApplied (.ref sl) (pure (n : Int))) Q E s := by
  obtain ⟨os, look, _, flds⟩ := id hs
  unfold Builtin.Slice.sliceApplied Builtin.Slice.sliceFields
  refine wpAny_bind (wpAny_bind (wpAny_field look flds (x := .none) rfl (wpAny_bind (wpAny_field look flds (x := .none) rfl (wpAny_bind (wpAny_field look flds (x := vk) rfl (wpAny_pure ?_)))))))
  refine wpAny_bind (HT.slicePart_ pk ?_)
  show wpAny _ _ (if ((-1 : Int) == 0) = true then _ else _) _ _ s
  rw [if_neg (by decide)]
  refine wpAny_bind (HT.slicePart_ .none (wpAny_bind (HT.slicePart_ .none (wpAny_bind (wpAny_pure ?_)))))
  have pl : Builtin.Slice.slicePlaces ((n : Int) - 1) (-1) (-1) = n := by
    unfold Builtin.Slice.slicePlaces
    rw [if_neg (by decide)]
    by_cases z : (n : Int) - 1 > -1
    · rw [if_pos z, show (-(-1) : Int) = 1 from by decide, Int.ediv_one]
      omega
    · rw [if_neg z]
      omega
  show wpAny _ _ (pure ((n : Int) - 1, (-1 : Int), Builtin.Slice.slicePlaces ((n : Int) - 1) (-1) (-1))) _ _ s
  rw [pl]
  exact wpAny_pure h
theorem getItem_back {t sl : Addr} {items : Array Value} {vk : Value} {Q : Value → Shared → Prop} (ht : IsTup s.heap t items) (hs : s.heap.IsSliceOf sl .none .none vk) (pk : IsPart vk (some (-1))) (hsz : items.size ≤ sizeLine)
    (h : Q (.ref s.heap.objs.size) { s with heap := s.heap.push { cls := .type "tuple", data := .seq items.toList.reverse.toArray } }) : wpAny (model P w) A (getItem (.ref t) (.ref sl)) Q E s := by
  have small : sizeOk (.seq items.toList.reverse.toArray) := by
    show items.toList.reverse.toArray.size ≤ sizeLine
    rw [List.size_toArray, List.length_reverse, Array.length_toList]
    exact hsz
  obtain ⟨os, look, kind, _⟩ := id hs
  have isSl : s.TypeIs (.ref sl) "slice" := ⟨os, look, kind⟩
  unfold getItem
  try with_reducible refine wpAny_holding ?_
  first | refine wpAny_bind (wpAny_pure ?_) | skip
  refine wpAny_bind (wpAny_sequenceKey ht.typeIs (by decide) ?_)
  refine wpAny_bind (wpAny_callSpecial?_slot (name := Str.ofString "__getitem__") ht.typeIs PyProof.Rows.slot_tuple_getitem (wpAny_call_entry PyProof.Rows.slot_tuple_getitem ht.typeIs PySem.F.entry_tuple_getitem ?_ (PySem.F.args_tuple_getitem_2 _ _)))
  show wpAny _ _ (Builtin.Tuple.tupleItemsOf (.ref t) >>= _) _ _ s
  refine wpAny_bind (tupleItemsOf_ ht ?_)
  refine wpAny_bind (wpAny_typeOf isSl ?_)
  rw [if_pos (by decide)]
  refine wpAny_bind (applied_back hs pk ?_)
  have no : ¬ (((items.size : Int) - 1 == 0 && (-1 : Int) == 1 && items.size == items.size) = true) := by
    intro z
    rw [Bool.and_eq_true, Bool.and_eq_true] at z
    exact absurd z.1.2 (by decide)
  show wpAny _ _ (if ((items.size : Int) - 1 == 0 && (-1 : Int) == 1 && items.size == items.size) = true then _ else _) _ _ s
  rw [if_neg no, back_pick]
  first
    | exact wpAny_bind (m := Builtin.Tuple.tupleExact _) (wpAny_newObj_type (wpAny_pure ⟨_, rfl, wpAny_pure h⟩) small)
    | exact wpAny_bind (wpAny_bind (m := Builtin.Tuple.tupleExact _) (wpAny_newObj_type (wpAny_pure (wpAny_pure ⟨_, rfl, wpAny_pure h⟩)) small))
    | exact wpAny_bind (m := Builtin.Tuple.tupleExact _) (wpAny_newObj_type (wpAny_bind (wpAny_pure (wpAny_pure ⟨_, rfl, wpAny_pure h⟩))) small)
end
def tRevT (K : PySem.W.Frag) (te : TE) : TE := fun σ H Q => te σ H fun x H1 => ∃ a xs, x = .ref a ∧ SqT K H1 a xs ∧ ∀ p, H1 p = none → Q (.ref p) (upd H1 p (.tup xs.reverse))
theorem pe_revT {X : Cx} {e : Expr} {te : TE} {k : Nat} {p1 p2 p3 pos : Pos} (he : PE X e te) : PE X (.Subscript e (.Slice none none (some (.UnaryOp .USub (.Constant (.int 1) k p1) p2)) p3) pos) (tRevT X.K te) := by
  refine ⟨fun pins s σ H Q I want => Subscript_ (thn (he.run pins s σ H _ I want) fun v s1 got => ?_)⟩
  obtain ⟨x, H1, I1, r1, a, xs, ex, hx, q⟩ := got
  subst ex
  obtain rfl : v = Value.ref a := r1
  have step : PO X (some (.UnaryOp .USub (.Constant (.int 1) k p1) p2)) (tPart (tUn (rU fun i => .int (-i)) (tC (.int 1)))) := po_some (pe_un un_neg pe_int)
  refine wpAny_Slice (thn (po_none.run pins s1 σ H1 (fun o H2 => o = none ∧ H2 = H1) I1 ⟨rfl, rfl⟩) fun vl s2 got2 => ?_)
  obtain ⟨_, _, I2, pl, rfl, rfl⟩ := got2
  refine thn (po_none.run pins s2 σ _ (fun o H3 => o = none ∧ H3 = _) I2 ⟨rfl, rfl⟩) fun vu s3 got3 => ?_
  obtain ⟨_, _, I3, pu, rfl, rfl⟩ := got3
  refine thn (step.run pins s3 σ _ (fun o H4 => o = some (-1) ∧ H4 = _) I3 ⟨1, rfl, -1, rfl, rfl, rfl⟩) fun vk s4 got4 => ?_
  obtain ⟨_, H4, I4, pk, rfl, rfl⟩ := got4
  cases pl
  cases pu
  have I5 : Inv X pins σ H4 { s4 with heap := s4.heap.push { cls := .type "slice", data := .fields #[.none, .none, vk] } } := I4.kept (t' := s4.toks) fun b ob z => Heap.get?_push_of_some _ z
  obtain ⟨its, rel, tup, small⟩ := I5.tuple hx
  have hlen := rel.length
  show wpAny (model X.prog X.w) X.A (subscriptTail e (.Slice none none (some (.UnaryOp .USub (.Constant (.int 1) k p1) p2)) p3) (.ref a) (.ref s4.heap.objs.size)) (EP X pins σ Q) X.xe _
  refine tail_any (ops := [.ref a, .ref s4.heap.objs.size]) tup.typeIs PyProof.Rows.slot_tuple_getitem.lookup ?_ (by with_unfolding_all rfl)
  refine getItem_back tup (Heap.IsSliceOf.new _ .none .none vk) pk (by rw [List.size_toArray]; omega) ?_
  refine ⟨.ref _, _, I5.laid (t' := s4.toks) (o := .tup xs.reverse) (fun b ob z => Heap.get?_push_of_some _ z) (Nat.le_refl _) ?_, rfl, q _ (I5.hok.fresh (Nat.le_refl _))⟩
  exact ⟨by rw [List.length_reverse]; exact small, _, rel.reverse, IsTup.new _ _⟩
/-! ### what is asked of rings -/
def wbelow (lim : Int) : V → Bool
  | .int i => decide (0 ≤ i) && decide (i < lim)
  | _ => false
def unl (lim : Int) : Option (List V) → Bool
  | some xs => xs.all (wbelow lim) && decide xs.Nodup
  | none => false
theorem ints_of {lim : Int} : ∀ {xs : List V}, xs.all (wbelow lim) = true → ∃ ns : List Int, xs = ns.map V.int ∧ ∀ n ∈ ns, 0 ≤ n ∧ n < lim
  | [], _ => ⟨[], rfl, fun n hn => by simp at hn⟩
  | x :: xs, h => by
    rw [List.all_cons, Bool.and_eq_true] at h
    obtain ⟨ns, e, h2⟩ := ints_of h.2
    cases x with
    | int i =>
      have h1 : (decide (0 ≤ i) && decide (i < lim)) = true := h.1
      rw [Bool.and_eq_true, decide_eq_true_iff, decide_eq_true_iff] at h1
      refine ⟨i :: ns, by rw [e]; rfl, fun n hn => ?_⟩
      rcases List.mem_cons.mp hn with z | z
      · rw [z]
        exact h1
      · exact h2 n z
    | _ => exact absurd (show false = true from h.1) Bool.false_ne_true
theorem nodup_ints {ns : List Int} : (ns.map V.int).Nodup ↔ ns.Nodup := by
  unfold List.Nodup
  rw [List.pairwise_map]
  exact ⟨fun h => h.imp fun {a b} g z => g (by rw [z]), fun h => h.imp fun {a b} g z => g (V.int.inj z)⟩
theorem eqv_two (x y u v : Int) : PyData.eqv (intsD [x, y]) (intsD [u, v]) = (decide (u = x) && decide (v = y)) := by
  show PyData.eqv (.tuple [.int x, .int y]) (.tuple [.int u, .int v]) = _
  rw [PyData.eqv, PyData.eqvAll, PyData.eqv, PyData.eqvAll, PyData.eqv, PyData.eqvAll, Bool.and_true]
  rw [Bool.eq_iff_iff, Bool.and_eq_true, Bool.and_eq_true, beq_iff_eq, beq_iff_eq, decide_eq_true_iff, decide_eq_true_iff]
  exact ⟨fun h => ⟨h.1.symm, h.2.symm⟩, fun h => ⟨h.1.symm, h.2.symm⟩⟩
def spBelow : Sp := fun vs H Q _ => ∃ lim v, vs = [.int lim, v] ∧ Kn H v ∧ Q (.bl (wbelow lim v)) H
def spUnlike (Ps : List Addr) : Sp := fun vs H Q _ => ∃ lim v, vs = [.int lim, v] ∧ Kn H v ∧ (∀ xs, parts H v = some xs → (∀ x ∈ xs, Kn H x) ∧ xs.length ≤ 1000) ∧ Tabs Ps H ∧ ∀ H', Kt Ps H H' → Q (.bl (unl lim (parts H v))) H'
def joinB (t : Tie) (a b : Int) : Bool := (decide (t.one = a) && decide (t.other = b)) || (decide (t.one = b) && decide (t.other = a))
def spJoins : Sp := fun vs H Q _ => ∃ (c : Addr) (a b : Int) (t : Tie), vs = [.ref c, .int a, .int b] ∧ H c = some (.tup [.int t.one, .int t.other, .str (kindS t.foe)]) ∧ ∀ H', Same H H' → Q (.bl (joinB t a b)) H'
section
variable {P : Program} {w : World} {K : PySem.W.Frag} {mg : Str → Option Value} {base : Heap}
theorem ok_is_whole_below {f : Addr} {fd : FuncData} (F : Fun K "is_whole_below" "is_whole_below" s_is_whole_below f fd) (D1 : Df P w K mg base 1 "is_whole" ["thing"] spWhole) : FnOk P w K mg base CX0 2 f fd ["limit", "thing"] spBelow := by
  obtain ⟨f1, fd1, G1, g1, k1, b1⟩ := D1
  refine F.ok sc_is_whole_below (fun vs H Q E h => ?_) (fun cdv A outer s H vs Q E hr h => ?_)
  · obtain ⟨lim, v, rfl, _⟩ := h
    rfl
  · obtain ⟨lim, v, rfl, hk, q⟩ := h
    refine ⟨_, (pss_one (ps_ret (pe_and (pe_call G1 hr (by rfl) g1 k1 b1 .nil pass0 (pa_cons (pv 1) pa_nil)) (pe_one (pe_chain op_le op_lt pe_int (pv 1) (pv 0)))))), ?_⟩
    refine ⟨v, rfl, v, rfl, hk, _, rfl, ?_⟩
    cases v with
    | int i =>
      refine ⟨.int i, rfl, 0, i, rfl, rfl, _, rfl, ?_⟩
      have e : wbelow lim (.int i) = (decide (0 ≤ i) && decide (i < lim)) := rfl
      rw [e] at q
      by_cases h0 : (0 : Int) ≤ i
      · rw [decide_eq_true h0] at q ⊢
        rw [Bool.true_and] at q
        exact ⟨.int lim, rfl, i, lim, rfl, rfl, q⟩
      · rw [decide_eq_false h0] at q ⊢
        exact q
    | _ => exact q
theorem ok_are_unlike {f c Pt : Addr} {fd : FuncData} {Ps : List Addr} (F : FunC K "are_unlike_below" "are_unlike_below" s_are_unlike_below f fd c) (TB : GxR.TabB base mg c Pt) (hPt : Pt ∈ Ps) (M : Free mg) (hall : mg "all" = none) (hset : mg "set" = none) (D1 : Df P w K mg base 2 "is_whole_below" ["limit", "thing"] spBelow) : FnOk P w K mg base CX0 4 f fd ["limit", "thing"] (spUnlike Ps) := by
  obtain ⟨f1, fd1, G1, g1, k1, b1⟩ := D1
  refine F.ok sc_are_unlike_below (fun vs H Q E h => ?_) (fun A outer s H vs Q E hr h => ?_)
  · obtain ⟨lim, v, rfl, _⟩ := h
    rfl
  · obtain ⟨lim, v, rfl, hk, hsub, hT, q⟩ := h
    refine ⟨_, (pss_cons (ps_if (pt_not (pt_val (pe_callB call_isi (by rfl) M.isinstance (by decide +kernel) (pa_cons (pv 1) (pa_cons (pe_bltn (v := .ty "tuple") (by rfl) M.tuple (by decide +kernel) rfl) pa_nil)))))
        (pss_one (ps_ret pe_bl))
        pss_nil)
      (pss_one (ps_ret (pe_and (pe_all (k := 2) (own := [("number", 2)]) (g := gName 2) hr TB rfl rfl sc_are_unlike_below.nd (by rfl) hall (pi_tup (pv 1)) (blkOk_by (N := N_are_unlike_below) (sc := defScope s_are_unlike_below) (own := [("number", 2)]) (by decide +kernel)) ⟨rfl, by decide +kernel, by decide +kernel⟩ (show (".0" : Str) ∉ N_are_unlike_below by decide +kernel)
        (fun _ _ _ _ _ _ _ => pg_name (i := 2) sc_are_unlike_below.nd rfl (.inl rfl)) (fun _ _ _ _ _ _ _ hr' => pe_call G1 hr' (by rfl) g1 k1 b1 .nil pass0 (pa_cons (pv 0) (pa_cons (pv 2) pa_nil)))) (pe_one (pe_cmpR op_eq (pe_lenSetT (by rfl) M.len (by rfl) hset (pv 1)) (pe_callB call_len_seq (by rfl) M.len PySem.boot_len (pa_cons (pv 1) pa_nil)) (nomark _))))))), ?_⟩
    obtain ⟨t1, h1, e1⟩ := kn_tup (K := K) hk
    refine ⟨v, rfl, v, _, t1, _, _, rfl, .ty "tuple", h1, e1, _, rfl, ?_⟩
    cases hi : isT H v with
    | false =>
      rw [parts_none hi] at q
      exact q _ (Kt.refl hT)
    | true =>
      obtain ⟨a, xs, rfl, ea⟩ := isT_at hi
      rw [parts_of' ea] at q
      obtain ⟨kn, few⟩ := hsub xs (parts_of' ea)
      refine ⟨.ref a, rfl, a, rfl, ⟨_, SqT.of ea⟩, hT Pt hPt, fun i m H' => i + m = xs.length ∧ Kt Ps H H' ∧ (xs.take i).all (wbelow lim) = true, fun H2 hH2 => ⟨xs.length, by omega, Kt.tabbed hT hPt hH2, rfl⟩, fun i m H' hw => ?_⟩
      obtain ⟨em, kt, hal⟩ := hw
      have ea' := kt.tup hT ea
      by_cases hi : i < xs.length
      · refine .inr ⟨⟨_, _, SqT.of ea', List.getElem?_eq_getElem hi⟩, fun H3 => Kt Ps H H3 ∧ (xs.take (i + 1)).all (wbelow lim) = true, fun H3 n3 => ⟨m - 1, by omega, by omega, n3.1, n3.2⟩, fun x H3 hy => ?_⟩
        obtain ⟨rfl, fy⟩ := hy
        have ex : xs[i]? = some x := fy _ (SqT.of ea')
        refine ⟨rfl, .int lim, rfl, x, rfl, lim, x, rfl, kt.kn hT (kn x (List.mem_of_getElem? ex)), _, rfl, ?_⟩
        have step : (xs.take (i + 1)).all (wbelow lim) = wbelow lim x := by
          rw [List.take_add_one, ex, List.all_append, hal]
          simp
        cases hb : wbelow lim x with
        | true => exact ⟨kt, step.trans hb⟩
        | false =>
          have no : xs.all (wbelow lim) = false := by
            rw [Bool.eq_false_iff]
            intro z
            rw [List.all_eq_true] at z
            rw [z x (List.mem_of_getElem? ex)] at hb
            cases hb
          refine ⟨_, rfl, ?_⟩
          have e : unl lim (some xs) = false := by
            show (xs.all (wbelow lim) && decide xs.Nodup) = false
            rw [no, Bool.false_and]
          rw [e] at q
          exact q _ kt
      · refine .inl ⟨⟨_, SqT.of ea', by omega⟩, _, rfl, ?_⟩
        rw [List.take_of_length_le (by omega)] at hal
        obtain ⟨ns, rfl, _⟩ := ints_of hal
        refine ⟨.ref a, rfl, a, ns, rfl, SqT.of ea', by rw [List.length_map] at few; omega, fun cnt hc => ⟨.ref a, rfl, a, _, rfl, .inr (SqT.of ea'), rfl, ?_⟩⟩
        have e : unl lim (some (ns.map V.int)) = decide (V.int (cnt : Int) = V.int ((ns.map V.int).length : Int)) := by
          show ((ns.map V.int).all (wbelow lim) && decide (ns.map V.int).Nodup) = _
          rw [hal, Bool.true_and, decide_eq_decide, nodup_ints, ← hc, List.length_map]
          constructor
          · intro z
            rw [z]
          · intro z
            have := V.int.inj z
            omega
        rw [← e]
        exact q _ kt
theorem ok_joins {f : Addr} {fd : FuncData} (F : Fun K "joins" "joins" s_joins f fd) : FnOk P w K mg base CX0 1 f fd ["tie", "one", "other"] spJoins := by
  refine F.ok sc_joins (fun vs H Q E h => ?_) (fun cdv A outer s H vs Q E hr h => ?_)
  · obtain ⟨c, a, b, t, rfl, _⟩ := h
    rfl
  · obtain ⟨c, a, b, t, rfl, hc, q⟩ := h
    have hu := room65 hr
    refine ⟨_, (pss_one (ps_ret (pe_cmpR (op_inTup hu) (pe_tup (pa_cons (pe_ix ix_tup (pv 0) pe_int (fun _ _ => rfl)) (pa_cons (pe_ix ix_tup (pv 0) pe_int (fun _ _ => rfl)) pa_nil))) (pe_tup (pa_cons (pe_tup (pa_cons (pv 1) (pa_cons (pv 2) pa_nil))) (pa_cons (pe_tup (pa_cons (pv 2) (pa_cons (pv 1) pa_nil))) pa_nil))) rfl))), ?_⟩
    refine ⟨.ref c, rfl, c, _, 0, _, rfl, rfl, SqT.of hc, rfl, .ref c, rfl, c, _, 1, _, rfl, rfl, SqT.of hc, rfl, by show 2 ≤ sizeLine; decide, fun p1 n1 => ?_⟩
    refine ⟨.int a, rfl, .int b, rfl, by show 2 ≤ sizeLine; decide, fun p2 n2 => ⟨.int b, rfl, .int a, rfl, by show 2 ≤ sizeLine; decide, fun p3 n3 => ⟨by show 2 ≤ sizeLine; decide, fun p4 n4 => ?_⟩⟩⟩
    have s4 := same_new (o := .tup [.ref p2, .ref p3]) n4
    have s3 := (same_new (o := .tup [.int b, .int a]) n3).trans s4
    have s2 := (same_new (o := .tup [.int a, .int b]) n2).trans s3
    have s1 := (same_new (o := .tup [.int t.one, .int t.other]) n1).trans s2
    refine ⟨intsD [t.one, t.other], [intsD [a, b], intsD [b, a]], IntsV.dp ⟨p1, rfl, s2 _ _ upd_same⟩, .tup (SqT.of upd_same) (.cons (IntsV.dp ⟨p2, rfl, s3 _ _ upd_same⟩) (.cons (IntsV.dp ⟨p3, rfl, s4 _ _ upd_same⟩) .nil)), shaped_intsD _, rfl, ?_⟩
    have e : ([intsD [a, b], intsD [b, a]].any fun z => PyData.eqv z (intsD [t.one, t.other])) = joinB t a b := by
      show (PyData.eqv (intsD [a, b]) (intsD [t.one, t.other]) || (PyData.eqv (intsD [b, a]) (intsD [t.one, t.other]) || false)) = joinB t a b
      rw [eqv_two, eqv_two, Bool.or_false]
      rfl
    rw [e]
    exact q _ s1
end
theorem tieAt_get {ts : List Tie} {i : Int} (h0 : 0 ≤ i) (h1 : i < ts.length) : ts[i.toNat]? = some (tieAt ts i) := by
  have h : i.toNat < ts.length := by omega
  unfold tieAt
  rw [List.getD_eq_getElem?_getD, List.getElem?_eq_getElem h]
  rfl
/-- the ties join the places, each with the one behind it -/
def ringI (ts : List Tie) (ps es : List Int) : Bool := (List.range es.length).all fun k => joinB (tieAt ts (es.getD k 0)) (ps.getD k 0) (ps.getD ((k + 1) % ps.length) 0)
def ringP (n : Int) (ts : List Tie) : Option (List V) → Option (List V) → Bool
  | some ps, some es => unl n (some ps) && (unl ts.length (some es) && (decide (2 ≤ ps.length) && (decide (ps.length = es.length) && ringI ts (ps.map toI) (es.map toI))))
  | _, _ => false
def ringB (H : Hp) (n : Int) (ts : List Tie) (v : V) : Bool := match parts H v with
  | some [p, t] => ringP n ts (parts H p) (parts H t)
  | _ => false
def Part2 (H : Hp) (x : V) : Prop := Kn H x ∧ ∀ ys, parts H x = some ys → (∀ y ∈ ys, Kn H y) ∧ ys.length ≤ 1000
def Thing2 (H : Hp) (v : V) : Prop := Kn H v ∧ ∀ xs, parts H v = some xs → ∀ x ∈ xs, Part2 H x
theorem Part2.kt {Ps : List Addr} {H H' : Hp} (k : Kt Ps H H') (t : Tabs Ps H) {v : V} (h : Part2 H v) : Part2 H' v :=
  ⟨k.kn t h.1, fun ys e => by
    rw [kt_parts k t h.1] at e
    obtain ⟨h1, h2⟩ := h.2 ys e
    exact ⟨fun y hy => k.kn t (h1 y hy), h2⟩⟩
def spRing (Ps : List Addr) : Sp := fun vs H Q _ => ∃ (wv : V) (n : Int) (ts : List Tie) (v : V), vs = [wv, v] ∧ WebAt H wv n ts ∧ WebOk n ts ∧ Thing2 H v ∧ Tabs Ps H ∧ ∀ H', Kt Ps H H' → Q (.bl (ringB H n ts v)) H'
theorem behind {ns : List Int} {k : Nat} (h2 : 2 ≤ ns.length) (hk : k < ns.length) : (ns.drop 1 ++ ns.take 1)[k]? = some (ns.getD ((k + 1) % ns.length) 0) := by
  by_cases e : k + 1 < ns.length
  · rw [List.getElem?_append_left (by rw [List.length_drop]; omega), List.getElem?_drop, Nat.mod_eq_of_lt e, show 1 + k = k + 1 from by omega, List.getD_eq_getElem?_getD, List.getElem?_eq_getElem e]
    rfl
  · have e2 : k + 1 = ns.length := by omega
    rw [List.getElem?_append_right (by rw [List.length_drop]; omega), List.length_drop, show k - (ns.length - 1) = 0 from by omega, e2, Nat.mod_self, List.getElem?_take_of_lt (by decide), List.getD_eq_getElem?_getD, List.getElem?_eq_getElem (by omega)]
    rfl
theorem cut1a {xs : List V} (h : 1 ≤ xs.length) : cutV xs (some 1) none = xs.drop 1 := by
  unfold cutV
  rw [HT.sIx_none, show (some (1 : Int)) = some ((1 : Nat) : Int) from rfl, HT.sIx_nat, Nat.min_eq_left h]
  exact List.take_of_length_le (by rw [List.length_drop]; omega)
theorem cut1b {xs : List V} (h : 1 ≤ xs.length) : cutV xs none (some 1) = xs.take 1 := by
  unfold cutV
  rw [HT.sIx_none, show (some (1 : Int)) = some ((1 : Nat) : Int) from rfl, HT.sIx_nat, Nat.min_eq_left h, List.drop_zero]
section
variable {P : Program} {w : World} {K : PySem.W.Frag} {mg : Str → Option Value} {base : Heap}
set_option maxHeartbeats 4000000 in
theorem ok_ring_holds {f c Pt : Addr} {fd : FuncData} {Ps : List Addr} (F : FunC K "ring_holds" "ring_holds" s_ring_holds f fd c) (TB : GxR.TabB base mg c Pt) (hPt : Pt ∈ Ps) (M : Free mg) (hall : mg "all" = none) (mz : mg "zip" = none) (D1 : Df P w K mg base 1 "is_tuple_of" ["length", "thing"] spTupleOf)
    (D2 : Df P w K mg base 4 "are_unlike_below" ["limit", "thing"] (spUnlike Ps)) (D3 : Df P w K mg base 1 "joins" ["tie", "one", "other"] spJoins) : FnOk P w K mg base CX0 5 f fd ["web", "thing"] (spRing Ps) := by
  obtain ⟨f1, fd1, G1, g1, k1, b1⟩ := D1
  obtain ⟨f2, fd2, G2, g2, k2, b2⟩ := D2
  obtain ⟨f3, fd3, G3, g3, k3, b3⟩ := D3
  refine F.ok sc_ring_holds (fun vs H Q E h => ?_) (fun A outer s H vs Q E hr h => ?_)
  · obtain ⟨wv, n, ts, v, rfl, _⟩ := h
    rfl
  · obtain ⟨wv, n, ts, v, rfl, ⟨wa, wb, us, rfl, hwa, hwb, hp⟩, ok, ⟨hk, hsub⟩, hT, q⟩ := h
    have hr1 : Room 1 _ := hr.mono (by decide : 1 ≤ 4)
    refine ⟨_, (pss_cons (ps_if (pt_not (pt_val (pe_call G1 hr1 (by rfl) g1 k1 b1 .nil pass0 (pa_cons pe_int (pa_cons (pv 1) pa_nil)))))
        (pss_one (ps_ret pe_bl))
        pss_nil)
      (pss_cons (ps_asg (pv 1) (pg_tup rfl (pgs_cons (pg_name (i := 2) sc_ring_holds.nd rfl (.inl rfl)) (pgs_cons (pg_name (i := 3) sc_ring_holds.nd rfl (.inl rfl)) pgs_nil))))
      (pss_cons (ps_if (PW.pt (pw_or (pt_not (pt_val (pe_call G2 hr (by rfl) g2 k2 b2 .nil pass0 (pa_cons (pe_ix ix_tup (pv 0) pe_int (fun _ _ => rfl)) (pa_cons (pv 2) pa_nil))))) (pw_or1 (pt_not (pt_val (pe_call G2 hr (by rfl) g2 k2 b2 .nil pass0 (pa_cons (pe_callB call_len_seq (by rfl) M.len PySem.boot_len (pa_cons (pe_ix ix_tup (pv 0) pe_int (fun _ _ => rfl)) pa_nil)) (pa_cons (pv 3) pa_nil))))))))
        (pss_one (ps_ret pe_bl))
        pss_nil)
      (pss_cons (ps_if (PW.pt (pw_or (pt_cmpR op_lt (pe_callB call_len_seq (by rfl) M.len PySem.boot_len (pa_cons (pv 2) pa_nil)) pe_int (nomark _)) (pw_or1 (pt_cmpR op_ne (pe_callB call_len_seq (by rfl) M.len PySem.boot_len (pa_cons (pv 2) pa_nil)) (pe_callB call_len_seq (by rfl) M.len PySem.boot_len (pa_cons (pv 3) pa_nil)) (nomark _)))))
        (pss_one (ps_ret pe_bl))
        pss_nil)
      (pss_cons (ps_set (i := 4) sc_ring_holds.nd rfl (.inl rfl) (pe_op op_catU (pe_slice sl_tupU (pv 2) (po_some pe_int) po_none) (pe_slice sl_tupU (pv 2) po_none (po_some pe_int))))
      (pss_one (ps_ret (pe_all (k := 3) (own := [("tie", 5), ("one", 6), ("other", 7)]) (g := gTup K 3 (gCons (gName 5) (gCons (gName 6) (gCons (gName 7) gNil)))) hr TB rfl rfl sc_ring_holds.nd (by rfl) hall (pi_zip3 (by rfl) mz (pa_cons (pv 3) (pa_cons (pv 2) (pa_cons (pv 4) pa_nil)))) (blkOk_by (N := N_ring_holds) (sc := defScope s_ring_holds) (own := [("tie", 5), ("one", 6), ("other", 7)]) (by decide +kernel)) ⟨rfl, by decide +kernel, by decide +kernel⟩ (show (".0" : Str) ∉ N_ring_holds by decide +kernel)
        (fun _ _ _ _ _ _ _ => pg_tup rfl (pgs_cons (pg_name (i := 5) sc_ring_holds.nd rfl (.inl rfl)) (pgs_cons (pg_name (i := 6) sc_ring_holds.nd rfl (.inl rfl)) (pgs_cons (pg_name (i := 7) sc_ring_holds.nd rfl (.inl rfl)) pgs_nil)))) (fun _ _ _ _ _ _ _ hr' => pe_call G3 (hr'.mono (by decide : 1 ≤ 3)) (by rfl) g3 k3 b3 .nil pass0 (pa_cons (pe_ix (r := rIxT K) ix_tup (pe_ix (r := rIxT K) ix_tup (pv 0) pe_int (fun _ _ => rfl)) (pv 5) (fun _ _ => rfl)) (pa_cons (pv 6) (pa_cons (pv 7) pa_nil)))))))))))), ?_⟩
    have hlen : us.length = ts.length := Paired.length hp
    have few := ok.few
    -- a pair
    refine ⟨v, rfl, 2, v, rfl, hk, _, rfl, ?_⟩
    cases hpv : parts H v with
    | none =>
      have e1 : lenIs H v 2 = false := by unfold lenIs; rw [hpv]
      have e2 : ringB H n ts v = false := by unfold ringB; rw [hpv]
      rw [e1]
      rw [e2] at q
      exact q _ (Kt.refl hT)
    | some xs =>
    obtain ⟨a, rfl, ea⟩ := parts_at hpv
    have e1 : lenIs H (.ref a) 2 = decide ((xs.length : Int) = 2) := by unfold lenIs; rw [hpv]
    rw [e1]
    match xs, hpv, ea, hsub xs hpv with
    | [], hpv, ea, _ =>
      have e2 : ringB H n ts (.ref a) = false := by unfold ringB; rw [hpv]
      rw [e2] at q
      exact q _ (Kt.refl hT)
    | [x], hpv, ea, _ =>
      have e2 : ringB H n ts (.ref a) = false := by unfold ringB; rw [hpv]
      rw [e2] at q
      exact q _ (Kt.refl hT)
    | x :: y :: z :: r, hpv, ea, _ =>
      have e2 : ringB H n ts (.ref a) = false := by unfold ringB; rw [hpv]
      rw [e2] at q
      rw [decide_eq_false (by simp only [List.length_cons]; omega)]
      exact q _ (Kt.refl hT)
    | [pv', tv], hpv, ea, hxs =>
    have e2 : ringB H n ts (.ref a) = ringP n ts (parts H pv') (parts H tv) := by unfold ringB; rw [hpv]
    rw [e2] at q
    have hP := hxs pv' (by simp)
    have hQ := hxs tv (by simp)
    clear e1 e2 hxs hsub
    refine ⟨.ref a, rfl, a, _, rfl, SqT.of ea, rfl, _, _, rfl, _, _, rfl, rfl, ?_⟩
    -- unlike places
    refine ⟨.ref wa, rfl, wa, _, 0, .int n, rfl, rfl, SqT.of hwa, rfl, pv', rfl, n, pv', rfl, hP.1, hP.2, hT, fun H1 k1' => ⟨_, rfl, ?_⟩⟩
    cases hu1 : unl n (parts H pv') with
    | false =>
      have e : ringP n ts (parts H pv') (parts H tv) = false := by
        cases h1 : parts H pv' with
        | none => rfl
        | some ps =>
          cases h2 : parts H tv with
          | none => rfl
          | some es =>
            rw [h1] at hu1
            show (unl n (some ps) && _) = false
            rw [hu1, Bool.false_and]
      rw [e] at q
      exact q _ k1'
    | true =>
    -- unlike ties
    have hwa1 := k1'.tup hT hwa
    have hwb1 := k1'.tup hT hwb
    have hQ1 := hQ.kt k1' hT
    refine ⟨.ref wa, rfl, wa, _, 1, .ref wb, rfl, rfl, SqT.of hwa1, rfl, wb, us, rfl, .inr (SqT.of hwb1), tv, rfl, _, tv, rfl, hQ1.1, hQ1.2, k1'.tab, fun H2 k2' => ⟨_, rfl, ?_⟩⟩
    rw [kt_parts k1' hT hQ.1, hlen]
    have k12 := k1'.trans k2'
    cases hu2 : unl ts.length (parts H tv) with
    | false =>
      have e : ringP n ts (parts H pv') (parts H tv) = false := by
        cases h1 : parts H pv' with
        | none => rfl
        | some ps =>
          cases h2 : parts H tv with
          | none => rfl
          | some es =>
            rw [h1] at hu1
            rw [h2] at hu2
            show (unl n (some ps) && (unl ts.length (some es) && _)) = false
            rw [hu2, Bool.false_and, Bool.and_false]
      rw [e] at q
      exact q _ k12
    | true =>
    cases h1 : parts H pv' with
    | none => rw [h1] at hu1; cases hu1
    | some ps =>
    cases h2 : parts H tv with
    | none => rw [h2] at hu2; cases hu2
    | some es =>
    rw [h1] at hu1
    rw [h2] at hu2
    rw [h1, h2] at q
    obtain ⟨pa, rfl, epa⟩ := parts_at h1
    obtain ⟨ta, rfl, eta⟩ := parts_at h2
    have epa2 := k12.tup hT epa
    have eta2 := k12.tup hT eta
    have er : ringP n ts (some ps) (some es) = (decide (2 ≤ ps.length) && (decide (ps.length = es.length) && ringI ts (ps.map toI) (es.map toI))) := by
      show (unl n (some ps) && (unl ts.length (some es) && _)) = _
      rw [hu1, hu2, Bool.true_and, Bool.true_and]
    rw [er] at q
    -- lengths
    refine ⟨.ref pa, rfl, pa, ps, rfl, .inr (SqT.of epa2), _, 2, rfl, rfl, _, rfl, ?_⟩
    by_cases l2 : 2 ≤ ps.length
    · rw [decide_eq_false (show ¬ ((ps.length : Int) < 2) by omega)]
      rw [decide_eq_true l2, Bool.true_and] at q
      refine ⟨.ref pa, rfl, pa, ps, rfl, .inr (SqT.of epa2), .ref ta, rfl, ta, es, rfl, .inr (SqT.of eta2), rfl, _, rfl, ?_⟩
      by_cases le : ps.length = es.length
      · rw [show decide (V.int (ps.length : Int) = V.int (es.length : Int)) = true from decide_eq_true (by rw [le])]
        rw [decide_eq_true le, Bool.true_and] at q
        have ha1 : ps.all (wbelow n) = true := (Bool.and_eq_true_iff.mp hu1).1
        have ha2 : es.all (wbelow ts.length) = true := (Bool.and_eq_true_iff.mp hu2).1
        obtain ⟨pn, rfl, hpn⟩ := ints_of ha1
        obtain ⟨en, rfl, hen⟩ := ints_of ha2
        rw [toI_map, toI_map] at q
        rw [List.length_map] at l2 le
        rw [List.length_map] at le
        have lps : pn.length ≤ 1000 := by have := (hP.2 _ h1).2; rw [List.length_map] at this; exact this
        -- followers
        refine ⟨.ref pa, rfl, 1, rfl, pa, _, rfl, epa2, fun r1 H3 s3 h3 => ⟨.ref pa, rfl, 1, rfl, pa, _, rfl, s3 _ _ epa2, fun r2 H4 s4 h4 => ⟨r1, r2, _, _, rfl, rfl, s4 _ _ h3, h4, ?_, fun r3 H5 s5 h5 => ?_⟩⟩⟩
        · have z1 := cutV_length (pn.map V.int) (some 1) none
          have z2 := cutV_length (pn.map V.int) none (some 1)
          rw [List.length_map] at z1 z2
          omega
        rw [cut1a (by rw [List.length_map]; omega), cut1b (by rw [List.length_map]; omega), ← List.map_drop, ← List.map_take, ← List.map_append] at h5
        have k5 := k12.trans (Kt.same k12.tab ((s3.trans s4).trans s5))
        have hwa5 := k5.tup hT hwa
        have hwb5 := k5.tup hT hwb
        have epa5 := k5.tup hT epa
        have eta5 := k5.tup hT eta
        have hp5 := ties_tk (k5.tk hT) hp
        clear s3 s4 s5 h3 h4 epa2 eta2 hwa1 hwb1
        have lfo : (pn.drop 1 ++ pn.take 1).length = pn.length := by rw [List.length_append, List.length_drop, List.length_take]; omega
        have nth : ∀ k : Nat, k < en.length → ∃ (cc : Addr), H5 cc = some (.tup [.int (tieAt ts (en.getD k 0)).one, .int (tieAt ts (en.getD k 0)).other, .str (kindS (tieAt ts (en.getD k 0)).foe)]) ∧ atI us (en.getD k 0) = some (.ref cc) := fun k hk => by
          have hm : en.getD k 0 ∈ en := by
            rw [List.getD_eq_getElem?_getD, List.getElem?_eq_getElem hk]
            exact List.getElem_mem hk
          obtain ⟨z0, z1⟩ := hen _ hm
          obtain ⟨u, eu, cc, rfl, hcc⟩ := Paired.at' hp5 (tieAt_get z0 z1)
          exact ⟨cc, hcc, atI_of z0 eu⟩
        refine ⟨.ref ta, rfl, .ref pa, rfl, .ref r3, rfl, ta, pa, r3, _, _, _, rfl, SqT.of eta5, SqT.of epa5, SqT.of h5, k5.tab Pt hPt, fun i m H' => i + m = en.length ∧ Kt Ps H5 H' ∧ (List.range i).all (fun k => joinB (tieAt ts (en.getD k 0)) (pn.getD k 0) (pn.getD ((k + 1) % pn.length) 0)) = true, fun H6 t6 => ⟨en.length, by omega, Kt.tabbed k5.tab hPt t6, rfl⟩, fun i m H6 hw => ?_⟩
        obtain ⟨em, k6, hal⟩ := hw
        have eta6 := k6.tup k5.tab eta5
        have epa6 := k6.tup k5.tab epa5
        have h6 := k6.tup k5.tab h5
        by_cases hi : i < en.length
        · refine .inr ⟨⟨_, _, _, ⟨SqT.of eta6, SqT.of epa6, SqT.of h6⟩, by rw [List.length_map]; exact hi, by rw [List.length_map, List.length_map]; exact le, by rw [List.length_map, List.length_map, lfo]; exact le⟩, fun H7 => Kt Ps H5 H7 ∧ (List.range (i + 1)).all (fun k => joinB (tieAt ts (en.getD k 0)) (pn.getD k 0) (pn.getD ((k + 1) % pn.length) 0)) = true, fun H7 n7 => ⟨m - 1, by omega, by omega, n7.1, n7.2⟩, fun x H7 hy => ?_⟩
          obtain ⟨T, x1, x2, x3, rfl, nT, rfl, y1, y2, y3⟩ := hy
          have ex1 : x1 = .int (en.getD i 0) := by
            have z := y1 _ (SqT.of eta6)
            rw [List.getElem?_map, List.getElem?_eq_getElem hi] at z
            rw [List.getD_eq_getElem?_getD, List.getElem?_eq_getElem hi]
            exact (Option.some.inj z).symm
          have ex2 : x2 = .int (pn.getD i 0) := by
            have z := y2 _ (SqT.of epa6)
            rw [List.getElem?_map, List.getElem?_eq_getElem (show i < pn.length by omega)] at z
            rw [List.getD_eq_getElem?_getD, List.getElem?_eq_getElem (show i < pn.length by omega)]
            exact (Option.some.inj z).symm
          have ex3 : x3 = .int (pn.getD ((i + 1) % pn.length) 0) := by
            have z := y3 _ (SqT.of h6)
            rw [List.getElem?_map, behind l2 (by omega)] at z
            exact (Option.some.inj z).symm
          subst ex1
          subst ex2
          subst ex3
          obtain ⟨cc, hcc, acc⟩ := nth i hi
          have k7 := k6.trans (Kt.same k6.tab (same_new (o := .tup [.int (en.getD i 0), .int (pn.getD i 0), .int (pn.getD ((i + 1) % pn.length) 0)]) nT))
          refine ⟨T, _, rfl, SqT.of upd_same, rfl, _, _, rfl, _, _, rfl, _, _, rfl, rfl, rfl, .ref wa, rfl, wa, _, 1, .ref wb, rfl, rfl, SqT.of (k7.tup k5.tab hwa5), rfl, .int (en.getD i 0), rfl, wb, us, _, .ref cc, rfl, rfl, SqT.of (k7.tup k5.tab hwb5), acc, .int (pn.getD i 0), rfl, .int (pn.getD ((i + 1) % pn.length) 0), rfl, cc, _, _, tieAt ts (en.getD i 0), rfl, k7.tup k5.tab hcc, fun H8 s8 => ⟨_, rfl, ?_⟩⟩
          have k8 := k7.trans (Kt.same k7.tab s8)
          cases hj : joinB (tieAt ts (en.getD i 0)) (pn.getD i 0) (pn.getD ((i + 1) % pn.length) 0) with
          | true =>
            refine ⟨k8, ?_⟩
            rw [List.range_succ, List.all_append, hal]
            simp only [List.all_cons, List.all_nil, hj, Bool.and_true]
          | false =>
            have no : ringI ts pn en = false := by
              unfold ringI
              rw [Bool.eq_false_iff]
              intro z
              rw [List.all_eq_true] at z
              rw [z i (List.mem_range.mpr hi)] at hj
              cases hj
            rw [no] at q
            exact q _ (k5.trans k8)
        · have ei : i = en.length := by omega
          refine .inl ⟨⟨_, _, _, ⟨SqT.of eta6, SqT.of epa6, SqT.of h6⟩, by rw [List.length_map, ei], by rw [List.length_map, ei]; exact le, by rw [List.length_map, lfo, ei]; exact le⟩, ?_⟩
          rw [ei] at hal
          have yes : ringI ts pn en = true := hal
          rw [yes] at q
          exact q _ (k5.trans k6)
      · rw [show decide (V.int (ps.length : Int) = V.int (es.length : Int)) = false from decide_eq_false (fun z => le (by have := V.int.inj z; omega))]
        rw [decide_eq_false le, Bool.false_and] at q
        exact q _ k12
    · rw [decide_eq_true (show ((ps.length : Int) < 2) by omega)]
      rw [decide_eq_false l2, Bool.false_and] at q
      exact q _ k12
end
def foesI (ts : List Tie) (es : List Int) : Nat := (es.filter fun e => (tieAt ts e).foe).length
theorem foesI_take (ts : List Tie) (es : List Int) {i : Nat} {e : Int} (h : es[i]? = some e) : (es.take (i + 1)).filter (fun e => (tieAt ts e).foe) = (es.take i).filter (fun e => (tieAt ts e).foe) ++ (if (tieAt ts e).foe = true then [e] else []) := by
  rw [List.take_add_one, h, List.filter_append]
  congr 1
  show List.filter _ [e] = _
  rw [List.filter_cons]
  rfl
def spFoes : Sp := fun vs H Q _ => ∃ (wv : V) (n : Int) (ts : List Tie) (a ta : Addr) (p : V) (es : List Int), vs = [wv, .ref a] ∧ WebAt H wv n ts ∧ H a = some (.tup [p, .ref ta]) ∧ H ta = some (.tup (es.map V.int)) ∧ (∀ e ∈ es, 0 ≤ e ∧ e < (ts.length : Int)) ∧ es.length ≤ 1000 ∧
  ∀ H', Same H H' → Q (.int (foesI ts es)) H'
/-- a ring with an odd number of foes -/
def oddB (H : Hp) (n : Int) (ts : List Tie) (v : V) : Bool := ringB H n ts v && (match parts H v with
  | some [_, t] => (match parts H t with
    | some es => decide (foesI ts (es.map toI) % 2 = 1)
    | none => false)
  | _ => false)
def spOdd (Ps : List Addr) : Sp := fun vs H Q _ => ∃ (wv : V) (n : Int) (ts : List Tie) (v : V), vs = [wv, v] ∧ WebAt H wv n ts ∧ WebOk n ts ∧ Thing2 H v ∧ Tabs Ps H ∧ ∀ H', Kt Ps H H' → Q (.bl (oddB H n ts v)) H'
/-- what a ring is: a pair of rows of numbers -/
theorem ring_is {H : Hp} {n : Int} {ts : List Tie} {v : V} (h : ringB H n ts v = true) : ∃ (a pa ta : Addr) (pn en : List Int), v = .ref a ∧ H a = some (.tup [.ref pa, .ref ta]) ∧ H pa = some (.tup (pn.map V.int)) ∧ H ta = some (.tup (en.map V.int)) ∧ (∀ p ∈ pn, 0 ≤ p ∧ p < n) ∧ (∀ e ∈ en, 0 ≤ e ∧ e < (ts.length : Int)) ∧ pn.Nodup ∧ en.Nodup ∧ 2 ≤ pn.length ∧ pn.length = en.length ∧ ringI ts pn en = true := by
  unfold ringB at h
  cases hpv : parts H v with
  | none => rw [hpv] at h; cases h
  | some xs =>
    rw [hpv] at h
    obtain ⟨a, rfl, ea⟩ := parts_at hpv
    match xs, h, ea with
    | [p, t], h, ea =>
      change ringP n ts (parts H p) (parts H t) = true at h
      cases h1 : parts H p with
      | none => rw [h1] at h; cases h
      | some ps =>
        cases h2 : parts H t with
        | none => rw [h1, h2] at h; cases h
        | some es =>
          rw [h1, h2] at h
          obtain ⟨pa, rfl, epa⟩ := parts_at h1
          obtain ⟨ta, rfl, eta⟩ := parts_at h2
          change (unl n (some ps) && (unl ts.length (some es) && (decide (2 ≤ ps.length) && (decide (ps.length = es.length) && ringI ts (ps.map toI) (es.map toI))))) = true at h
          simp only [Bool.and_eq_true, decide_eq_true_iff] at h
          obtain ⟨u1, u2, l2, le, hr⟩ := h
          have v1 : ps.all (wbelow n) = true ∧ decide ps.Nodup = true := Bool.and_eq_true_iff.mp u1
          have v2 : es.all (wbelow ts.length) = true ∧ decide es.Nodup = true := Bool.and_eq_true_iff.mp u2
          obtain ⟨pn, rfl, hpn⟩ := ints_of v1.1
          obtain ⟨en, rfl, hen⟩ := ints_of v2.1
          rw [toI_map, toI_map] at hr
          rw [List.length_map] at l2 le
          rw [List.length_map] at le
          exact ⟨a, pa, ta, pn, en, rfl, ea, epa, eta, hpn, hen, nodup_ints.mp (of_decide_eq_true v1.2), nodup_ints.mp (of_decide_eq_true v2.2), l2, le, hr⟩
section
variable {P : Program} {w : World} {K : PySem.W.Frag} {mg : Str → Option Value} {base : Heap}
theorem ok_foes_in {f : Addr} {fd : FuncData} (F : Fun K "foes_in" "foes_in" s_foes_in f fd) (M : Free mg) : FnOk P w K mg base CX0 1 f fd ["web", "ring"] spFoes := by
  refine F.ok sc_foes_in (fun vs H Q E h => ?_) (fun cdv A outer s H vs Q E hr h => ?_)
  · obtain ⟨wv, n, ts, a, ta, p, es, rfl, _⟩ := h
    rfl
  · obtain ⟨wv, n, ts, a, ta, p, es, rfl, ⟨wa, wb, us, rfl, hwa, hwb, hp⟩, ha, hta, hes, lm, q⟩ := h
    refine ⟨_, (pss_one (ps_ret (pe_callB call_len_seq (by rfl) M.len PySem.boot_len (pa_cons (pe_lc (own := [("tie", 2)]) (g := gName 2) (te := tVar 2) rfl sc_foes_in.nd (pi_tup (pe_ix ix_tup (pv 1) pe_int (fun _ _ => rfl))) (blkOk_by (N := N_foes_in) (sc := defScope s_foes_in) (own := [("tie", 2)]) (by decide +kernel)) (fun _ _ _ _ _ => (pg_name (i := 2) sc_foes_in.nd rfl (.inl rfl))) (fun _ _ _ _ _ => (pts_one (pt_cmpR op_eq (pe_ix (r := rIxT K) ix_tup (pe_ix (r := rIxT K) ix_tup (pe_ix (r := rIxT K) ix_tup (pv 0) pe_int (fun _ _ => rfl)) (pv 2) (fun _ _ => rfl)) pe_int (fun _ _ => rfl)) pe_str (nomark _)))) (fun _ _ _ _ _ => (pv 2))) pa_nil)))), ?_⟩
    refine ⟨.ref a, rfl, a, _, 1, .ref ta, rfl, rfl, SqT.of ha, rfl, ta, rfl, ⟨_, SqT.of hta⟩, fun Z nZ => ?_⟩
    refine lc_tup (xs := es.map V.int) (fun j H' => H' = upd H Z (.lst (((es.take j).filter fun e => (tieAt ts e).foe).map V.int))) rfl (fun j H' _ h => by rw [h]; exact SqT.of (same_new nZ _ _ hta)) ?_ ?_
    · rintro j x H' ex rfl
      rw [List.getElem?_map] at ex
      obtain ⟨e, he, rfl⟩ := Option.map_eq_some_iff.mp ex
      obtain ⟨z0, z1⟩ := hes e (List.mem_of_getElem? he)
      have hj := (List.getElem?_eq_some_iff.mp he).1
      have s1 := same_new (o := .lst (((es.take j).filter fun e => (tieAt ts e).foe).map V.int)) nZ
      obtain ⟨u, eu, cc, rfl, hcc⟩ := Paired.at' hp (tieAt_get z0 z1)
      refine ⟨rfl, .ref wa, rfl, wa, _, 1, .ref wb, rfl, rfl, SqT.of (s1 _ _ hwa), rfl, .int e, rfl, wb, us, e, .ref cc, rfl, rfl, SqT.of (s1 _ _ hwb), atI_of z0 eu, cc, _, 2, _, rfl, rfl, SqT.of (s1 _ _ hcc), rfl, rfl, _, rfl, ?_⟩
      rw [foesI_take ts es he, List.map_append]
      have lf : ((es.take j).filter fun e => (tieAt ts e).foe).length ≤ j := by
        have := List.length_filter_le (fun e => (tieAt ts e).foe) (es.take j)
        rw [List.length_take] at this
        omega
      cases hf : (tieAt ts e).foe with
      | true =>
        refine ⟨.int e, rfl, _, upd_same, by rw [List.length_map]; exact small1000 (by omega), ?_⟩
        funext b
        by_cases eb : b = Z
        · subst eb
          rw [upd_same, upd_same]
          rfl
        · rw [upd_ne eb, upd_ne eb, upd_ne eb]
      | false =>
        show upd H Z _ = upd H Z (.lst (((es.take j).filter fun e => (tieAt ts e).foe).map V.int ++ []))
        rw [List.append_nil]
    · rintro H' rfl
      rw [List.length_map, List.take_length]
      refine ⟨Z, _, rfl, .inl (SqL.of upd_same), ?_⟩
      rw [List.length_map]
      exact q _ (same_new nZ)
theorem ok_odd_ring {f : Addr} {fd : FuncData} {Ps : List Addr} (F : Fun K "odd_ring_holds" "odd_ring_holds" s_odd_ring_holds f fd) (D1 : Df P w K mg base 5 "ring_holds" ["web", "thing"] (spRing Ps)) (D2 : Df P w K mg base 1 "foes_in" ["web", "ring"] spFoes) : FnOk P w K mg base CX0 6 f fd ["web", "thing"] (spOdd Ps) := by
  obtain ⟨f1, fd1, G1, g1, k1, b1⟩ := D1
  obtain ⟨f2, fd2, G2, g2, k2, b2⟩ := D2
  refine F.ok sc_odd_ring_holds (fun vs H Q E h => ?_) (fun cdv A outer s H vs Q E hr h => ?_)
  · obtain ⟨wv, n, ts, v, rfl, _⟩ := h
    rfl
  · obtain ⟨wv, n, ts, v, rfl, hW, ok, hv, hT, q⟩ := h
    have hr1 : Room 1 _ := hr.mono (by decide : 1 ≤ 5)
    refine ⟨_, (pss_one (ps_ret (pe_and (pe_call G1 hr (by rfl) g1 k1 b1 .nil pass0 (pa_cons (pv 0) (pa_cons (pv 1) pa_nil))) (pe_one (pe_cmpR op_eq (pe_op op_mod (pe_call G2 hr1 (by rfl) g2 k2 b2 .nil pass0 (pa_cons (pv 0) (pa_cons (pv 1) pa_nil))) pe_int) pe_int (nomark _)))))), ?_⟩
    refine ⟨wv, rfl, v, rfl, wv, n, ts, v, rfl, hW, ok, hv, hT, fun H1 k => ⟨_, rfl, ?_⟩⟩
    cases hb : ringB H n ts v with
    | false =>
      have e : oddB H n ts v = false := by unfold oddB; rw [hb, Bool.false_and]
      rw [e] at q
      exact q _ k
    | true =>
      obtain ⟨a, pa, ta, pn, en, rfl, ea, epa, eta, _, hen, _, ndE, _, le, _⟩ := ring_is hb
      have lm : en.length ≤ 1000 := by
        have z := (hv.2 _ (parts_of' ea) (.ref ta) (by simp)).2 _ (parts_of' eta)
        have := z.2
        rw [List.length_map] at this
        exact this
      refine ⟨wv, rfl, .ref a, rfl, wv, n, ts, a, ta, .ref pa, en, rfl, hW.tk (k.tk hT), k.tup hT ea, k.tup hT eta, hen, lm, fun H2 s2 => ⟨_, 2, rfl, rfl, show (0 : Int) < 2 by decide, rfl, ?_⟩⟩
      have e : oddB H n ts (.ref a) = decide (V.int ((foesI ts en : Nat) % 2 : Int) = V.int 1) := by
        unfold oddB
        rw [hb, parts_of' ea]
        simp only [parts_of' eta, toI_map, Bool.true_and]
        rw [decide_eq_decide]
        constructor
        · intro z
          congr 1
          omega
        · intro z
          have := V.int.inj z
          omega
      rw [← e]
      exact q _ (k.trans (Kt.same k.tab s2))
end
/-! ### whole numbers below a limit -/
section
variable {P : Program} {w : World} {K : PySem.W.Frag} {mg : Str → Option Value} {base : Heap}
end
/-! ### k08: what are sides -/
def sidesB (n : Int) : Option (List V) → Bool
  | some xs => decide ((xs.length : Int) = n) && xs.all (wbelow 2)
  | none => false
def holdB (n : Int) (ts : List Tie) : Option (List V) → Bool
  | some xs => sidesB n (some xs) && ts.all fun t => !brk (xs.map toI) t
  | none => false
theorem toI_ints (ss : List Int) : (ss.map V.int).map toI = ss := by
  rw [List.map_map]
  exact (List.map_congr_left (g := id) fun _ _ => rfl).trans (List.map_id ss)
theorem bad_all (ss : List Int) (ts : List Tie) : (bad ss ts).isEmpty = ts.all fun t => !brk ss t := by
  rw [Bool.eq_iff_iff, List.isEmpty_iff, bad_nil, List.all_eq_true]
  unfold Cons
  constructor
  · intro h t ht
    rw [h t ht]
    rfl
  · intro h t ht
    have := h t ht
    cases e : brk ss t with
    | false => rfl
    | true => rw [e] at this; cases this
def Knw (H : Hp) (v : V) : Prop := Kn H v ∧ ∀ xs, parts H v = some xs → xs.length ≤ 1000 ∧ ∀ x ∈ xs, Kn H x
def spIsSidesX (Ps : List Addr) : Sp := fun vs H Q _ => ∃ (wv : V) (n : Int) (ts : List Tie) (v : V), vs = [wv, v] ∧ WebAt H wv n ts ∧ WebOk n ts ∧ Knw H v ∧ Tabs Ps H ∧ ∀ H', Kt Ps H H' → Q (.bl (sidesB n (parts H v))) H'
def spSidesHold (Ps : List Addr) : Sp := fun vs H Q _ => ∃ (wv : V) (n : Int) (ts : List Tie) (v : V), vs = [wv, v] ∧ WebAt H wv n ts ∧ WebOk n ts ∧ Knw H v ∧ Tabs Ps H ∧ ∀ H', Kt Ps H H' → Q (.bl (holdB n ts (parts H v))) H'
def spSameB : Sp := fun vs H Q _ => ∃ b : Bool, vs = [.bl b, .bl b] ∧ Q (.bl true) H
def spLIsSides : Sp := fun vs H Q _ => ∃ (wv : V) (n : Int) (ts : List Tie) (v : V), vs = [wv, v] ∧ WebAt H wv n ts ∧ Knw H v ∧ Q (.bl (sidesB n (parts H v))) H
def spLHold : Sp := fun vs H Q _ => ∃ (wv : V) (n : Int) (ts : List Tie) (v : V), vs = [wv, v] ∧ WebAt H wv n ts ∧ WebOk n ts ∧ Knw H v ∧ Q (.bl (holdB n ts (parts H v))) H
section
variable {P : Program} {w : World} {K : PySem.W.Frag} {mg : Str → Option Value} {base : Heap}
theorem ok_is_sides {f c Pt : Addr} {fd : FuncData} {Ps : List Addr} (F : FunC K "is_sides" "is_sides" s_is_sides f fd c) (TB : GxR.TabB base mg c Pt) (hPt : Pt ∈ Ps) (hall : mg "all" = none) (D_is_tuple_of : Df P w K mg base 1 "is_tuple_of" ["length", "thing"] spTupleOf) (D1 : Df P w K mg base 2 "is_whole_below" ["limit", "thing"] spBelow) : FnOk P w K mg base CX0 4 f fd ["web", "thing"] (spIsSidesX Ps) := by
  obtain ⟨f1, fd1, G1, g1, k1, b1⟩ := D1
  obtain ⟨f_is_tuple_of, fd_is_tuple_of, G_is_tuple_of, g_is_tuple_of, k_is_tuple_of, b_is_tuple_of⟩ := D_is_tuple_of
  refine F.ok sc_is_sides (fun vs H Q E h => ?_) (fun A outer s H vs Q E hr h => ?_)
  · obtain ⟨wv, n, ts, v, rfl, _⟩ := h
    rfl
  · obtain ⟨wv, n, ts, v, rfl, ⟨wa, wb, us, rfl, hwa, hwb, hp⟩, ok, ⟨kv, kp⟩, hT, q⟩ := h
    refine ⟨_, (pss_cons (ps_if (pt_not (pt_val (pe_call G_is_tuple_of (hr.mono (by decide)) (by rfl) g_is_tuple_of k_is_tuple_of b_is_tuple_of .nil pass0 (pa_cons (pe_ix ix_tup (pv 0) pe_int (fun _ _ => rfl)) (pa_cons (pv 1) pa_nil)))))
        (pss_one (ps_ret pe_bl))
        pss_nil)
      (pss_one (ps_ret (pe_all (k := 2) (own := [("side", 2)]) (g := gName 2) hr TB rfl rfl sc_is_sides.nd (by rfl) hall (pi_tup (pv 1)) (blkOk_by (N := N_is_sides) (sc := defScope s_is_sides) (own := [("side", 2)]) (by decide +kernel)) ⟨rfl, by decide +kernel, by decide +kernel⟩ (show (".0" : Str) ∉ N_is_sides by decide +kernel)
        (fun _ _ _ _ _ _ _ => pg_name (i := 2) sc_is_sides.nd rfl (.inl rfl)) (fun _ _ _ _ _ _ _ hr' => pe_call G1 hr' (by rfl) g1 k1 b1 .nil pass0 (pa_cons pe_int (pa_cons (pv 2) pa_nil))))))), ?_⟩
    refine ⟨.ref wa, rfl, wa, _, 0, .int n, rfl, rfl, SqT.of hwa, rfl, v, rfl, n, v, rfl, kv, _, rfl, ?_⟩
    cases hpt : parts H v with
    | none =>
      have e0 : lenIs H v n = false := by
        unfold lenIs
        rw [hpt]
      rw [e0]
      rw [hpt] at q
      exact q _ (Kt.refl hT)
    | some xs =>
      have e0 : lenIs H v n = decide ((xs.length : Int) = n) := by
        unfold lenIs
        rw [hpt]
      rw [e0]
      rw [hpt] at q
      obtain ⟨few, kx⟩ := kp xs hpt
      by_cases hl : (xs.length : Int) = n
      · have e1 : sidesB n (some xs) = xs.all (wbelow 2) := by
          show (decide ((xs.length : Int) = n) && xs.all (wbelow 2)) = _
          rw [decide_eq_true hl, Bool.true_and]
        rw [e1] at q
        rw [decide_eq_true hl]
        obtain ⟨a, rfl, ha⟩ : ∃ a, v = .ref a ∧ H a = some (.tup xs) := by
          cases v with
          | ref a =>
            rcases kv with ⟨ys, h⟩ | ⟨ys, h⟩ | ⟨ys, h⟩
            · rw [parts_none (by unfold isT; simp only [h])] at hpt; cases hpt
            · rw [parts_of' h] at hpt; cases hpt; exact ⟨a, rfl, h⟩
            · rw [parts_none (by unfold isT; simp only [h])] at hpt; cases hpt
          | _ => rw [parts_none rfl] at hpt; cases hpt
        refine ⟨.ref a, rfl, a, rfl, ⟨_, SqT.of ha⟩, hT Pt hPt, fun i m H' => i + m = xs.length ∧ Kt Ps H H' ∧ (xs.take i).all (wbelow 2) = true, fun H2 hH2 => ⟨xs.length, by omega, Kt.tabbed hT hPt hH2, rfl⟩, fun i m H' hw => ?_⟩
        obtain ⟨em, kt, hal⟩ := hw
        have ha' := kt.tup hT ha
        by_cases hi : i < xs.length
        · refine .inr ⟨⟨_, _, SqT.of ha', List.getElem?_eq_getElem hi⟩, fun H3 => Kt Ps H H3 ∧ (xs.take (i + 1)).all (wbelow 2) = true, fun H3 n3 => ⟨m - 1, by omega, by omega, n3.1, n3.2⟩, fun x H3 hy => ?_⟩
          obtain ⟨rfl, fy⟩ := hy
          have ex : xs[i]? = some x := fy _ (SqT.of ha')
          refine ⟨rfl, x, rfl, 2, x, rfl, kt.kn hT (kx x (List.mem_of_getElem? ex)), _, rfl, ?_⟩
          have step : (xs.take (i + 1)).all (wbelow 2) = wbelow 2 x := by
            rw [List.take_add_one, ex, List.all_append, hal]
            simp
          cases hb : wbelow 2 x with
          | true => exact ⟨kt, step.trans hb⟩
          | false =>
            have no : xs.all (wbelow 2) = false := by
              rw [Bool.eq_false_iff]
              intro z
              rw [List.all_eq_true] at z
              rw [z x (List.mem_of_getElem? ex)] at hb
              cases hb
            rw [no] at q
            exact q _ kt
        · refine .inl ⟨⟨_, SqT.of ha', by omega⟩, ?_⟩
          rw [List.take_of_length_le (by omega)] at hal
          rw [hal] at q
          exact q _ kt
      · have e1 : sidesB n (some xs) = false := by
          show (decide ((xs.length : Int) = n) && xs.all (wbelow 2)) = _
          rw [decide_eq_false hl, Bool.false_and]
        rw [e1] at q
        rw [decide_eq_false hl]
        exact q _ (Kt.refl hT)
theorem sides_at {H : Hp} {v : V} {n : Int} (kv : Kn H v) (h : sidesB n (parts H v) = true) : ∃ (a : Addr) (ss : List Int), v = .ref a ∧ H a = some (.tup (ss.map V.int)) ∧ (ss.length : Int) = n ∧ parts H v = some (ss.map V.int) := by
  cases hpt : parts H v with
  | none => rw [hpt] at h; cases h
  | some xs =>
    rw [hpt] at h
    have h' : (decide ((xs.length : Int) = n) && xs.all (wbelow 2)) = true := h
    rw [Bool.and_eq_true, decide_eq_true_iff] at h'
    obtain ⟨ss, rfl, _⟩ := ints_of h'.2
    rw [List.length_map] at h'
    cases v with
    | ref a =>
      rcases kv with ⟨ys, h⟩ | ⟨ys, h⟩ | ⟨ys, h⟩
      · rw [parts_none (by unfold isT; simp only [h])] at hpt; cases hpt
      · have hpt' := hpt
        rw [parts_of' h] at hpt'
        cases hpt'
        exact ⟨a, ss, rfl, h, h'.1, rfl⟩
      · rw [parts_none (by unfold isT; simp only [h])] at hpt; cases hpt
    | _ => rw [parts_none rfl] at hpt; cases hpt
theorem hold_not {H : Hp} {v : V} {n : Int} {ts : List Tie} (h : sidesB n (parts H v) = false) : holdB n ts (parts H v) = false := by
  cases hpt : parts H v with
  | none => rfl
  | some xs =>
    rw [hpt] at h
    show (sidesB n (some xs) && _) = false
    rw [h, Bool.false_and]
theorem hold_yes {H : Hp} {v : V} {n : Int} {ts : List Tie} {ss : List Int} (h : sidesB n (parts H v) = true) (e : parts H v = some (ss.map V.int)) : holdB n ts (parts H v) = ts.all fun t => !brk ss t := by
  rw [e] at h ⊢
  show (sidesB n (some (ss.map V.int)) && ts.all fun t => !brk ((ss.map V.int).map toI) t) = _
  rw [h, Bool.true_and, toI_ints]
theorem ok_sides_hold {f : Addr} {fd : FuncData} {Ps : List Addr} (F : Fun K "sides_hold" "sides_hold" s_sides_hold f fd) (D_is_sides : Df P w K mg base 4 "is_sides" ["web", "thing"] (spIsSidesX Ps)) (D_broken_by : Df P w K mg base 2 "broken_by" ["web", "sides"] spBroken) : FnOk P w K mg base CX0 5 f fd ["web", "thing"] (spSidesHold Ps) := by
  obtain ⟨f_is_sides, fd_is_sides, G_is_sides, g_is_sides, k_is_sides, b_is_sides⟩ := D_is_sides
  obtain ⟨f_broken_by, fd_broken_by, G_broken_by, g_broken_by, k_broken_by, b_broken_by⟩ := D_broken_by
  refine F.ok sc_sides_hold (fun vs H Q E h => ?_) (fun cdv A outer s H vs Q E hr h => ?_)
  · obtain ⟨wv, n, ts, v, rfl, _⟩ := h
    rfl
  · obtain ⟨wv, n, ts, v, rfl, hW, ok, kn, hT, q⟩ := h
    refine ⟨_, (pss_one (ps_ret (pe_and (pe_call G_is_sides (hr.mono (by decide)) (by rfl) g_is_sides k_is_sides b_is_sides .nil pass0 (pa_cons (pv 0) (pa_cons (pv 1) pa_nil))) (pe_one (pe_cmpR (op_eqD hr.units) (pe_call G_broken_by (hr.mono (by decide)) (by rfl) g_broken_by k_broken_by b_broken_by .nil pass0 (pa_cons (pv 0) (pa_cons (pv 1) pa_nil))) (pe_tup pa_nil) (nomark _)))))), ?_⟩
    refine ⟨wv, rfl, v, rfl, wv, n, ts, v, rfl, hW, ok, kn, hT, fun H1 k1 => ⟨_, rfl, ?_⟩⟩
    cases hb : sidesB n (parts H v) with
    | false =>
      rw [hold_not hb] at q
      exact q _ k1
    | true =>
      obtain ⟨a, ss, rfl, ha, hl, ep⟩ := sides_at kn.1 hb
      rw [hold_yes hb ep, ← bad_all] at q
      refine ⟨wv, rfl, .ref a, rfl, wv, a, n, ts, ss, rfl, hW.tk (k1.tk hT), ok, k1.tup hT ha, hl, fun r H2 s2 h2 => ⟨Nat.zero_le _, fun e ne => ?_⟩⟩
      have k2 := k1.trans (Kt.same k1.tab (s2.trans (same_new (o := .tup []) ne)))
      refine ⟨intsD (bad ss ts), intsD [], IntsV.dp ⟨r, rfl, same_new ne _ _ h2⟩, IntsV.dp ⟨e, rfl, upd_same⟩, shaped_intsD _, shaped_intsD _, ?_⟩
      rw [eqv_nil]
      exact q _ k2
end
/-! ### k80: beside -/
abbrev Ent := Int × Int × Bool
def EntV (H : Hp) (v : V) (e : Ent) : Prop := ∃ a, v = .ref a ∧ H a = some (.tup [.int e.1, .int e.2.1, .int (bI e.2.2)])
theorem EntV.tk {H H' : Hp} (k : Tk H H') {v : V} {e : Ent} (h : EntV H v e) : EntV H' v e := by
  obtain ⟨a, rfl, h⟩ := h
  exact ⟨a, rfl, k _ _ h⟩
structure Bs (H : Hp) (L : Addr) (As : List Addr) (N : Nat → List Ent) : Prop where
  at' : H L = some (.lst (As.map V.ref))
  nd : As.Nodup
  each : ∀ j a, As[j]? = some a → ∃ vs, H a = some (.lst vs) ∧ Paired (EntV H) vs (N j)
  out : L ∉ As
theorem Bs.same {H H' : Hp} {L : Addr} {As : List Addr} {N : Nat → List Ent} (h : Bs H L As N) (s : Same H H') : Bs H' L As N :=
  ⟨s _ _ h.at', h.nd, fun j a e => by
    obtain ⟨vs, h1, h2⟩ := h.each j a e
    exact ⟨vs, s _ _ h1, Paired.mono (fun _ _ x => x.tk (Same.tk s)) h2⟩, h.out⟩
theorem Bs.put {H : Hp} {L q : Addr} {As : List Addr} {N : Nat → List Ent} (h : Bs H L As N) {j : Nat} {a : Addr} {vs : List V} {p : Ent} (ea : As[j]? = some a) (ev : H a = some (.lst vs)) (eq : EntV H (.ref q) p) :
    Bs (upd H a (.lst (vs ++ [.ref q]))) L As (fun i => N i ++ if i = j then [p] else []) := by
  have k : Tk H (upd H a (.lst (vs ++ [.ref q]))) := tk_lst ev
  refine ⟨?_, h.nd, fun i b e => ?_, h.out⟩
  · have ne : L ≠ a := fun z => h.out (by rw [z]; exact List.mem_of_getElem? ea)
    rw [upd_ne ne]
    exact h.at'
  · obtain ⟨ws, h1, h2⟩ := h.each i b e
    by_cases hij : i = j
    · subst hij
      rw [ea] at e
      cases e
      rw [ev] at h1
      cases h1
      refine ⟨_, upd_same, ?_⟩
      rw [if_pos rfl]
      exact Paired.snoc (Paired.mono (fun _ _ x => x.tk k) h2) (eq.tk k)
    · have ne : b ≠ a := fun z => hij (by
        subst z
        exact (List.getElem?_inj (List.getElem?_eq_some_iff.mp e).1 h.nd).mp (e.trans ea.symm))
      refine ⟨ws, by rw [upd_ne ne]; exact h1, ?_⟩
      rw [if_neg hij, List.append_nil]
      exact Paired.mono (fun _ _ x => x.tk k) h2
/-- the ties of a place, by their numbers -/
def ent1 (m : Nat) (t : Tie) (i : Nat) : List Ent := (if i = t.one.toNat then [((m : Int), t.other, t.foe)] else []) ++ (if i = t.other.toNat then [((m : Int), t.one, t.foe)] else [])
def entsTo (ts : List Tie) : Nat → Nat → List Ent
  | 0, _ => []
  | m + 1, i => entsTo ts m i ++ ent1 m (tieN ts m) i
theorem ent1_len (m : Nat) (t : Tie) (i : Nat) : (ent1 m t i).length ≤ 2 := by
  unfold ent1
  rw [List.length_append]
  split <;> split <;> simp
theorem ents_len (ts : List Tie) (i : Nat) : ∀ m, (entsTo ts m i).length ≤ 2 * m
  | 0 => Nat.le_refl _
  | m + 1 => by
    have h := ents_len ts i m
    have := ent1_len m (tieN ts m) i
    show (entsTo ts m i ++ ent1 m (tieN ts m) i).length ≤ _
    rw [List.length_append]
    omega
theorem mem_ents {n : Int} {ts : List Tie} (ok : ∀ t ∈ ts, TieOk n t) {i : Nat} {e : Ent} : ∀ {m : Nat}, m ≤ ts.length → (e ∈ entsTo ts m i ↔ ∃ (k : Nat) (t : Tie), k < m ∧ ts[k]? = some t ∧ e.1 = k ∧ e.2.2 = t.foe ∧ ((t.one = i ∧ t.other = e.2.1) ∨ (t.one = e.2.1 ∧ t.other = i)))
  | 0, _ => ⟨(fun h => by cases h), fun ⟨k, _, h, _⟩ => by omega⟩
  | m + 1, hm => by
    have ih := mem_ents ok (i := i) (e := e) (m := m) (by omega)
    have et := List.getElem?_eq_getElem (show m < ts.length by omega)
    have etn : tieN ts m = ts[m] := tieN_of et
    have o := ok _ (List.mem_of_getElem? et)
    have key : e ∈ ent1 m (tieN ts m) i ↔ e.1 = m ∧ e.2.2 = (ts[m]).foe ∧ (((ts[m]).one = i ∧ (ts[m]).other = e.2.1) ∨ ((ts[m]).one = e.2.1 ∧ (ts[m]).other = i)) := by
      rw [etn]
      obtain ⟨o1, o2, o3, o4, _⟩ := o
      obtain ⟨e1, e2, e3⟩ := e
      unfold ent1
      rw [List.mem_append]
      constructor
      · rintro (h | h)
        · split at h
          · rw [List.mem_singleton] at h
            rename_i hh
            cases h
            exact ⟨rfl, rfl, .inl ⟨by rw [hh]; exact (Int.toNat_of_nonneg o1).symm, rfl⟩⟩
          · cases h
        · split at h
          · rw [List.mem_singleton] at h
            rename_i hh
            cases h
            exact ⟨rfl, rfl, .inr ⟨rfl, by rw [hh]; exact (Int.toNat_of_nonneg o3).symm⟩⟩
          · cases h
      · rintro ⟨h1, h2, h3⟩
        simp only at h1 h2 h3
        subst h1 h2
        rcases h3 with ⟨h3, h4⟩ | ⟨h3, h4⟩
        · left
          rw [if_pos (by omega), h4]
          simp
        · right
          rw [if_pos (by omega), h3]
          simp
    show e ∈ entsTo ts m i ++ ent1 m (tieN ts m) i ↔ _
    rw [List.mem_append, ih, key]
    constructor
    · rintro (⟨k, t, h1, h2⟩ | h)
      · exact ⟨k, t, by omega, h2⟩
      · exact ⟨m, _, by omega, et, h⟩
    · rintro ⟨k, t, h1, h2, h3⟩
      by_cases ek : k = m
      · subst ek
        rw [et] at h2
        cases h2
        exact .inr h3
      · exact .inl ⟨k, t, by omega, h2, h3⟩
def spBeside80 : Sp := fun vs H Q _ => ∃ (v : V) (n : Nat) (ts : List Tie), vs = [v] ∧ WebAt H v n ts ∧ WebOk n ts ∧ ∀ L As H', As.length = n → H L = none → Bs H' L As (entsTo ts ts.length) → Same H H' → Q (.ref L) H'
section
variable {P : Program} {w : World} {K : PySem.W.Frag} {mg : Str → Option Value} {base : Heap}
set_option maxHeartbeats 1000000 in
theorem ok_l_beside {f : Addr} {fd : FuncData} (F : Fun K "_law_beside" "_law_beside" s_l_beside f fd) (M : Free mg) (m_enumerate : mg "enumerate" = none) : FnOk P w K mg base CX0 1 f fd ["_law_web_here"] spBeside80 := by
  refine F.ok sc_l_beside (fun vs H Q E h => ?_) (fun cdv A outer s H vs Q E hr h => ?_)
  · obtain ⟨v, k, ts, rfl, _⟩ := h
    rfl
  · obtain ⟨v, k, ts, rfl, hW, ok, q⟩ := h
    refine ⟨_, (pss_cons (ps_setLc (i := 1) (own := [("_law_place", 2)]) (g := (gName 2)) (tt := tYes) rfl sc_l_beside.nd rfl rfl (sw_true rfl rfl rfl (by decide +kernel)) (pi_range1 (by rfl) M.range (pa_cons (pe_ix ix_tup (pv 0) pe_int (fun _ _ => rfl)) pa_nil)) (blkOk_by (N := N_l_beside) (sc := defScope s_l_beside) (own := [("_law_place", 2)]) (by decide +kernel)) (fun _ _ _ _ _ => (pg_name (i := 2) sc_l_beside.nd rfl (.inl rfl))) (fun _ _ _ _ _ => pts_nil) (fun _ _ _ _ _ => (pe_lst pa_nil)))
      (pss_cons (ps_for PassesOwn.never rfl (pi_enumT (by rfl) m_enumerate (pa_cons (pe_ix ix_tup (pv 0) pe_int (fun _ _ => rfl)) pa_nil)) (pg_tup rfl (pgs_cons (pg_name (i := 3) sc_l_beside.nd rfl (.inl rfl)) (pgs_cons (pg_name (i := 4) sc_l_beside.nd rfl (.inl rfl)) pgs_nil)))
        (pss_cons (ps_asg (pv 4) (pg_tup rfl (pgs_cons (pg_name (i := 5) sc_l_beside.nd rfl (.inl rfl)) (pgs_cons (pg_name (i := 6) sc_l_beside.nd rfl (.inl rfl)) (pgs_cons (pg_name (i := 7) sc_l_beside.nd rfl (.inl rfl)) pgs_nil)))))
        (pss_cons (ps_expr (pe_bm PySem.F.plainAttrs_list PySem.F.slot_list_append PySem.F.type_list_append mt_append (pe_ix ix_list (pv 1) (pv 5) (fun _ _ => rfl)) (pa_cons (pe_tup (pa_cons (pv 3) (pa_cons (pv 6) (pa_cons (pe_callTy call_int1 (by rfl) M.int (by decide +kernel) (pa_cons (pe_cmpR op_eq (pv 7) pe_str (nomark _)) pa_nil)) pa_nil)))) pa_nil)))
        (pss_one (ps_expr (pe_bm PySem.F.plainAttrs_list PySem.F.slot_list_append PySem.F.type_list_append mt_append (pe_ix ix_list (pv 1) (pv 6) (fun _ _ => rfl)) (pa_cons (pe_tup (pa_cons (pv 3) (pa_cons (pv 5) (pa_cons (pe_callTy call_int1 (by rfl) M.int (by decide +kernel) (pa_cons (pe_cmpR op_eq (pv 7) pe_str (nomark _)) pa_nil)) pa_nil)))) pa_nil)))))))
      (pss_one (ps_ret (pv 1))))), ?_⟩
    obtain ⟨a, b, us, rfl, ha, hb, hp⟩ := hW
    have hk : k ≤ 40 := by have := ok.hi; omega
    refine ⟨.ref a, rfl, a, _, 0, .int k, rfl, rfl, SqT.of ha, rfl, k, rfl, by omega, by omega, fun L nL => ?_⟩
    rw [Int.toNat_natCast]
    refine lc_range (lo := 0) (n := k) (fun i H' => ∃ As : List Addr, As.length = i ∧ Bs H' L As (fun _ => []) ∧ (∀ x ∈ As, H x = none) ∧ Same H H') ?_ ?_ ?_
    · exact ⟨[], rfl, ⟨upd_same, List.nodup_nil, fun j a e => by simp at e, by simp⟩, fun x hx => by simp at hx, same_new nL⟩
    · rintro i H1 hi ⟨As, hl, hA, hf, s1⟩
      refine ⟨rfl, Nat.zero_le _, fun p np => ?_⟩
      have hA2 := hA.same (same_new (o := .lst []) np)
      refine ⟨_, hA2.at', by rw [List.length_map]; exact small1000 (by omega), As ++ [p], by rw [List.length_append, hl]; rfl, ?_, fun x hx => ?_, Same.mut (s1.trans (same_new np)) nL⟩
      · have npA : p ∉ As := fun z => by
          obtain ⟨j, hj⟩ := List.getElem?_of_mem z
          obtain ⟨vs, h1, _⟩ := hA.each j p hj
          rw [np] at h1
          cases h1
        have npL : p ≠ L := fun z => by
          have h1 := hA.at'
          rw [← z, np] at h1
          cases h1
        refine ⟨by rw [upd_same, List.map_append]; rfl, ?_, fun j x e => ?_, ?_⟩
        · rw [List.nodup_append]
          refine ⟨hA.nd, by simp, fun x hx y hy z => ?_⟩
          rw [List.mem_singleton] at hy
          subst hy
          subst z
          exact npA hx
        · have hx : x ≠ L := fun z => by
            subst z
            rcases List.mem_append.mp (List.mem_of_getElem? e) with h | h
            · exact hA.out h
            · exact npL (List.mem_singleton.mp h).symm
          rcases List.mem_append.mp (List.mem_of_getElem? e) with h | h
          · obtain ⟨j2, e2⟩ := List.getElem?_of_mem h
            obtain ⟨vs, h1, h2⟩ := hA2.each j2 x e2
            cases h2
            exact ⟨[], by rw [upd_ne hx]; exact h1, .nil⟩
          · rw [List.mem_singleton] at h
            subst h
            exact ⟨[], by rw [upd_ne hx]; exact upd_same, .nil⟩
        · intro z
          rcases List.mem_append.mp z with h | h
          · exact hA.out h
          · exact npL (List.mem_singleton.mp h).symm
      · rcases List.mem_append.mp hx with h | h
        · exact hf x h
        · rw [List.mem_singleton.mp h]
          exact s1.free np
    rintro H0 ⟨As, hl, hA, hf, s0⟩
    have nLH : H L = none := nL
    have hlen : us.length = ts.length := Paired.length hp
    have hts := ok.few
    refine ⟨.ref a, rfl, a, _, 1, .ref b, rfl, rfl, SqT.of (s0 _ _ ha), rfl, b, us, rfl, SqT.of (s0 _ _ hb), ?_⟩
    refine for_it (walk_enumT (xs := us)) (fun i σ' H' => ∃ y3 y4 y5 y6 y7 : Option V, σ' = [some (.ref a), some (.ref L), none, y3, y4, y5, y6, y7] ∧ Bs H' L As (entsTo ts i) ∧ Same H H') ⟨none, none, none, none, none, rfl, hA, s0⟩ (fun i σ' H' _ h => by
      obtain ⟨_, _, _, _, _, _, _, s1⟩ := h
      exact SqT.of (s1 _ _ hb)) ?_ ?_
    · rintro i x σ' H1 H2 hi ⟨y3, y4, y5, y6, y7, rfl, hA1, s1⟩ ⟨T, x1, y, rfl, nT, rfl, gx, gy⟩
      obtain rfl : V.int (i : Nat) = x1 := Option.some.inj gx
      obtain ⟨t, et, c, rfl, hc⟩ := Paired.at hp gy
      have okt := ok.ok t (List.mem_of_getElem? et)
      have hti := (List.getElem?_eq_some_iff.mp et).1
      have e2 := same_new (o := .tup [.int (i : Nat), .ref c]) nT
      have s2 := s1.trans e2
      have hA2 := hA1.same e2
      have hc2 := s2 _ _ hc
      refine ⟨T, _, rfl, SqT.of upd_same, rfl, _, _, rfl, _, _, rfl, rfl, ?_⟩
      generalize upd H1 T (.tup [.int (i : Nat), .ref c]) = H2 at s2 hA2 hc2
      refine ⟨.ref c, rfl, c, _, rfl, SqT.of hc2, rfl, _, _, rfl, _, _, rfl, _, _, rfl, rfl, ?_⟩
      obtain ⟨o1, o2, o3, o4, o5⟩ := okt
      have efoe : (if decide (V.str (kindS t.foe) = V.str "foe") = true then (1 : Int) else 0) = bI t.foe := by cases t.foe <;> rfl
      -- the first
      obtain ⟨x1, f1, f1'⟩ := getI (xs := As) o1 (by omega)
      obtain ⟨vs1, g1, p1⟩ := hA2.each _ _ f1'
      have l1 := Paired.length p1
      have l1' := ents_len ts t.one.toNat i
      refine ⟨.ref L, rfl, .int t.one, rfl, L, _, t.one, .ref x1, rfl, rfl, SqL.of hA2.at', ?_, .inl ⟨rfl, _, SqL.of g1⟩, .int (i : Nat), rfl, .int t.other, rfl, .str (kindS t.foe), rfl, rfl, .inr ⟨_, rfl, by show 3 ≤ sizeLine; decide, fun p np => ?_⟩⟩
      · exact atI_of o1 (by rw [List.getElem?_map, f1']; rfl)
      rw [efoe]
      have A2 := hA2.same (same_new (o := .tup [.int (i : Nat), .int t.other, .int (bI t.foe)]) np)
      refine ⟨x1, vs1, _, rfl, rfl, same_new np _ _ g1, small1000 (by omega), ?_⟩
      have A3 := A2.put f1' (same_new np _ _ g1) (q := p) (p := ((i : Int), t.other, t.foe)) ⟨p, rfl, upd_same⟩
      have s3 : Same H (upd (upd H2 p (.tup [.int (i : Nat), .int t.other, .int (bI t.foe)])) x1 (.lst (vs1 ++ [.ref p]))) := Same.mut (s2.trans (same_new np)) (hf _ (List.mem_of_getElem? f1'))
      generalize upd (upd H2 p (.tup [.int (i : Nat), .int t.other, .int (bI t.foe)])) x1 (.lst (vs1 ++ [.ref p])) = H3 at A3 s3
      -- the second
      obtain ⟨x2, f2, f2'⟩ := getI (xs := As) o3 (by omega)
      obtain ⟨vs2, g2, p2⟩ := A3.each _ _ f2'
      have l2 := Paired.length p2
      rw [List.length_append] at l2
      have l2' := ents_len ts t.other.toNat i
      have l2'' : (if t.other.toNat = t.one.toNat then [((i : Int), t.other, t.foe)] else []).length ≤ 1 := by split <;> simp
      refine ⟨.ref L, rfl, .int t.other, rfl, L, _, t.other, .ref x2, rfl, rfl, SqL.of A3.at', ?_, .inl ⟨rfl, _, SqL.of g2⟩, .int (i : Nat), rfl, .int t.one, rfl, .str (kindS t.foe), rfl, rfl, .inr ⟨_, rfl, by show 3 ≤ sizeLine; decide, fun p' np' => ?_⟩⟩
      · exact atI_of o3 (by rw [List.getElem?_map, f2']; rfl)
      rw [efoe]
      have A4 := A3.same (same_new (o := .tup [.int (i : Nat), .int t.one, .int (bI t.foe)]) np')
      refine ⟨x2, vs2, _, rfl, rfl, same_new np' _ _ g2, small1000 (by omega), ?_⟩
      have A5 := A4.put f2' (same_new np' _ _ g2) (q := p') (p := ((i : Int), t.one, t.foe)) ⟨p', rfl, upd_same⟩
      refine ⟨_, _, _, _, _, rfl, ?_, Same.mut (s3.trans (same_new np')) (hf _ (List.mem_of_getElem? f2'))⟩
      have eN : (fun j => (entsTo ts i j ++ if j = t.one.toNat then [((i : Int), t.other, t.foe)] else []) ++ if j = t.other.toNat then [((i : Int), t.one, t.foe)] else []) = entsTo ts (i + 1) := by
        funext j
        show _ = entsTo ts i j ++ ent1 i (tieN ts i) j
        rw [tieN_of et, List.append_assoc]
        rfl
      rw [← eN]
      exact A5
    · rintro σ' H1 ⟨y3, y4, y5, y6, y7, rfl, hA1, s1⟩
      rw [hlen] at hA1
      exact ⟨.ref L, rfl, q L As _ hl nLH hA1 s1⟩
end
/-! ### places that have no entry yet -/
theorem filter_less {α : Type} {p q : α → Bool} (h : ∀ x, q x = true → p x = true) : ∀ {l : List α} {x : α}, x ∈ l → p x = true → q x = false → (l.filter q).length < (l.filter p).length
  | [], x, hx, _, _ => by simp at hx
  | y :: l, x, hx, hp, hq => by
    have le : ∀ l : List α, (l.filter q).length ≤ (l.filter p).length := fun l => by
      induction l with
      | nil => simp
      | cons z l ih =>
        rw [List.filter_cons, List.filter_cons]
        by_cases hz : q z = true
        · rw [if_pos hz, if_pos (h z hz)]
          simpa using ih
        · rw [if_neg hz]
          split
          · rw [List.length_cons]; omega
          · exact ih
    rcases List.mem_cons.mp hx with e | e
    · subst e
      rw [List.filter_cons, List.filter_cons, hp, hq]
      have := le l
      simp only [if_true, Bool.false_eq_true, if_false, List.length_cons]
      omega
    · have ih := filter_less h e hp hq
      rw [List.filter_cons, List.filter_cons]
      by_cases hy : q y = true
      · rw [if_pos hy, if_pos (h y hy)]
        simp only [List.length_cons]
        omega
      · rw [if_neg hy]
        split
        · rw [List.length_cons]; omega
        · exact ih
/-- places that have no entry yet -/
def lackN (n : Nat) (kvs : List (Key × V)) : Nat := ((rng n).filter fun x => (valV kvs (Sum.inl x : Key)).isNone).length
theorem lack_le (n : Nat) (kvs : List (Key × V)) : lackN n kvs ≤ n := by
  unfold lackN
  have := List.length_filter_le (fun x => (valV kvs (Sum.inl x : Key)).isNone) (rng n)
  rw [rng_length] at this
  exact this
theorem lack_put {n : Nat} {kvs : List (Key × V)} {x : Int} {v : V} (h0 : 0 ≤ x) (h1 : x < n) (h : valV kvs (Sum.inl x : Key) = none) : lackN n (putK kvs (Sum.inl x) v) < lackN n kvs := by
  unfold lackN
  refine filter_less (fun y hy => ?_) (mem_rng.mpr ⟨h0, h1⟩) (by rw [h]; rfl) (by rw [valV_put, if_pos rfl]; rfl)
  rw [valV_put] at hy
  split at hy
  · cases hy
  · exact hy
theorem putK_le (c : List (Key × V)) (k : Key) (x : V) : (putK c k x).length ≤ c.length + 1 := by
  unfold putK
  split
  · rw [List.length_map]; omega
  · rw [List.length_append]; simp

/-! ### the law's own look at layers -/
def spIsRowL : Sp := fun vs H Q _ => ∃ (n : Nat) (v : V), vs = [.int n, v] ∧ PartK H v ∧ Q (.bl (isRowB n (parts H v))) H
def spDue15 : Sp := fun vs H Q _ => ∃ (wv : V) (n : Nat) (ts : List Tie) (num : Int) (v : V), vs = [wv, .int num, v] ∧ WebAt H wv n ts ∧ WebOk n ts ∧ ThingK H v ∧ ∀ H', Same H H' → Q (.bl (layB H n ts num v)) H'
def spTold15 (Ps : List Addr) : Sp := fun vs H Q _ => ∃ (wv : V) (n : Nat) (ts : List Tie) (num : Int) (v : V), vs = [wv, .int num, v] ∧ WebAt H wv n ts ∧ WebOk n ts ∧ ThingK H v ∧ Tabs Ps H ∧ ∀ H', Kt Ps H H' → Q (.bl true) H'
def swapT (t : Tie) : Tie := ⟨t.other, t.one, t.foe⟩
theorem TieOk.swap {n : Int} {t : Tie} (h : TieOk n t) : TieOk n (swapT t) := ⟨h.2.2.1, h.2.2.2.1, h.1, h.2.1, Ne.symm h.2.2.2.2⟩
theorem nearZ_comm (a b : Int) : nearZ a b = nearZ b a := Bool.and_comm _ _
theorem near_swap (r : List Int) (t : Tie) : nearI r (swapT t) = nearI r t := by
  unfold nearI swapT
  simp only
  cases t.foe
  · have e : bI false = 0 := rfl
    rw [e, Int.add_zero, Int.add_zero, Int.sub_zero, Int.sub_zero, nearZ_comm (gI r (2 * t.other)), nearZ_comm (gI r (2 * t.other + 1))]
  · have e : bI true = 1 := rfl
    rw [e, Int.add_sub_cancel, Int.add_sub_cancel, nearZ_comm (gI r (2 * t.other)), nearZ_comm (gI r (2 * t.other + 1)), Bool.and_comm]
theorem rowC_swap (ts : List Tie) (num s : Int) (r : List Int) : rowC (ts.map swapT) num s r = rowC ts num s r := by
  unfold rowC
  rw [List.all_map]
  congr 2
  exact List.all_congr rfl fun t => near_swap r t
theorem layB_swap (H : Hp) (n : Nat) (ts : List Tie) (num : Int) (v : V) : layB H n (ts.map swapT) num v = layB H n ts num v := by
  unfold layB rowB
  cases parts H v with
  | none => rfl
  | some rows =>
    simp only [rowC_swap]
theorem layB_kt {Ps : List Addr} {H H' : Hp} (k : Kt Ps H H') (t : Tabs Ps H) {n : Nat} {ts : List Tie} {num : Int} {v : V} (h : ThingK H v) : layB H' n ts num v = layB H n ts num v := by
  unfold layB
  rw [kt_parts k t h.1]
  cases hp : parts H v with
  | none => rfl
  | some rows =>
    simp only
    by_cases hl : rows.length = n
    · rw [decide_eq_true hl, Bool.true_and, Bool.true_and]
      rw [Bool.eq_iff_iff, List.all_eq_true, List.all_eq_true]
      have e : ∀ s ∈ List.range n, parts H' (rows.getD s .non) = parts H (rows.getD s .non) := fun s hs => by
        have hs := List.mem_range.mp hs
        rw [List.getD_eq_getElem?_getD, List.getElem?_eq_getElem (by omega)]
        exact kt_parts k t (h.2 rows hp _ (List.getElem_mem _)).1
      constructor
      · intro z s hs
        rw [← e s hs]
        exact z s hs
      · intro z s hs
        rw [e s hs]
        exact z s hs
    · rw [decide_eq_false hl, Bool.false_and, Bool.false_and]
theorem LayAt.thing {H : Hp} {v : V} {n : Nat} {ts : List Tie} {rs : List (List Int)} (h : LayAt H v n ts rs) : ThingK H v := by
  obtain ⟨a, vs, rfl, h1, h2, _⟩ := h
  refine ⟨.inr (.inl ⟨_, h1⟩), fun xs e x hx => ?_⟩
  rw [parts_of' h1] at e
  cases e
  obtain ⟨i, hi⟩ := List.getElem?_of_mem hx
  obtain ⟨row, _, b, rfl, hb⟩ := Paired.at h2 hi
  refine ⟨.inr (.inl ⟨_, hb⟩), fun ys e y hy => ?_⟩
  rw [parts_of' hb] at e
  cases e
  obtain ⟨z, _, rfl⟩ := List.mem_map.mp hy
  trivial
theorem LayAt.judge {H : Hp} {v : V} {n : Nat} {ts : List Tie} {rs : List (List Int)} (h : LayAt H v n ts rs) (num : Int) : layB H n ts num v = true ↔ ∀ (s : Nat) row, rs[s]? = some row → num ≤ gI row (2 * (s : Int) + 1) := by
  obtain ⟨a, vs, rfl, h1, h2, h3, h4⟩ := h
  have lv : vs.length = rs.length := Paired.length h2
  unfold layB
  rw [parts_of' h1]
  simp only
  rw [decide_eq_true (show vs.length = n by omega), Bool.true_and, List.all_eq_true]
  have each : ∀ (s : Nat) row, rs[s]? = some row → rowB n ts num (s : Int) (parts H (vs.getD s .non)) = decide (num ≤ gI row (2 * (s : Int) + 1)) := fun s row e => by
    obtain ⟨u, eu, b, rfl, hb⟩ := Paired.at' h2 e
    have g := h4 s row e
    rw [List.getD_eq_getElem?_getD, eu, Option.getD_some, parts_of' hb]
    unfold rowB
    have e1 : isRowB n (some (row.map V.int)) = true := by
      show (decide ((row.map V.int).length = 2 * n) && (row.map V.int).all (wfrom 0)) = true
      rw [List.length_map, decide_eq_true g.len, all_ints g.pos]
      rfl
    rw [e1, Bool.true_and]
    show rowC ts num s ((row.map V.int).map toI) = _
    rw [toI_map]
    unfold rowC
    rw [decide_eq_true g.zero, Bool.true_and]
    have e2 : ts.all (nearI row) = true := List.all_eq_true.mpr fun t ht => g.near t ht
    rw [e2, Bool.and_true]
  constructor
  · intro z s row e
    have hs := (List.getElem?_eq_some_iff.mp e).1
    have := z s (List.mem_range.mpr (by omega))
    rw [each s row e] at this
    exact of_decide_eq_true this
  · intro z s hs
    have hs := List.mem_range.mp hs
    have e := List.getElem?_eq_getElem (show s < rs.length by omega)
    rw [each s _ e]
    exact decide_eq_true (z s _ e)
section
variable {P : Program} {w : World} {K : PySem.W.Frag} {mg : Str → Option Value} {base : Heap}
end
/-! ### k80: the first places -/
def Kx (kvs : List (Key × V)) (x : Int) : Prop := valV kvs (Sum.inl x : Key) ≠ none
theorem Kx.put {kvs : List (Key × V)} {x y : Int} {v : V} (h : Kx kvs x) : Kx (putK kvs (Sum.inl y) v) x := by
  unfold Kx
  rw [valV_put]
  split
  · simp
  · exact h
theorem Kx.new {kvs : List (Key × V)} {y : Int} {v : V} : Kx (putK kvs (Sum.inl y) v) y := by
  unfold Kx
  rw [valV_put, if_pos rfl]
  simp
theorem Kx.of {kvs : List (Key × V)} {x y : Int} {v : V} (h : Kx (putK kvs (Sum.inl y) v) x) : x = y ∨ Kx kvs x := by
  unfold Kx at h
  rw [valV_put] at h
  split at h
  · rename_i e
    exact .inl (by cases e; rfl)
  · exact .inr h
theorem not_Kx {kvs : List (Key × V)} {x : Int} (h : ¬ Kx kvs x) : valV kvs (Sum.inl x : Key) = none := by
  cases e : valV kvs (Sum.inl x : Key) with
  | none => rfl
  | some v => exact absurd (by unfold Kx; rw [e]; simp) h
def Clo (ts : List Tie) (kvs : List (Key × V)) (x : Int) : Prop := ∀ y f, Adj ts x y f → Kx kvs y
theorem Clo.put {ts : List Tie} {kvs : List (Key × V)} {x y : Int} {v : V} (h : Clo ts kvs x) : Clo ts (putK kvs (Sum.inl y) v) x := fun z f ad => (h z f ad).put
theorem clo_walk {ts : List Tie} {kvs : List (Key × V)} (h : ∀ x, Kx kvs x → Clo ts kvs x) {x y : Int} {p : Bool} (k : Kx kvs x) (r : RP ts x y p) : Kx kvs y := by
  induction r with
  | nil => exact k
  | step _ ad ih => exact h _ ih _ _ ad
def spFirsts80 : Sp := fun vs H Q _ => ∃ (v : V) (n : Nat) (ts : List Tie), vs = [v] ∧ WebAt H v n ts ∧ WebOk n ts ∧ ∀ (p : Addr) (fs : List Int) (H' : Hp), Same H H' → H' p = some (.lst (fs.map V.int)) → fs.length ≤ n → (∀ x ∈ fs, (0 ≤ x ∧ x < n) ∧ leader ts x) → Q (.ref p) H'
section
variable {P : Program} {w : World} {K : PySem.W.Frag} {mg : Str → Option Value} {base : Heap}
set_option maxHeartbeats 1000000 in
theorem ok_l_firsts {f : Addr} {fd : FuncData} (F : Fun K "_law_firsts" "_law_firsts" s_l_firsts f fd) (M : Free mg) (D_l_beside : Df P w K mg base 1 "_law_beside" ["_law_web_here"] spBeside80) : FnOk P w K mg base CX0 2 f fd ["_law_web_here"] spFirsts80 := by
  obtain ⟨f_l_beside, fd_l_beside, G_l_beside, g_l_beside, k_l_beside, b_l_beside⟩ := D_l_beside
  refine F.ok sc_l_firsts (fun vs H Q E h => ?_) (fun cdv A outer s H vs Q E hr h => ?_)
  · obtain ⟨v, n, ts, rfl, _⟩ := h
    rfl
  · obtain ⟨v, n, ts, rfl, hW, ok, q⟩ := h
    have hu := room1 hr
    refine ⟨_, (pss_cons (ps_set (i := 1) sc_l_firsts.nd rfl (.inl rfl) (pe_call G_l_beside (hr.mono (by decide)) (by rfl) g_l_beside k_l_beside b_l_beside .nil pass0 (pa_cons (pv 0) pa_nil)))
      (pss_cons (ps_set (i := 2) sc_l_firsts.nd rfl (.inl rfl) pe_dnewK)
      (pss_cons (ps_set (i := 3) sc_l_firsts.nd rfl (.inl rfl) (pe_lst pa_nil))
      (pss_cons (ps_for PassesOwn.never rfl (pi_range1 (by rfl) M.range (pa_cons (pe_ix ix_tup (pv 0) pe_int (fun _ _ => rfl)) pa_nil)) (pg_name (i := 4) sc_l_firsts.nd rfl (.inl rfl))
        (pss_one (ps_if (pt_cmp (pc_dnotin hu (pv 4) (pv 2)))
          (pss_cons (ps_expr (pe_bm PySem.F.plainAttrs_list PySem.F.slot_list_append PySem.F.type_list_append mt_append (pv 3) (pa_cons (pv 4) pa_nil)))
          (pss_cons (ps_set (i := 5) sc_l_firsts.nd rfl (.inl rfl) (pe_lst (pa_cons (pv 4) pa_nil)))
          (pss_cons (ps_dput hu (pv 2) (pv 4) pe_bl rfl)
          (pss_one (ps_for PassesOwn.never rfl (pi_range1 (by rfl) M.range (pa_cons (pe_ix ix_tup (pv 0) pe_int (fun _ _ => rfl)) pa_nil)) (pg_name (i := 6) sc_l_firsts.nd rfl (.inl rfl))
            (pss_one (ps_if (pt_cmpR op_lt (pv 6) (pe_callB call_len_seq (by rfl) M.len PySem.boot_len (pa_cons (pv 5) pa_nil)) (nomark _))
              (pss_one (ps_for PassesOwn.never rfl (pi_list (pe_ix ix_list (pv 1) (pe_ix ix_list (pv 5) (pv 6) (fun _ _ => rfl)) (fun _ _ => rfl))) (pg_tup rfl (pgs_cons (pg_name (i := 7) sc_l_firsts.nd rfl (.inl rfl)) (pgs_cons (pg_name (i := 8) sc_l_firsts.nd rfl (.inl rfl)) (pgs_cons (pg_name (i := 9) sc_l_firsts.nd rfl (.inl rfl)) pgs_nil))))
                (pss_one (ps_if (pt_cmp (pc_dnotin hu (pv 8) (pv 2)))
                  (pss_cons (ps_dput hu (pv 2) (pv 8) pe_bl rfl)
                  (pss_one (ps_expr (pe_bm PySem.F.plainAttrs_list PySem.F.slot_list_append PySem.F.type_list_append mt_append (pv 5) (pa_cons (pv 8) pa_nil)))))
                  pss_nil))))
              pss_nil)))))))
          pss_nil)))
      (pss_one (ps_ret (pv 3))))))), ?_⟩
    have n1 := ok.lo
    have n40 := ok.hi
    have few := ok.few
    obtain ⟨wa, wb, us, rfl, hwa, hwb, hp⟩ := id hW
    refine ⟨.ref wa, rfl, .ref wa, n, ts, rfl, hW, ok, fun L As H0 lA nL hA s0 => ?_⟩
    refine fun D nD => ⟨Nat.zero_le _, fun F' nF => ?_⟩
    have hD1 := same_new (o := .lst []) nF _ _ (upd_same (H := H0) (a := D) (o := .dK []))
    have hF1 := upd_same (H := upd H0 D (.dK [])) (a := F') (o := .lst [])
    have s1 : Same H0 (upd (upd H0 D (.dK [])) F' (.lst [])) := (same_new nD).trans (same_new nF)
    have hFD : F' ≠ D := fun z => by rw [z, upd_same] at nF; cases nF
    have nF0 : H0 F' = none := by rw [upd_ne hFD] at nF; exact nF
    generalize upd (upd H0 D (.dK [])) F' (.lst []) = H1 at hD1 hF1 s1
    refine ⟨.ref wa, rfl, wa, _, 0, .int n, rfl, rfl, SqT.of (s1 _ _ (s0 _ _ hwa)), rfl, n, rfl, by omega, by omega, ?_⟩
    rw [Int.toNat_natCast]
    refine for_range (lo := 0) (n := n) (fun i σ' H' => ∃ (y4 y5 y6 y7 y8 y9 : Option V) (kvs : List (Key × V)) (fs : List Int), σ' = [some (.ref wa), some (.ref L), some (.ref D), some (.ref F'), y4, y5, y6, y7, y8, y9] ∧ H' D = some (.dK kvs) ∧ H' F' = some (.lst (fs.map V.int)) ∧ (∀ x, Kx kvs x → 0 ≤ x ∧ x < n) ∧ (∀ x, Kx kvs x → Clo ts kvs x) ∧ kvs.length + lackN n kvs ≤ n ∧ (∀ x : Int, 0 ≤ x → x < (i : Int) → Kx kvs x) ∧ fs.length ≤ i ∧ (∀ x ∈ fs, (0 ≤ x ∧ x < n) ∧ leader ts x) ∧ Same H0 H') ⟨none, none, none, none, none, none, [], [], rfl, hD1, hF1, (fun x h => absurd rfl h), (fun x h => absurd rfl h), by have := lack_le n []; simpa using this, fun x h0 h1 => by omega, Nat.le_refl _, (fun x h => by cases h), s1⟩ ?_ ?_
    · clear hD1 hF1 s1
      rintro i σ' H2 hi ⟨y4, y5, y6, y7, y8, y9, kvs, fs, rfl, hD2, hF2, rg, cl, kf, all, lf, ld, s2⟩
      rw [show (0 : Int) + (i : Nat) = i from by omega]
      refine ⟨.int i, rfl, .ref D, rfl, D, _, rfl, DGet.k (k := Sum.inl (i : Int)) hD2, _, rfl, ?_⟩
      cases e : valV kvs (Sum.inl (i : Int) : Key) with
      | some v =>
        refine ⟨_, _, _, _, _, _, kvs, fs, rfl, hD2, hF2, rg, cl, kf, fun x h0 h1 => ?_, by omega, ld, s2⟩
        by_cases ex : x = (i : Int)
        · rw [ex]; unfold Kx; rw [e]; simp
        · exact all x h0 (by omega)
      | none =>
        have lm : leader ts (i : Int) := by
          rw [lead_iff ok.ok ⟨by omega, by omega⟩]
          rintro ⟨x, h0, h1, p, r⟩
          exact absurd e (clo_walk cl (all x h0 (by omega)) r)
        refine ⟨.ref F', rfl, .inl ⟨rfl, _, SqL.of hF2⟩, .int i, rfl, F', _, _, rfl, rfl, hF2, by rw [List.length_map]; exact small1000 (by omega), ?_⟩
        have hD3 : (upd H2 F' (.lst (fs.map V.int ++ [.int i]))) D = some (.dK kvs) := by rw [upd_ne (Ne.symm hFD)]; exact hD2
        have hF3 : (upd H2 F' (.lst (fs.map V.int ++ [.int i]))) F' = some (.lst ((fs ++ [(i : Int)]).map V.int)) := by rw [upd_same, List.map_append]; rfl
        have s3 : Same H0 (upd H2 F' (.lst (fs.map V.int ++ [.int i]))) := Same.mut s2 nF0
        generalize upd H2 F' (.lst (fs.map V.int ++ [.int i])) = H3 at hD3 hF3 s3
        refine ⟨.int i, rfl, by show 1 ≤ sizeLine; decide, fun Ln nLn => ?_⟩
        have e4 := same_new (o := .lst [.int i]) nLn
        have nLn0 : H0 Ln = none := s3.free nLn
        have hLD : Ln ≠ D := fun z => by rw [z, hD3] at nLn; cases nLn
        have hLF : Ln ≠ F' := fun z => by rw [z, hF3] at nLn; cases nLn
        have hD4 := e4 _ _ hD3
        have hF4 := e4 _ _ hF3
        have hL4 : (upd H3 Ln (.lst [.int i])) Ln = some (.lst ([(i : Int)].map V.int)) := upd_same
        have s4 := s3.trans e4
        generalize upd H3 Ln (.lst [.int i]) = H4 at hD4 hF4 hL4 s4
        refine ⟨.ref D, rfl, .int i, rfl, D, _, rfl, DPut.k (k := Sum.inl (i : Int)) hD4 (small1000 (show kvs.length ≤ 1000 by omega)), ?_⟩
        have hD5 := upd_same (H := H4) (a := D) (o := .dK (putK kvs (Sum.inl (i : Int)) (.bl true)))
        have hF5 : (upd H4 D (.dK (putK kvs (Sum.inl (i : Int)) (.bl true)))) F' = _ := (upd_ne hFD).trans hF4
        have hL5 : (upd H4 D (.dK (putK kvs (Sum.inl (i : Int)) (.bl true)))) Ln = _ := (upd_ne hLD).trans hL4
        have s5 : Same H0 (upd H4 D (.dK (putK kvs (Sum.inl (i : Int)) (.bl true)))) := Same.mut s4 nD
        generalize upd H4 D (.dK (putK kvs (Sum.inl (i : Int)) (.bl true))) = H5 at hD5 hF5 hL5 s5
        have lp := lack_put (n := n) (v := .bl true) (x := (i : Int)) (by omega) (by omega) e
        have lk := putK_le kvs (Sum.inl (i : Int)) (.bl true)
        have ll := lack_le n kvs
        refine ⟨.ref wa, rfl, wa, _, 0, .int n, rfl, rfl, SqT.of (s5 _ _ (s0 _ _ hwa)), rfl, n, rfl, by omega, by omega, ?_⟩
        rw [Int.toNat_natCast]
        refine for_range (lo := 0) (n := n) (fun j σ' H' => ∃ (y6 y7 y8 y9 : Option V) (kvs : List (Key × V)) (ln : List Int), σ' = [some (.ref wa), some (.ref L), some (.ref D), some (.ref F'), some (.int i), some (.ref Ln), y6, y7, y8, y9] ∧ H' D = some (.dK kvs) ∧ H' F' = some (.lst ((fs ++ [(i : Int)]).map V.int)) ∧ H' Ln = some (.lst (ln.map V.int)) ∧ (∀ x, Kx kvs x → 0 ≤ x ∧ x < n) ∧ (∀ x ∈ ln, Kx kvs x) ∧ (∀ x, Kx kvs x → (∃ k, j ≤ k ∧ ln[k]? = some x) ∨ Clo ts kvs x) ∧ ln.length + lackN n kvs ≤ n ∧ kvs.length + lackN n kvs ≤ n ∧ (∀ x : Int, 0 ≤ x → x < ((i + 1 : Nat) : Int) → Kx kvs x) ∧ Same H0 H') ⟨_, _, _, _, putK kvs (Sum.inl (i : Int)) (.bl true), [(i : Int)], rfl, hD5, hF5, hL5, fun x hx => ?_, fun x hx => ?_, fun x hx => ?_, by simp only [List.length_cons, List.length_nil]; omega, by omega, fun x h0 h1 => ?_, s5⟩ ?_ ?_
        · rcases Kx.of hx with h | h
          · rw [h]; omega
          · exact rg x h
        · rw [List.mem_singleton.mp hx]
          exact Kx.new
        · rcases Kx.of hx with h | h
          · exact .inl ⟨0, Nat.le_refl _, by rw [h]; rfl⟩
          · exact .inr (cl x h).put
        · by_cases ex : x = (i : Int)
          · rw [ex]; exact Kx.new
          · exact (all x h0 (by omega)).put
        · clear hD5 hF5 hL5 s5 hD4 hF4 hL4 s4 e4 nLn hD3 hF3 s3 hD2 hF2 s2 lp lk ll e rg cl kf all
          rintro j σ' H6 hj ⟨y6, y7, y8, y9, kvs, ln, rfl, hD6, hF6, hL6, rg, lnk, cl, lf2, kf, all, s6⟩
          rw [show (0 : Int) + (j : Nat) = j from by omega]
          refine ⟨.int j, rfl, .ref Ln, rfl, Ln, _, rfl, .inl (SqL.of hL6), j, _, rfl, rfl, _, rfl, ?_⟩
          rw [List.length_map]
          by_cases hjl : j < ln.length
          · rw [decide_eq_true (show (j : Int) < ((ln.length : Nat) : Int) by omega)]
            have ep := List.getElem?_eq_getElem hjl
            obtain ⟨p, epp⟩ : ∃ p, p = ln[j] := ⟨_, rfl⟩
            rw [← epp] at ep
            have kp := lnk p (List.mem_of_getElem? ep)
            obtain ⟨p0, p1⟩ := rg p kp
            obtain ⟨a, fa, fa'⟩ := getI (xs := As) p0 (by omega)
            obtain ⟨vs, ha, hpr⟩ := (hA.same s6).each _ _ fa'
            have lvs : vs.length = (entsTo ts ts.length p.toNat).length := Paired.length hpr
            refine ⟨.ref L, rfl, .ref Ln, rfl, .int j, rfl, Ln, _, j, .int p, rfl, rfl, SqL.of hL6, atI_nat (by rw [List.getElem?_map, ep]; rfl), L, _, p, .ref a, rfl, rfl, SqL.of (hA.same s6).at', atI_of p0 (by rw [List.getElem?_map, fa']; rfl), a, rfl, ⟨_, SqL.of ha⟩, ?_⟩
            have ha0 : H0 a = some (.lst vs) := by
              obtain ⟨vs', h0, _⟩ := hA.each _ _ fa'
              have := s6 _ _ h0
              rw [ha] at this
              cases this
              exact h0
            have hpr0 : Paired (EntV H0) vs (entsTo ts ts.length p.toNat) := by
              obtain ⟨vs', h0, h1⟩ := hA.each _ _ fa'
              rw [ha0] at h0
              cases h0
              exact h1
            refine for_list (xs := vs) (fun m σ' H' => ∃ (y7 y8 y9 : Option V) (kvs : List (Key × V)) (ln : List Int), σ' = [some (.ref wa), some (.ref L), some (.ref D), some (.ref F'), some (.int i), some (.ref Ln), some (.int j), y7, y8, y9] ∧ H' D = some (.dK kvs) ∧ H' F' = some (.lst ((fs ++ [(i : Int)]).map V.int)) ∧ H' Ln = some (.lst (ln.map V.int)) ∧ (∀ x, Kx kvs x → 0 ≤ x ∧ x < n) ∧ (∀ x ∈ ln, Kx kvs x) ∧ (∀ x, Kx kvs x → (∃ k, j + 1 ≤ k ∧ ln[k]? = some x) ∨ x = p ∨ Clo ts kvs x) ∧ ln.length + lackN n kvs ≤ n ∧ kvs.length + lackN n kvs ≤ n ∧ (∀ x : Int, 0 ≤ x → x < ((i + 1 : Nat) : Int) → Kx kvs x) ∧ (∀ e ∈ (entsTo ts ts.length p.toNat).take m, Kx kvs e.2.1) ∧ j < ln.length ∧ Same H0 H') ⟨_, _, _, kvs, ln, rfl, hD6, hF6, hL6, rg, lnk, fun x hx => ?_, lf2, kf, all, fun e he => by simp at he, hjl, s6⟩ (fun m σ' H' _ h => by
              obtain ⟨_, _, _, _, _, _, _, _, _, _, _, _, _, _, _, _, _, s⟩ := h
              exact SqL.of (s _ _ ha0)) ?_ ?_
            · rcases cl x hx with ⟨k, h1, h2⟩ | h
              · by_cases ek : k = j
                · rw [ek, ep] at h2
                  exact .inr (.inl (Option.some.inj h2).symm)
                · exact .inl ⟨k, by omega, h2⟩
              · exact .inr (.inr h)
            · clear hD6 hF6 hL6 rg lnk cl lf2 kf all ep epp kp ha hpr fa s6 hjl
              rintro m x σ' H7 ex ⟨y7, y8, y9, kvs, ln, rfl, hD7, hF7, hL7, rg, lnk, cl, lf2, kf, all, done, jl, s7⟩
              obtain ⟨en, ee, c, rfl, hc⟩ := Paired.at hpr0 ex
              have etk : (entsTo ts ts.length p.toNat).take (m + 1) = (entsTo ts ts.length p.toNat).take m ++ [en] := by
                rw [List.take_add_one, ee]
                rfl
              obtain ⟨k0, t0, _, et0, _, _, jt⟩ := (mem_ents ok.ok (Nat.le_refl _)).mp (List.mem_of_getElem? ee)
              have o0 := ok.ok t0 (List.mem_of_getElem? et0)
              have yr : 0 ≤ en.2.1 ∧ en.2.1 < n := by
                obtain ⟨o1, o2, o3, o4, _⟩ := o0
                rcases jt with ⟨h1, h2⟩ | ⟨h1, h2⟩ <;> omega
              refine ⟨c, _, rfl, SqT.of (s7 _ _ hc), rfl, _, _, rfl, _, _, rfl, _, _, rfl, rfl, ?_⟩
              refine ⟨.int en.2.1, rfl, .ref D, rfl, D, _, rfl, DGet.k (k := Sum.inl en.2.1) hD7, _, rfl, ?_⟩
              cases e : valV kvs (Sum.inl en.2.1 : Key) with
              | some v =>
                refine ⟨_, _, _, kvs, ln, rfl, hD7, hF7, hL7, rg, lnk, cl, lf2, kf, all, fun z hz => ?_, jl, s7⟩
                rw [etk] at hz
                rcases List.mem_append.mp hz with h | h
                · exact done z h
                · rw [List.mem_singleton.mp h]
                  unfold Kx
                  rw [e]
                  simp
              | none =>
                have lp := lack_put (n := n) (v := .bl true) yr.1 yr.2 e
                have lk := putK_le kvs (Sum.inl en.2.1) (.bl true)
                refine ⟨.ref D, rfl, .int en.2.1, rfl, D, _, rfl, DPut.k (k := Sum.inl en.2.1) hD7 (small1000 (show kvs.length ≤ 1000 by omega)), ?_⟩
                have hL8 : (upd H7 D (.dK (putK kvs (Sum.inl en.2.1) (.bl true)))) Ln = _ := (upd_ne hLD).trans hL7
                refine ⟨.ref Ln, rfl, .inl ⟨rfl, _, SqL.of hL8⟩, .int en.2.1, rfl, Ln, _, _, rfl, rfl, hL8, by rw [List.length_map]; exact small1000 (by omega), ?_⟩
                refine ⟨_, _, _, putK kvs (Sum.inl en.2.1) (.bl true), ln ++ [en.2.1], rfl, (upd_ne (Ne.symm hLD)).trans upd_same, (upd_ne (Ne.symm hLF)).trans ((upd_ne hFD).trans hF7), by rw [upd_same, List.map_append]; rfl, fun z hz => ?_, fun z hz => ?_, fun z hz => ?_, by rw [List.length_append]; simp only [List.length_cons, List.length_nil]; omega, by omega, fun z h0 h1 => (all z h0 h1).put, fun z hz => ?_, by rw [List.length_append]; omega, Same.mut (Same.mut s7 nD) nLn0⟩
                · rcases Kx.of hz with h | h
                  · rw [h]; exact yr
                  · exact rg z h
                · rcases List.mem_append.mp hz with h | h
                  · exact (lnk z h).put
                  · rw [List.mem_singleton.mp h]
                    exact Kx.new
                · rcases Kx.of hz with h | h
                  · refine .inl ⟨ln.length, by omega, ?_⟩
                    rw [h, List.getElem?_append_right (Nat.le_refl _), Nat.sub_self]
                    rfl
                  · rcases cl z h with ⟨k, h1, h2⟩ | h | h
                    · have kl := (List.getElem?_eq_some_iff.mp h2).1
                      exact .inl ⟨k, h1, by rw [List.getElem?_append_left kl]; exact h2⟩
                    · exact .inr (.inl h)
                    · exact .inr (.inr h.put)
                · rw [etk] at hz
                  rcases List.mem_append.mp hz with h | h
                  · exact (done z h).put
                  · rw [List.mem_singleton.mp h]
                    exact Kx.new
            · rintro σ' H7 ⟨y7, y8, y9, kvs, ln, rfl, hD7, hF7, hL7, rg, lnk, cl, lf2, kf, all, done, jl, s7⟩
              rw [lvs, List.take_length] at done
              refine ⟨_, _, _, _, kvs, ln, rfl, hD7, hF7, hL7, rg, lnk, fun x hx => ?_, lf2, kf, all, s7⟩
              rcases cl x hx with h | h | h
              · exact .inl h
              · refine .inr fun y f ad => ?_
                subst h
                obtain ⟨t, ht, rfl, jt⟩ := ad
                obtain ⟨k, ek⟩ := List.getElem?_of_mem ht
                have kl := (List.getElem?_eq_some_iff.mp ek).1
                exact done ((k : Int), y, t.foe) ((mem_ents ok.ok (Nat.le_refl _)).mpr ⟨k, t, kl, ek, rfl, rfl, by
                  rw [show ((x.toNat : Nat) : Int) = x from by omega]
                  exact jt⟩)
              · exact .inr h
          · rw [decide_eq_false (show ¬ (j : Int) < ((ln.length : Nat) : Int) by omega)]
            refine ⟨_, _, _, _, kvs, ln, rfl, hD6, hF6, hL6, rg, lnk, fun x hx => ?_, lf2, kf, all, s6⟩
            rcases cl x hx with ⟨k, h1, h2⟩ | h
            · have := (List.getElem?_eq_some_iff.mp h2).1
              omega
            · exact .inr h
        · rintro σ' H6 ⟨y6, y7, y8, y9, kvs', ln, rfl, hD6, hF6, hL6, rg6, lnk, cl6, lf2, kf6, all6, s6⟩
          refine ⟨_, _, _, _, _, _, kvs', fs ++ [(i : Int)], rfl, hD6, hF6, rg6, fun x hx => ?_, kf6, all6, by rw [List.length_append]; simp only [List.length_cons, List.length_nil]; omega, fun x hx => ?_, s6⟩
          · rcases cl6 x hx with ⟨k, h1, h2⟩ | h
            · have := (List.getElem?_eq_some_iff.mp h2).1
              omega
            · exact h
          · rcases List.mem_append.mp hx with h | h
            · exact ld x h
            · rw [List.mem_singleton.mp h]
              exact ⟨⟨by omega, by omega⟩, lm⟩
    · rintro σ' H2 ⟨y4, y5, y6, y7, y8, y9, kvs, fs, rfl, hD2, hF2, rg, cl, kf, all, lf, ld, s2⟩
      exact ⟨.ref F', rfl, q F' fs _ (s0.trans s2) hF2 lf ld⟩
end
/-! ### the law: other webs -/
theorem cut_take {xs : List V} {k : Nat} (h : k ≤ xs.length) : cutV xs none (some (k : Int)) = xs.take k := by
  unfold cutV
  rw [HT.sIx_none, HT.sIx_nat, Nat.min_eq_left h, List.drop_zero]
  rfl
theorem cut_drop {xs : List V} {k : Nat} (h : k ≤ xs.length) : cutV xs (some (k : Int)) none = xs.drop k := by
  unfold cutV
  rw [HT.sIx_none, HT.sIx_nat, Nat.min_eq_left h]
  exact List.take_of_length_le (by rw [List.length_drop]; omega)
/-! ### k80: sides, rings -/
structure RingG (n : Int) (ts : List Tie) (ps es : List Int) : Prop where
  pb : ∀ p ∈ ps, 0 ≤ p ∧ p < n
  eb : ∀ e ∈ es, 0 ≤ e ∧ e < (ts.length : Int)
  pd : ps.Nodup
  ed : es.Nodup
  two : 2 ≤ ps.length
  len : ps.length = es.length
  ri : ringI ts ps es = true
def RingAt (H : Hp) (v : V) (ps es : List Int) : Prop := ∃ r a b, v = .ref r ∧ H r = some (.tup [.ref a, .ref b]) ∧ H a = some (.tup (ps.map V.int)) ∧ H b = some (.tup (es.map V.int))
theorem RingAt.tk {H H' : Hp} (k : Tk H H') {v : V} {ps es : List Int} (h : RingAt H v ps es) : RingAt H' v ps es := by
  obtain ⟨r, a, b, e, h1, h2, h3⟩ := h
  exact ⟨r, a, b, e, k _ _ h1, k _ _ h2, k _ _ h3⟩
theorem unl_ints {lim : Int} {ns : List Int} (h : ∀ x ∈ ns, 0 ≤ x ∧ x < lim) (nd : ns.Nodup) : unl lim (some (ns.map V.int)) = true := by
  show ((ns.map V.int).all (wbelow lim) && decide (ns.map V.int).Nodup) = true
  rw [decide_eq_true (nodup_ints.mpr nd), Bool.and_true, List.all_eq_true]
  intro x hx
  obtain ⟨z, hz, rfl⟩ := List.mem_map.mp hx
  obtain ⟨h1, h2⟩ := h z hz
  show (decide (0 ≤ z) && decide (z < lim)) = true
  rw [decide_eq_true h1, decide_eq_true h2]
  rfl
theorem ring_true {H : Hp} {n : Int} {ts : List Tie} {v : V} {ps es : List Int} (h : RingAt H v ps es) (g : RingG n ts ps es) : ringB H n ts v = true := by
  obtain ⟨r, a, b, rfl, h1, h2, h3⟩ := h
  unfold ringB
  rw [parts_of' h1]
  show ringP n ts (parts H (.ref a)) (parts H (.ref b)) = true
  rw [parts_of' h2, parts_of' h3]
  show (unl n (some (ps.map V.int)) && (unl ts.length (some (es.map V.int)) && (decide (2 ≤ (ps.map V.int).length) && (decide ((ps.map V.int).length = (es.map V.int).length) && ringI ts ((ps.map V.int).map toI) ((es.map V.int).map toI))))) = true
  rw [unl_ints g.pb g.pd, unl_ints g.eb g.ed, toI_map, toI_map, List.length_map, List.length_map, g.ri, decide_eq_true g.two, decide_eq_true g.len]
  rfl
theorem odd_val {H : Hp} {n : Int} {ts : List Tie} {v : V} {ps es : List Int} (h : RingAt H v ps es) (g : RingG n ts ps es) : oddB H n ts v = decide (foesI ts es % 2 = 1) := by
  have e := ring_true h g
  obtain ⟨r, a, b, rfl, h1, h2, h3⟩ := h
  unfold oddB
  rw [e, Bool.true_and, parts_of' h1]
  simp only
  rw [parts_of' h3]
  simp only
  rw [toI_map]
theorem ring_thing {H : Hp} {v : V} {ps es : List Int} (h : RingAt H v ps es) (l1 : ps.length ≤ 1000) (l2 : es.length ≤ 1000) : Thing2 H v := by
  obtain ⟨r, a, b, rfl, h1, h2, h3⟩ := h
  have row : ∀ {c : Addr} {ns : List Int}, H c = some (.tup (ns.map V.int)) → ns.length ≤ 1000 → Part2 H (.ref c) := fun {c ns} h l => ⟨.inr (.inl ⟨_, h⟩), fun ys e => by
    rw [parts_of' h] at e
    cases e
    refine ⟨fun y hy => ?_, by rw [List.length_map]; exact l⟩
    obtain ⟨z, _, rfl⟩ := List.mem_map.mp hy
    trivial⟩
  refine ⟨.inr (.inl ⟨_, h1⟩), fun xs e x hx => ?_⟩
  rw [parts_of' h1] at e
  cases e
  simp only [List.mem_cons, List.not_mem_nil, or_false] at hx
  rcases hx with rfl | rfl
  · exact row h2 l1
  · exact row h3 l2
theorem RingG.fewP {n : Nat} {ts : List Tie} {ps es : List Int} (g : RingG n ts ps es) : ps.length ≤ n := pigeon n ps g.pd g.pb
theorem par_step (a : Nat) (f : Bool) : (decide (a % 2 = 1) ^^ f) = decide ((a + (if f = true then 1 else 0)) % 2 = 1) := by
  cases f
  · simp
  · by_cases h : a % 2 = 1
    · rw [decide_eq_true h, decide_eq_false (show ¬ (a + (if true = true then 1 else 0)) % 2 = 1 by simp; omega)]
      rfl
    · rw [decide_eq_false h, decide_eq_true (show (a + (if true = true then 1 else 0)) % 2 = 1 by simp; omega)]
      rfl
theorem ring_rpk {n : Int} {ts : List Tie} {ps es : List Int} (g : RingG n ts ps es) : ∀ k : Nat, k ≤ es.length → RPk ts (ps.getD 0 0) k (ps.getD (k % ps.length) 0) (decide (foesI ts (es.take k) % 2 = 1))
  | 0, _ => by
    rw [Nat.zero_mod]
    exact .nil
  | k + 1, hk => by
    have ih := ring_rpk g k (by omega)
    have l := g.len
    rw [Nat.mod_eq_of_lt (by omega)] at ih
    have ri := g.ri
    unfold ringI at ri
    rw [List.all_eq_true] at ri
    have j := ri k (List.mem_range.mpr (by omega))
    have ee := List.getElem?_eq_getElem (show k < es.length by omega)
    have eg : es.getD k 0 = es[k] := by rw [List.getD_eq_getElem?_getD, ee]; rfl
    rw [eg] at j
    obtain ⟨b0, b1⟩ := g.eb _ (List.getElem_mem (show k < es.length by omega))
    have ad : Adj ts (ps.getD k 0) (ps.getD ((k + 1) % ps.length) 0) (tieAt ts es[k]).foe := by
      refine ⟨_, List.mem_of_getElem? (tieAt_get b0 b1), rfl, ?_⟩
      unfold joinB at j
      simp only [Bool.or_eq_true, Bool.and_eq_true, decide_eq_true_iff] at j
      exact j
    have st := RPk.step ih ad
    rw [par_step] at st
    have ef : foesI ts (es.take (k + 1)) = foesI ts (es.take k) + (if (tieAt ts es[k]).foe = true then 1 else 0) := by
      unfold foesI
      rw [foesI_take ts es ee, List.length_append]
      split <;> rfl
    rw [ef]
    exact st
theorem ring_closed {n : Int} {ts : List Tie} {ps es : List Int} (g : RingG n ts ps es) (odd : foesI ts es % 2 = 1) : (0 ≤ ps.getD 0 0 ∧ ps.getD 0 0 < n) ∧ RPk ts (ps.getD 0 0) es.length (ps.getD 0 0) true := by
  have h := ring_rpk g es.length (Nat.le_refl _)
  have l := g.len
  have t := g.two
  rw [← l, Nat.mod_self, l, List.take_length, decide_eq_true odd] at h
  refine ⟨?_, h⟩
  have e0 := List.getElem?_eq_getElem (show 0 < ps.length by omega)
  rw [List.getD_eq_getElem?_getD, e0]
  exact g.pb _ (List.getElem_mem _)
/-- what is told of a web: a shortest odd ring and layers, or none -/
def ToldS (n : Nat) (ts : List Tie) (H : Hp) (v : V) : Prop := (v = .non ∧ ∀ (x : Int) (k : Nat), ¬ RPk ts x k x true) ∨
  ∃ (W : Nat → List We) (L s : Nat) (t rg ly a b : Addr) (rs ms : List Int) (rows : List V), v = .ref t ∧ H t = some (.tup [.ref rg, .ref ly]) ∧ H rg = some (.tup [.ref a, .ref b]) ∧ H a = some (.tup (rs.map V.int)) ∧ H b = some (.tup (ms.map V.int)) ∧ ms.length = L ∧ H ly = some (.tup rows) ∧ Paired (IntsV H) rows ((List.range n).map fun p => rowW (W p) L (2 * n)) ∧
    (∀ p, p < n → Wks ts p (W p)) ∧ s < n ∧ odL (W s) s = some L ∧ (∀ p k : Nat, p < n → odL (W p) p = some k → L ≤ k) ∧ RingO ts rs ms ∧ (∀ x ∈ rs, x < n)
theorem ToldS.tk {H H' : Hp} (k : Tk H H') {n : Nat} {ts : List Tie} {v : V} (h : ToldS n ts H v) : ToldS n ts H' v := by
  rcases h with h | ⟨W, L, s, t, rg, ly, a, b, rs, ms, rows, e, h1, h2, h3, h4, h5, h6, h7, h8⟩
  · exact .inl h
  · exact .inr ⟨W, L, s, t, rg, ly, a, b, rs, ms, rows, e, k _ _ h1, k _ _ h2, k _ _ h3, k _ _ h4, h5, k _ _ h6, Paired.mono (fun _ _ x => x.tk k) h7, h8⟩
theorem lay_told' {n : Nat} {ts : List Tie} (ok : ∀ t ∈ ts, TieOk n t) {W : Nat → List We} (wks : ∀ p, p < n → Wks ts p (W p)) {L : Nat} {H : Hp} {ly : Addr} {rows : List V} (h5 : H ly = some (.tup rows)) (h6 : Paired (IntsV H) rows ((List.range n).map fun p => rowW (W p) L (2 * n))) : LayAt H (.ref ly) n ts ((List.range n).map fun p => rowW (W p) L (2 * n)) := by
  refine ⟨ly, rows, rfl, h5, h6, by rw [List.length_map, List.length_range], fun s row e => ?_⟩
  rw [List.getElem?_map] at e
  obtain ⟨p, hp, rfl⟩ := Option.map_eq_some_iff.mp e
  have hl := (List.getElem?_eq_some_iff.mp hp).1
  rw [List.length_range] at hl
  rw [List.getElem?_range hl] at hp
  obtain rfl := Option.some.inj hp
  exact row_told ok hl (wks _ hl)
theorem lay_not {n : Nat} {ts : List Tie} {W : Nat → List We} {L : Nat} (wks : ∀ p, p < n → Wks ts p (W p)) {H : Hp} {v : V} (h : LayAt H v n ts ((List.range n).map fun p => rowW (W p) L (2 * n))) {x : Int} {m : Nat} (hx : 0 ≤ x ∧ x < n) (r : RPk ts x m x true) : layB H n ts ((m : Int) + 1) v = false := by
  obtain ⟨p, rfl⟩ : ∃ p : Nat, x = p := ⟨x.toNat, by omega⟩
  have hp : p < n := by omega
  rw [Bool.eq_false_iff]
  intro z
  have z1 := (h.judge _).mp z p (rowW (W p) L (2 * n)) (by rw [List.getElem?_map, List.getElem?_range hp]; rfl)
  rw [gI_rowW (by omega) (by push_cast; omega)] at z1
  cases ho : odL (W p) p with
  | none => exact (odL_none (wks p hp)).mp ho m r
  | some k =>
    have g := ((odL_some (wks p hp)).mp ho).2 m r
    have e2 : lvW (W p) (2 * (p : Int) + 1) = some k := ho
    rw [e2] at z1
    have h2 : (m : Int) + 1 ≤ (k : Int) := z1
    omega
def spRingR (Ps : List Addr) : Sp := fun vs H Q _ => ∃ (wv v told : V) (n : Nat) (ts : List Tie) (ps es : List Int), vs = [wv, v, told] ∧ WebAt H wv n ts ∧ WebOk n ts ∧ RingAt H v ps es ∧ RingG n ts ps es ∧ ToldS n ts H told ∧ Tabs Ps H ∧ ∀ H', Kt Ps H H' → Q (.bl true) H'
def spSidesR (Ps : List Addr) : Sp := fun vs H Q _ => ∃ (wv : V) (a : Addr) (n : Nat) (ts : List Tie) (ss : List Int), vs = [wv, .ref a] ∧ WebAt H wv n ts ∧ WebOk n ts ∧ H a = some (.tup (ss.map V.int)) ∧ Told ts n ss ∧ Cons ss ts ∧ Tabs Ps H ∧ ∀ H', Kt Ps H H' → Q (.bl true) H'
theorem told_lead {n : Nat} {ts : List Tie} {ss : List Int} (ok : ∀ t ∈ ts, TieOk n t) (tl : Told ts n ss) (c : Cons ss ts) {x : Int} (h0 : 0 ≤ x) (h1 : x < n) (lx : leader ts x) : sd ss x = 0 := by
  obtain ⟨m, lm, r⟩ := tl.each x h0 h1
  have em : m = x := leader_one lm lx ⟨_, r⟩ ⟨_, .nil⟩
  subst em
  have no := cons_no_odd (n := n) tl.bin (by rw [tl.len]; exact ok) c
  have b := sd_bin tl.bin h0 (by rw [tl.len]; exact h1)
  rcases b with b | b
  · exact b
  · have : one? ss m = true := by unfold one?; exact decide_eq_true b
    rw [this] at r
    exact absurd ⟨m, ⟨h0, h1⟩, r⟩ no
theorem ne_friend (x y : Int) (f : Bool) : (!decide (V.bl (decide (V.int x = V.int y)) = V.bl (decide (V.str (kindS f) = V.str "friend")))) = (decide (x = y) == f) := by
  rw [dec_int]
  cases decide (x = y) <;> cases f <;> rfl
section
variable {P : Program} {w : World} {K : PySem.W.Frag} {mg : Str → Option Value} {base : Heap}
theorem ok_l_sides_right {f : Addr} {fd : FuncData} {Ps : List Addr} (F : Fun K "_law_sides_right" "_law_sides_right" s_l_sides_right f fd) (M : Free mg) (D_l_firsts : Df P w K mg base 2 "_law_firsts" ["_law_web_here"] spFirsts80) (D_broken_by : Df P w K mg base 2 "broken_by" ["web", "sides"] spBroken) (D_sides_hold : Df P w K mg base 5 "sides_hold" ["web", "thing"] (spSidesHold Ps)) : FnOk P w K mg base CX0 6 f fd ["_law_web_here", "_law_sides"] (spSidesR Ps) := by
  obtain ⟨f_l_firsts, fd_l_firsts, G_l_firsts, g_l_firsts, k_l_firsts, b_l_firsts⟩ := D_l_firsts
  obtain ⟨f_broken_by, fd_broken_by, G_broken_by, g_broken_by, k_broken_by, b_broken_by⟩ := D_broken_by
  obtain ⟨f_sides_hold, fd_sides_hold, G_sides_hold, g_sides_hold, k_sides_hold, b_sides_hold⟩ := D_sides_hold
  refine F.ok sc_l_sides_right (fun vs H Q E h => ?_) (fun cdv A outer s H vs Q E hr h => ?_)
  · obtain ⟨wv, a, n, ts, ss, rfl, _⟩ := h
    rfl
  · obtain ⟨wv, a, n, ts, ss, rfl, hW, ok, ha, tl, cons, hT, q⟩ := h
    refine ⟨_, (pss_cons (ps_if (PW.pt (pw_or (pt_not (pt_val (pe_callB call_isi (by rfl) M.isinstance (by decide +kernel) (pa_cons (pv 1) (pa_cons (pe_bltn (v := .ty "tuple") (by rfl) M.tuple (by decide +kernel) rfl) pa_nil))))) (pw_or1 (pt_cmpR op_ne (pe_callB call_len_seq (by rfl) M.len PySem.boot_len (pa_cons (pv 1) pa_nil)) (pe_ix ix_tup (pv 0) pe_int (fun _ _ => rfl)) (nomark _)))))
        (pss_one (ps_ret pe_bl))
        pss_nil)
      (pss_cons (ps_for PassesOwn.never rfl (pi_tup (pv 1)) (pg_name (i := 2) sc_l_sides_right.nd rfl (.inl rfl))
        (pss_one (ps_if (PW.pt (pw_or (pt_val (pe_callB call_isi (by rfl) M.isinstance (by decide +kernel) (pa_cons (pv 2) (pa_cons (pe_bltn (v := .ty "bool") (by rfl) M.bool (by decide +kernel) rfl) pa_nil)))) (pw_or (pt_not (pt_val (pe_callB call_isi (by rfl) M.isinstance (by decide +kernel) (pa_cons (pv 2) (pa_cons (pe_bltn (v := .ty "int") (by rfl) M.int (by decide +kernel) rfl) pa_nil))))) (pw_or1 (pt_cmpR op_notIn_seq (pv 2) (pe_tup (pa_cons pe_int (pa_cons pe_int pa_nil))) rfl)))))
          (pss_one (ps_ret pe_bl))
          pss_nil)))
      (pss_cons (ps_for PassesOwn.never rfl (pi_tup (pe_ix ix_tup (pv 0) pe_int (fun _ _ => rfl))) (pg_tup rfl (pgs_cons (pg_name (i := 2) sc_l_sides_right.nd rfl (.inl rfl)) (pgs_cons (pg_name (i := 3) sc_l_sides_right.nd rfl (.inl rfl)) (pgs_cons (pg_name (i := 4) sc_l_sides_right.nd rfl (.inl rfl)) pgs_nil))))
        (pss_one (ps_if (pt_cmpR op_ne (pe_cmpR op_eq (pe_ix ix_tup (pv 1) (pv 2) (fun _ _ => rfl)) (pe_ix ix_tup (pv 1) (pv 3) (fun _ _ => rfl)) (nomark _)) (pe_cmpR op_eq (pv 4) pe_str (nomark _)) (nomark _))
          (pss_one (ps_ret pe_bl))
          pss_nil)))
      (pss_cons (ps_if (pt_cmpR (op_neE hr.units0) (pe_lc (own := [("_law_place", 5)]) (g := (gName 5)) (te := tVar 5) rfl sc_l_sides_right.nd (pi_list (pe_call G_l_firsts (hr.mono (by decide)) (by rfl) g_l_firsts k_l_firsts b_l_firsts .nil pass0 (pa_cons (pv 0) pa_nil))) (blkOk_by (N := N_l_sides_right) (sc := defScope s_l_sides_right) (own := [("_law_place", 5)]) (by decide +kernel)) (fun _ _ _ _ _ => (pg_name (i := 5) sc_l_sides_right.nd rfl (.inl rfl))) (fun _ _ _ _ _ => (pts_one (pt_cmpR op_ne (pe_ix (r := rIxT K) ix_tup (pv 1) (pv 5) (fun _ _ => rfl)) pe_int (nomark _)))) (fun _ _ _ _ _ => (pv 5))) (pe_lst pa_nil) (nomark _))
        (pss_one (ps_ret pe_bl))
        pss_nil)
      (pss_one (ps_ret (pe_and (pe_cmpR op_isBl (pe_call G_sides_hold (hr.mono (by decide)) (by rfl) g_sides_hold k_sides_hold b_sides_hold .nil pass0 (pa_cons (pv 0) (pa_cons (pv 1) pa_nil))) pe_bl (nomark _)) (pe_one (pe_cmpR (op_eqD hr.units) (pe_call G_broken_by (hr.mono (by decide)) (by rfl) g_broken_by k_broken_by b_broken_by .nil pass0 (pa_cons (pv 0) (pa_cons (pv 1) pa_nil))) (pe_tup pa_nil) (nomark _)))))))))), ?_⟩
    obtain ⟨wa, wb, us, rfl, hwa, hwb, hp⟩ := id hW
    have n40 := ok.hi
    have lus : us.length = ts.length := Paired.length hp
    have ls := tl.len
    obtain ⟨t1, h1, e1⟩ := kn_tup (K := K) (H := H) (v := .ref a) (.inr (.inl ⟨_, ha⟩))
    rw [isT_of ha] at e1
    refine ⟨.ref a, rfl, .ref a, _, t1, _, _, rfl, .ty "tuple", h1, e1, _, rfl, ?_⟩
    refine ⟨.ref a, rfl, a, _, rfl, .inr (SqT.of ha), .ref wa, rfl, wa, _, 0, .int n, rfl, rfl, SqT.of hwa, rfl, rfl, _, rfl, ?_⟩
    rw [List.length_map, ls, decide_eq_true rfl]
    refine ⟨.ref a, rfl, a, rfl, ⟨_, SqT.of ha⟩, ?_⟩
    refine for_tup (xs := ss.map V.int) (fun i σ' H' => ∃ y2 y3 y4 : Option V, σ' = [some (.ref wa), some (.ref a), y2, y3, y4, none] ∧ Same H H') ⟨none, none, none, rfl, Same.refl _⟩ (fun i σ' H' _ h => by
      obtain ⟨_, _, _, _, s⟩ := h
      exact SqT.of (s _ _ ha)) ?_ ?_
    · rintro i x σ' H1 ex ⟨y2, y3, y4, rfl, s1⟩
      rw [List.getElem?_map] at ex
      obtain ⟨z, ez, rfl⟩ := Option.map_eq_some_iff.mp ex
      have bz := tl.bin z (List.mem_of_getElem? ez)
      obtain ⟨t2, h2, e2⟩ := kn_bool (K := K) (H := H1) (v := .int z) trivial
      obtain ⟨t3, h3, e3⟩ := kn_int (K := K) (H := H1) (v := .int z) trivial
      refine ⟨.int z, rfl, .int z, _, t2, _, _, rfl, .ty "bool", h2, e2, _, rfl, ?_⟩
      refine ⟨.int z, rfl, .int z, _, t3, _, _, rfl, .ty "int", h3, e3, _, rfl, ?_⟩
      refine ⟨.int z, rfl, by show 2 ≤ sizeLine; decide, fun p np => ⟨p, _, rfl, .inr (SqT.of upd_same), rfl, rfl, _, rfl, ?_⟩⟩
      have ei : (!inV (.int z) [V.int 0, V.int 1]) = false := by
        rw [in_two]
        rcases bz with rfl | rfl <;> rfl
      rw [if_pos rfl, ei]
      exact ⟨_, _, _, rfl, s1.trans (same_new np)⟩
    · rintro σ' H1 ⟨y2, y3, y4, rfl, s1⟩
      refine ⟨.ref wa, rfl, wa, _, 1, .ref wb, rfl, rfl, SqT.of (s1 _ _ hwa), rfl, wb, rfl, ⟨_, SqT.of (s1 _ _ hwb)⟩, ?_⟩
      refine for_tup (xs := us) (fun i σ' H' => ∃ y2 y3 y4 : Option V, σ' = [some (.ref wa), some (.ref a), y2, y3, y4, none] ∧ Same H H') ⟨_, _, _, rfl, s1⟩ (fun i σ' H' _ h => by
        obtain ⟨_, _, _, _, s⟩ := h
        exact SqT.of (s _ _ hwb)) ?_ ?_
      · rintro i x σ' H2 ex ⟨y2, y3, y4, rfl, s2⟩
        obtain ⟨t, et, c, rfl, hc⟩ := Paired.at hp ex
        have mt := List.mem_of_getElem? et
        obtain ⟨o1, o2, o3, o4, _⟩ := ok.ok t mt
        refine ⟨c, _, rfl, SqT.of (s2 _ _ hc), rfl, _, _, rfl, _, _, rfl, _, _, rfl, rfl, ?_⟩
        refine ⟨.ref a, rfl, .int t.one, rfl, a, _, t.one, _, rfl, rfl, SqT.of (s2 _ _ ha), atI_sd o1 (by omega), .ref a, rfl, .int t.other, rfl, a, _, t.other, _, rfl, rfl, SqT.of (s2 _ _ ha), atI_sd o3 (by omega), rfl, .str (kindS t.foe), rfl, rfl, rfl, _, rfl, ?_⟩
        rw [ne_friend, show (decide (sd ss t.one = sd ss t.other) == t.foe) = false from cons t mt]
        exact ⟨_, _, _, rfl, s2⟩
      · rintro σ' H2 ⟨y2, y3, y4, rfl, s2⟩
        have hW2 := hW.tk (Same.tk s2)
        refine ⟨.ref wa, rfl, .ref wa, n, ts, rfl, hW2, ok, fun p fs H3 s3 h3 lf ld => ⟨p, rfl, ⟨_, SqL.of h3⟩, fun Z nZ => ?_⟩⟩
        have s23 := s2.trans s3
        refine lc_list (K := K) (xs := fs.map V.int) (fun j H' => H' Z = some (.lst []) ∧ Same H3 H') ⟨upd_same, same_new nZ⟩ (fun j H' _ h => SqL.of (h.2 _ _ h3)) ?_ ?_
        · rintro j x H4 ex ⟨hZ, s4⟩
          rw [List.getElem?_map] at ex
          obtain ⟨z, ez, rfl⟩ := Option.map_eq_some_iff.mp ex
          obtain ⟨⟨z0, z1⟩, lz⟩ := ld z (List.mem_of_getElem? ez)
          have e0 := told_lead ok.ok tl cons z0 z1 lz
          refine ⟨rfl, .ref a, rfl, .int z, rfl, a, _, z, _, rfl, rfl, SqT.of (s4 _ _ (s23 _ _ ha)), atI_sd z0 (by omega), rfl, _, rfl, ?_⟩
          rw [e0, decide_eq_true rfl]
          exact ⟨hZ, s4⟩
        · rintro H4 ⟨hZ, s4⟩
          refine ⟨Nat.zero_le _, fun e ne => ⟨Z, e, [], rfl, rfl, SqL.of (same_new ne _ _ hZ), SqL.of upd_same, _, rfl, ?_⟩⟩
          have e5 := same_new (o := .lst []) ne
          have s05 := s23.trans (s4.trans e5)
          have ha5 := s05 _ _ ha
          have hW5 := hW.tk (Same.tk s05)
          have hT5 := hT.same s05
          refine ⟨.ref wa, rfl, .ref a, rfl, .ref wa, n, ts, .ref a, rfl, hW5, ok, ⟨.inr (.inl ⟨_, ha5⟩), fun xs ex => ?_⟩, hT5, fun H6 k6 => ?_⟩
          · rw [parts_of' ha5] at ex
            cases ex
            refine ⟨by rw [List.length_map]; omega, fun x hx => ?_⟩
            obtain ⟨z, _, rfl⟩ := List.mem_map.mp hx
            trivial
          · have sb : sidesB n (parts (upd H4 e (.lst [])) (.ref a)) = true := by
              rw [parts_of' ha5]
              show (decide (((ss.map V.int).length : Int) = n) && (ss.map V.int).all (wbelow 2)) = true
              rw [List.length_map, ls, decide_eq_true rfl, Bool.true_and, List.all_eq_true]
              intro x hx
              obtain ⟨z, hz, rfl⟩ := List.mem_map.mp hx
              rcases tl.bin z hz with rfl | rfl <;> rfl
            have hb : holdB n ts (parts (upd H4 e (.lst [])) (.ref a)) = true := by
              rw [hold_yes sb (parts_of' ha5), List.all_eq_true]
              intro t ht
              rw [cons t ht]
              rfl
            rw [hb]
            have ha6 := k6.tup hT5 ha5
            refine ⟨_, _, rfl, rfl, _, rfl, ?_⟩
            refine ⟨.ref wa, rfl, .ref a, rfl, .ref wa, a, n, ts, ss, rfl, hW5.tk (k6.tk hT5), ok, ha6, by rw [ls], fun r H7 s7 h7 => ⟨by show 0 ≤ sizeLine; decide, fun z nz => ?_⟩⟩
            have b0 : bad ss ts = [] := (bad_nil (ss := ss) (ts := ts)).mpr cons
            rw [b0] at h7
            have e8 := same_new (o := .tup []) nz
            have dp : ∀ {H' : Hp} {c : Addr}, H' c = some (.tup []) → Dp K H' (.ref c) (.tuple []) := fun h => .tup (SqT.of h) .nil
            refine ⟨_, _, dp (e8 _ _ h7), dp upd_same, by decide +kernel, by decide +kernel, ?_⟩
            rw [SeqAt.eqv_refl _ (by decide +kernel)]
            exact q _ ((Kt.same hT s05).trans (k6.trans (Kt.same k6.tab (s7.trans e8))))
theorem ok_l_ring_right {f : Addr} {fd : FuncData} {Ps : List Addr} (F : Fun K "_law_ring_right" "_law_ring_right" s_l_ring_right f fd) (M : Free mg) (D_foes_in : Df P w K mg base 1 "foes_in" ["web", "ring"] spFoes) (D_ring_holds : Df P w K mg base 5 "ring_holds" ["web", "thing"] (spRing Ps)) (D_odd_ring_holds : Df P w K mg base 6 "odd_ring_holds" ["web", "thing"] (spOdd Ps)) (D_layers_hold : Df P w K mg base 8 "layers_hold" ["web", "number", "thing"] (spLayersHold Ps)) : FnOk P w K mg base CX0 9 f fd ["_law_web_here", "_law_ring", "_law_told"] (spRingR Ps) := by
  obtain ⟨f_foes_in, fd_foes_in, G_foes_in, g_foes_in, k_foes_in, b_foes_in⟩ := D_foes_in
  obtain ⟨f_ring_holds, fd_ring_holds, G_ring_holds, g_ring_holds, k_ring_holds, b_ring_holds⟩ := D_ring_holds
  obtain ⟨f_odd_ring_holds, fd_odd_ring_holds, G_odd_ring_holds, g_odd_ring_holds, k_odd_ring_holds, b_odd_ring_holds⟩ := D_odd_ring_holds
  obtain ⟨f_layers_hold, fd_layers_hold, G_layers_hold, g_layers_hold, k_layers_hold, b_layers_hold⟩ := D_layers_hold
  refine F.ok sc_l_ring_right (fun vs H Q E h => ?_) (fun cdv A outer s H vs Q E hr h => ?_)
  · obtain ⟨wv, v, told, n, ts, ps, es, rfl, _⟩ := h
    rfl
  · obtain ⟨wv, v, told, n, ts, ps, es, rfl, hW, ok, hr0, g, hS, hT, q⟩ := h
    refine ⟨_, (pss_cons (ps_set (i := 3) sc_l_ring_right.nd rfl (.inl rfl) (pe_callB call_len_seq (by rfl) M.len PySem.boot_len (pa_cons (pe_lc (own := [("_law_number", 4)]) (g := (gName 4)) (te := tVar 4) rfl sc_l_ring_right.nd (pi_tup (pe_ix ix_tup (pv 1) pe_int (fun _ _ => rfl))) (blkOk_by (N := N_l_ring_right) (sc := defScope s_l_ring_right) (own := [("_law_number", 4)]) (by decide +kernel)) (fun _ _ _ _ _ => (pg_name (i := 4) sc_l_ring_right.nd rfl (.inl rfl))) (fun _ _ _ _ _ => (pts_one (pt_cmpR op_eq (pe_ix (r := rIxT K) ix_tup (pe_ix (r := rIxT K) ix_tup (pe_ix (r := rIxT K) ix_tup (pv 0) pe_int (fun _ _ => rfl)) (pv 4) (fun _ _ => rfl)) pe_int (fun _ _ => rfl)) pe_str (nomark _)))) (fun _ _ _ _ _ => (pv 4))) pa_nil)))
      (pss_cons (ps_if (PW.pt (pw_or (pt_cmpR op_isnot_bl (pe_call G_ring_holds (hr.mono (by decide)) (by rfl) g_ring_holds k_ring_holds b_ring_holds .nil pass0 (pa_cons (pv 0) (pa_cons (pv 1) pa_nil))) pe_bl (nomark _)) (pw_or1 (pt_cmpR op_ne (pe_call G_foes_in (hr.mono (by decide)) (by rfl) g_foes_in k_foes_in b_foes_in .nil pass0 (pa_cons (pv 0) (pa_cons (pv 1) pa_nil))) (pv 3) (nomark _)))))
        (pss_one (ps_ret pe_bl))
        pss_nil)
      (pss_cons (ps_set (i := 5) sc_l_ring_right.nd rfl (.inl rfl) (pe_call G_odd_ring_holds (hr.mono (by decide)) (by rfl) g_odd_ring_holds k_odd_ring_holds b_odd_ring_holds .nil pass0 (pa_cons (pv 0) (pa_cons (pv 1) pa_nil))))
      (pss_cons (ps_if (PW.pt (pw_or (pt_not (pt_val (pe_callB call_isi (by rfl) M.isinstance (by decide +kernel) (pa_cons (pv 5) (pa_cons (pe_bltn (v := .ty "bool") (by rfl) M.bool (by decide +kernel) rfl) pa_nil))))) (pw_or1 (pt_cmpR op_ne (pv 5) (pe_cmpR op_eq (pe_op op_mod (pv 3) pe_int) pe_int (nomark _)) (nomark _)))))
        (pss_one (ps_ret pe_bl))
        pss_nil)
      (pss_cons (ps_if (pt_cmpR op_eq (pe_op op_mod (pv 3) pe_int) pe_int (nomark _))
        (pss_one (ps_ret pe_bl))
        pss_nil)
      (pss_cons (ps_if (PW.pt (pw_or (pt_cmpR op_isN (pv 2) pe_non (nomark _)) (pw_or1 (pt_cmpR op_gt (pe_callB call_len_seq (by rfl) M.len PySem.boot_len (pa_cons (pe_ix ix_tup (pe_ix ix_tup (pv 2) pe_int (fun _ _ => rfl)) pe_int (fun _ _ => rfl)) pa_nil)) (pe_callB call_len_seq (by rfl) M.len PySem.boot_len (pa_cons (pe_ix ix_tup (pv 1) pe_int (fun _ _ => rfl)) pa_nil)) (nomark _)))))
        (pss_one (ps_ret pe_bl))
        pss_nil)
      (pss_one (ps_ret (pe_cmpR op_isBl (pe_call G_layers_hold (hr.mono (by decide)) (by rfl) g_layers_hold k_layers_hold b_layers_hold .nil pass0 (pa_cons (pv 0) (pa_cons (pe_op op_add (pe_callB call_len_seq (by rfl) M.len PySem.boot_len (pa_cons (pe_ix ix_tup (pv 1) pe_int (fun _ _ => rfl)) pa_nil)) pe_int) (pa_cons (pe_ix ix_tup (pv 2) pe_int (fun _ _ => rfl)) pa_nil)))) pe_bl (nomark _)))))))))), ?_⟩
    have fp := g.fewP
    have gl := g.len
    have n40 := ok.hi
    obtain ⟨r, a, b, rfl, h1, h2, h3⟩ := id hr0
    obtain ⟨wa, wb, us, rfl, hwa, hwb, hp⟩ := id hW
    refine ⟨.ref r, rfl, r, _, 1, .ref b, rfl, rfl, SqT.of h1, rfl, b, rfl, ⟨_, SqT.of h3⟩, fun Z nZ => ?_⟩
    refine lc_tup (K := K) (xs := es.map V.int) (fun j H' => H' Z = some (.lst (((es.take j).filter fun e => (tieAt ts e).foe).map V.int)) ∧ Same H H') ⟨upd_same, same_new nZ⟩ (fun j H' _ h => SqT.of (h.2 _ _ h3)) ?_ ?_
    · rintro j x H1 ex ⟨hZ, s1⟩
      rw [List.getElem?_map] at ex
      obtain ⟨e, he, rfl⟩ := Option.map_eq_some_iff.mp ex
      obtain ⟨z0, z1⟩ := g.eb e (List.mem_of_getElem? he)
      have hj := (List.getElem?_eq_some_iff.mp he).1
      obtain ⟨u, eu, cc, rfl, hcc⟩ := Paired.at' hp (tieAt_get z0 z1)
      refine ⟨rfl, .ref wa, rfl, wa, _, 1, .ref wb, rfl, rfl, SqT.of (s1 _ _ hwa), rfl, .int e, rfl, wb, us, e, .ref cc, rfl, rfl, SqT.of (s1 _ _ hwb), atI_of z0 eu, cc, _, 2, _, rfl, rfl, SqT.of (s1 _ _ hcc), rfl, rfl, _, rfl, ?_⟩
      have lf : ((es.take j).filter fun e => (tieAt ts e).foe).length ≤ j := by
        have := List.length_filter_le (fun e => (tieAt ts e).foe) (es.take j)
        rw [List.length_take] at this
        omega
      rw [foesI_take ts es he, List.map_append]
      cases hf : (tieAt ts e).foe with
      | true => exact ⟨.int e, rfl, _, hZ, by rw [List.length_map]; exact small1000 (by omega), upd_same, Same.mut s1 nZ⟩
      | false =>
        show H1 Z = some (.lst (_ ++ [])) ∧ _
        rw [List.append_nil]
        exact ⟨hZ, s1⟩
    · rintro H1 ⟨hZ, s1⟩
      rw [List.length_map, List.take_length] at hZ
      refine ⟨Z, _, rfl, .inl (SqL.of hZ), ?_⟩
      rw [List.length_map]
      have hT1 := hT.same s1
      have hW1 := hW.tk (Same.tk s1)
      have hr1 := hr0.tk (Same.tk s1)
      have th : ∀ {H' : Hp}, RingAt H' (.ref r) ps es → Thing2 H' (.ref r) := fun h => ring_thing h (by omega) (by omega)
      refine ⟨.ref wa, rfl, .ref r, rfl, .ref wa, n, ts, .ref r, rfl, hW1, ok, th hr1, hT1, fun H2 k2 => ?_⟩
      rw [ring_true hr1 g]
      have hT2 : Tabs Ps H2 := k2.tab
      have hW2 := hW1.tk (k2.tk hT1)
      have hr2 := hr1.tk (k2.tk hT1)
      refine ⟨_, _, rfl, rfl, _, rfl, ?_⟩
      obtain ⟨r', a', b', er', g1, g2, g3⟩ := id hr2
      cases er'
      refine ⟨.ref wa, rfl, .ref r, rfl, .ref wa, n, ts, r, b', .ref a', es, rfl, hW2, g1, g3, g.eb, by omega, fun H3 s3 => ⟨.int (foesI ts es : Nat), rfl, rfl, _, rfl, ?_⟩⟩
      have hT3 := hT2.same s3
      have hW3 := hW2.tk (Same.tk s3)
      have hr3 := hr2.tk (Same.tk s3)
      refine ite2 (fun z => absurd z (by rw [decide_eq_true rfl]; decide)) (fun _ => ?_)
      refine ⟨.ref wa, rfl, .ref r, rfl, .ref wa, n, ts, .ref r, rfl, hW3, ok, th hr3, hT3, fun H4 k4 => ?_⟩
      rw [odd_val hr3 g]
      have hT4 : Tabs Ps H4 := k4.tab
      have hW4 := hW3.tk (k4.tk hT3)
      have hr4 := hr3.tk (k4.tk hT3)
      have k04 : Kt Ps H H4 := (Kt.same hT s1).trans (k2.trans ((Kt.same hT2 s3).trans k4))
      have hS4 := hS.tk (k04.tk hT)
      generalize ho : decide (foesI ts es % 2 = 1) = o
      obtain ⟨t2, i2, j2⟩ := kn_bool (K := K) (H := H4) (v := .bl o) trivial
      refine ⟨.bl o, rfl, .bl o, _, t2, _, _, rfl, .ty "bool", i2, j2, _, rfl, ?_⟩
      refine ⟨.bl o, rfl, .int (foesI ts es : Nat), rfl, _, 2, rfl, rfl, (show (0 : Int) < 2 by decide), rfl, rfl, _, rfl, ?_⟩
      have eo : decide (V.int ((foesI ts es : Int) % 2) = V.int 1) = o := by
        rw [← ho, dec_int]
        by_cases h : foesI ts es % 2 = 1
        · rw [decide_eq_true h, decide_eq_true (by omega)]
        · rw [decide_eq_false h, decide_eq_false (by omega)]
      refine ite2 (fun z => absurd z (by rw [eo, decide_eq_true rfl]; decide)) (fun _ => ?_)
      refine ⟨.int (foesI ts es : Nat), rfl, _, 2, rfl, rfl, (show (0 : Int) < 2 by decide), rfl, _, rfl, ite2 (fun _ => q _ k04) (fun ne => ?_)⟩
      have od : foesI ts es % 2 = 1 := by
        by_cases h : foesI ts es % 2 = 1
        · exact h
        · exact absurd (decide_eq_true (show V.int (((foesI ts es : Nat) : Int) % 2) = V.int 0 by rw [show ((foesI ts es : Nat) : Int) % 2 = 0 by omega])) ne
      obtain ⟨rng0, rpk⟩ := ring_closed g od
      obtain ⟨r'', a'', b'', er'', q1, q2, q3⟩ := id hr4
      cases er''
      rcases hS4 with ⟨rfl, none⟩ | ⟨W, L, s, t, rg, ly, ra, rb, rs, ms, rows, rfl, w1, w2, w3, w4, w5, w6, w7, wks, hs, hos, hmin, ro, rsb⟩
      · exact absurd rpk (none _ _)
      · have least : L ≤ es.length := by
          obtain ⟨p, ep⟩ : ∃ p : Nat, ps.getD 0 0 = p := ⟨(ps.getD 0 0).toNat, by omega⟩
          rw [ep] at rpk rng0
          have hp : p < n := by omega
          cases e : odL (W p) p with
          | none => exact absurd rpk ((odL_none (wks p hp)).mp e _)
          | some k =>
            have h1 := ((odL_some (wks p hp)).mp e).2 _ rpk
            have h2 := hmin p k hp e
            omega
        refine ⟨.ref t, rfl, rfl, _, rfl, ite2 (fun z => absurd (of_decide_eq_true z) (fun z => by cases z)) (fun _ => ?_)⟩
        refine ⟨.ref t, rfl, t, _, 0, .ref rg, rfl, rfl, SqT.of w1, rfl, rg, _, 1, .ref rb, rfl, rfl, SqT.of w2, rfl, rb, _, rfl, .inr (SqT.of w4), .ref r, rfl, r, _, 1, .ref b'', rfl, rfl, SqT.of q1, rfl, b'', _, rfl, .inr (SqT.of q3), _, _, rfl, rfl, _, rfl, ite2 (fun z => absurd (of_decide_eq_true z) (by rw [List.length_map, List.length_map]; omega)) (fun _ => ?_)⟩
        have lay := lay_told' ok.ok wks w6 w7
        refine ⟨.ref wa, rfl, .ref r, rfl, r, _, 1, .ref b'', rfl, rfl, SqT.of q1, rfl, b'', _, rfl, .inr (SqT.of q3), _, 1, rfl, rfl, .ref t, rfl, t, _, 1, .ref ly, rfl, rfl, SqT.of w1, rfl, .ref wa, n, ts, ((es.map V.int).length : Nat) + 1, .ref ly, rfl, hW4, ok, lay.thing, hT4, fun H5 k5 => ?_⟩
        rw [List.length_map, lay_not wks lay rng0 rpk]
        exact ⟨_, _, rfl, rfl, q _ (k04.trans k5)⟩
end
/-! ### a way that closes (mathematics) -/
structure PathG (n : Int) (ts : List Tie) (xs ws : List Int) (here : Int) : Prop where
  rg : ∀ x ∈ xs, 0 ≤ x ∧ x < n
  nd : xs.Nodup
  len : xs.length = ws.length + 1
  last : xs[ws.length]? = some here
  wb : ∀ w ∈ ws, 0 ≤ w ∧ w < (ts.length : Int)
  jn : ∀ k : Nat, k < ws.length → joinB (tieAt ts (ws.getD k 0)) (xs.getD k 0) (xs.getD (k + 1) 0) = true
theorem PathG.one {n : Int} {ts : List Tie} {x : Int} (h : 0 ≤ x ∧ x < n) : PathG n ts [x] [] x :=
  ⟨fun y hy => by rw [List.mem_singleton.mp hy]; exact h, by simp, rfl, rfl, (fun w hw => by cases hw), fun k hk => absurd hk (Nat.not_lt_zero _)⟩
theorem getD_app_l {xs ys : List Int} {k : Nat} (h : k < xs.length) : (xs ++ ys).getD k 0 = xs.getD k 0 := by
  rw [List.getD_eq_getElem?_getD, List.getD_eq_getElem?_getD, List.getElem?_append_left h]
theorem getD_at {xs : List Int} {k : Nat} {x : Int} (h : xs[k]? = some x) : xs.getD k 0 = x := by
  rw [List.getD_eq_getElem?_getD, h]
  rfl
theorem PathG.push {n : Int} {ts : List Tie} {xs ws : List Int} {here there m : Int} (h : PathG n ts xs ws here) (ht : 0 ≤ there ∧ there < n) (no : there ∉ xs) (hm : 0 ≤ m ∧ m < (ts.length : Int)) (j : joinB (tieAt ts m) here there = true) : PathG n ts (xs ++ [there]) (ws ++ [m]) there := by
  have l := h.len
  refine ⟨fun x hx => ?_, ?_, by rw [List.length_append, List.length_append]; simp only [List.length_cons, List.length_nil]; omega, ?_, fun w hw => ?_, fun k hk => ?_⟩
  · rcases List.mem_append.mp hx with z | z
    · exact h.rg x z
    · rw [List.mem_singleton.mp z]; exact ht
  · rw [List.nodup_append]
    exact ⟨h.nd, by simp, fun x hx y hy z => no (by rw [List.mem_singleton.mp hy] at z; rw [← z]; exact hx)⟩
  · rw [List.length_append, List.getElem?_append_right (by simp; omega)]
    rw [show ws.length + [m].length - xs.length = 0 by simp; omega]
    rfl
  · rcases List.mem_append.mp hw with z | z
    · exact h.wb w z
    · rw [List.mem_singleton.mp z]; exact hm
  · rw [List.length_append] at hk
    simp only [List.length_cons, List.length_nil] at hk
    by_cases e : k < ws.length
    · rw [getD_app_l e, getD_app_l (by omega), getD_app_l (by omega)]
      exact h.jn k e
    · have ek : k = ws.length := by omega
      subst ek
      have e1 : (ws ++ [m]).getD ws.length 0 = m := getD_at (by rw [List.getElem?_append_right (Nat.le_refl _), Nat.sub_self]; rfl)
      have e2 : (xs ++ [there]).getD ws.length 0 = here := by rw [getD_app_l (by omega)]; exact getD_at h.last
      have e3 : (xs ++ [there]).getD (ws.length + 1) 0 = there := getD_at (by rw [← l, List.getElem?_append_right (Nat.le_refl _), Nat.sub_self]; rfl)
      rw [e1, e2, e3]
      exact j
theorem PathG.cut {n : Int} {ts : List Tie} {xs ws : List Int} {here x : Int} (h : PathG n ts xs ws here) {a : Nat} (ha : xs[a]? = some x) : PathG n ts (xs.take (a + 1)) (ws.take a) x := by
  have al := (List.getElem?_eq_some_iff.mp ha).1
  have l := h.len
  have lw : (ws.take a).length = a := by rw [List.length_take]; omega
  refine ⟨fun y hy => h.rg y (List.mem_of_mem_take hy), h.nd.sublist (List.take_sublist _ _), by rw [lw, List.length_take]; omega, ?_, fun w hw => h.wb w (List.mem_of_mem_take hw), fun k hk => ?_⟩
  · rw [lw, List.getElem?_take_of_lt (by omega)]
    exact ha
  · rw [lw] at hk
    have g : ∀ {zs : List Int} {i m : Nat}, i < m → (zs.take m).getD i 0 = zs.getD i 0 := fun {zs i m} hi => by
      rw [List.getD_eq_getElem?_getD, List.getD_eq_getElem?_getD, List.getElem?_take_of_lt hi]
    rw [g hk, g (by omega), g (by omega)]
    exact h.jn k (by omega)
theorem PathG.ring {n : Int} {ts : List Tie} {xs ws : List Int} {here x m : Int} (h : PathG n ts xs ws here) {a : Nat} (ha : xs[a]? = some x) (hm : 0 ≤ m ∧ m < (ts.length : Int)) (j : joinB (tieAt ts m) here x = true) (two : 1 < (ws.drop a ++ [m]).length) (nd : (ws.drop a ++ [m]).Nodup) : RingG n ts (xs.drop a) (ws.drop a ++ [m]) := by
  have al := (List.getElem?_eq_some_iff.mp ha).1
  have l := h.len
  have lp : (xs.drop a).length = xs.length - a := List.length_drop
  have le : (ws.drop a ++ [m]).length = ws.length - a + 1 := by rw [List.length_append, List.length_drop]; rfl
  have gd : ∀ {zs : List Int} {i : Nat}, (zs.drop a).getD i 0 = zs.getD (a + i) 0 := fun {zs i} => by
    rw [List.getD_eq_getElem?_getD, List.getD_eq_getElem?_getD, List.getElem?_drop]
  refine ⟨fun y hy => h.rg y (List.mem_of_mem_drop hy), fun w hw => ?_, h.nd.sublist (List.drop_sublist _ _), nd, by omega, by omega, ?_⟩
  · rcases List.mem_append.mp hw with z | z
    · exact h.wb w (List.mem_of_mem_drop z)
    · rw [List.mem_singleton.mp z]; exact hm
  · unfold ringI
    rw [List.all_eq_true]
    intro k hk
    have hk := List.mem_range.mp hk
    rw [le] at hk
    by_cases e : k < ws.length - a
    · rw [getD_app_l (by rw [List.length_drop]; exact e), gd, gd, Nat.mod_eq_of_lt (by omega), gd]
      exact h.jn (a + k) (by omega)
    · have ek : k = ws.length - a := by omega
      have e1 : (ws.drop a ++ [m]).getD k 0 = m := getD_at (by
        rw [List.getElem?_append_right (by rw [List.length_drop]; omega), List.length_drop, ek, Nat.sub_self]
        rfl)
      have e2 : (xs.drop a).getD k 0 = here := by
        rw [gd]
        refine getD_at ?_
        rw [show a + k = ws.length by omega]
        exact h.last
      have e3 : (xs.drop a).getD ((k + 1) % (xs.drop a).length) 0 = x := by
        rw [lp, show k + 1 = xs.length - a by omega, Nat.mod_self, gd]
        exact getD_at ha
      rw [e1, e2, e3]
      exact j
theorem par_int (f : Int) (b : Bool) : (decide (f % 2 = 1) ^^ b) = decide ((f + bI b) % 2 = 1) := by
  have e0 : bI false = 0 := rfl
  have e1 : bI true = 1 := rfl
  cases b
  · rw [e0, Int.add_zero, Bool.xor_false]
  · rw [e1]
    by_cases h : f % 2 = 1
    · rw [decide_eq_true h, decide_eq_false (by omega)]
      rfl
    · rw [decide_eq_false h, decide_eq_true (by omega)]
      rfl
theorem Bs.wells {H : Hp} {L d : Addr} {As : List Addr} {N : Nat → List Ent} {b : Nat} (h : Bs H L As N) (D : Well H d b) : L ≠ d ∧ d ∉ As := by
  obtain ⟨g, st, i, e, _⟩ := D
  refine ⟨fun z => ?_, fun z => ?_⟩
  · have h1 := h.at'
    rw [z, e] at h1
    cases As with
    | nil => cases h1
    | cons a r => cases h1
  · obtain ⟨j, hj⟩ := List.getElem?_of_mem z
    obtain ⟨vs, h1, h2⟩ := h.each j d hj
    rw [e] at h1
    cases h1
    generalize N j = nj at h2
    cases h2 with
    | cons x _ =>
      obtain ⟨c, ec, _⟩ := x
      cases ec
theorem Bs.kp {H H' : Hp} {L d : Addr} {As : List Addr} {N : Nat → List Ent} {b : Nat} (h : Bs H L As N) (D : Well H d b) (k : Kp d d H H') : Bs H' L As N := by
  obtain ⟨w1, w2⟩ := h.wells D
  refine ⟨k _ _ w1 w1 h.at', h.nd, fun j a e => ?_, h.out⟩
  obtain ⟨vs, h1, h2⟩ := h.each j a e
  have na : a ≠ d := fun z => w2 (by rw [← z]; exact List.mem_of_getElem? e)
  exact ⟨vs, k _ _ na na h1, Paired.mono (fun _ _ x => x.tk (k.tk D)) h2⟩
def ComeAt (H : Hp) (ts : List Tie) (v : V) : Prop := ∃ (c : Addr) (k : Nat) (o : Bool) (x : Int), v = .ref c ∧ H c = some (.tup [.int k, .bl o]) ∧ (o = true → RPk ts x k x true)
theorem ComeAt.tk {H H' : Hp} (k : Tk H H') {ts : List Tie} {v : V} (h : ComeAt H ts v) : ComeAt H' ts v := by
  obtain ⟨c, i, o, x, e, h1, h2⟩ := h
  exact ⟨c, i, o, x, e, k _ _ h1, h2⟩
def RingV (H : Hp) (n : Int) (ts : List Tie) (v : V) : Prop := ∃ ps es, RingAt H v ps es ∧ RingG n ts ps es
theorem RingV.tk {H H' : Hp} (k : Tk H H') {n : Int} {ts : List Tie} {v : V} (h : RingV H n ts v) : RingV H' n ts v := by
  obtain ⟨ps, es, h1, h2⟩ := h
  exact ⟨ps, es, h1.tk k, h2⟩
def spWalk80 : Sp := fun vs H Q _ => ∃ (d : Addr) (b : Nat) (wv : V) (s : Int) (n : Nat) (ts : List Tie), vs = [.ref d, wv, .int s] ∧ Well H d b ∧ b < 2 ^ 50 ∧ WebAt H wv n ts ∧ WebOk n ts ∧ 1 ≤ s ∧ s ≤ 40 ∧
  ∀ (T R C : Addr) (rvs cvs : List V) (H' : Hp), H' T = some (.tup [.ref R, .ref C]) → H' R = some (.lst rvs) → (∀ v ∈ rvs, RingV H' n ts v) → H' C = some (.lst cvs) → (∀ v ∈ cvs, ComeAt H' ts v) → H R = none → H C = none → Well H' d (b + 50) → Kp d d H H' → Q (.ref T) H'
/-! ### a walk's lists -/
structure WkI (H0 H : Hp) (d : Addr) (bb : Nat) (n : Int) (ts : List Tie) (P Wl R C : Addr) (xs ws : List Int) (rvs cvs : List V) (i j : Nat) : Prop where
  hP : H P = some (.lst (xs.map V.int))
  hW : H Wl = some (.lst (ws.map V.int))
  hR : H R = some (.lst rvs)
  hC : H C = some (.lst cvs)
  nP : H0 P = none
  nW : H0 Wl = none
  nR : H0 R = none
  nC : H0 C = none
  PW : P ≠ Wl
  PR : P ≠ R
  PC : P ≠ C
  WR : Wl ≠ R
  WC : Wl ≠ C
  RC : R ≠ C
  rv : ∀ v ∈ rvs, RingV H n ts v
  cv : ∀ v ∈ cvs, ComeAt H ts v
  lr : rvs.length ≤ i
  lc : cvs.length ≤ j
  D0 : ∃ o, H0 d = some o
  D : Well H d bb
  K : Kp d d H0 H
section
variable {H0 H H' : Hp} {d : Addr} {bb bb' : Nat} {n : Int} {ts : List Tie} {P Wl R C : Addr} {xs ws : List Int} {rvs cvs : List V} {i j : Nat}
theorem WkI.nd (x : WkI H0 H d bb n ts P Wl R C xs ws rvs cvs i j) : P ≠ d ∧ Wl ≠ d ∧ R ≠ d ∧ C ≠ d := by
  obtain ⟨o, e⟩ := x.D0
  refine ⟨fun z => ?_, fun z => ?_, fun z => ?_, fun z => ?_⟩
  · have := x.nP; rw [z, e] at this; cases this
  · have := x.nW; rw [z, e] at this; cases this
  · have := x.nR; rw [z, e] at this; cases this
  · have := x.nC; rw [z, e] at this; cases this
theorem WkI.draw (x : WkI H0 H d bb n ts P Wl R C xs ws rvs cvs i j) (D' : Well H' d bb') (k : Kp d d H H') : WkI H0 H' d bb' n ts P Wl R C xs ws rvs cvs i j := by
  obtain ⟨h1, h2, h3, h4⟩ := x.nd
  exact ⟨k _ _ h1 h1 x.hP, k _ _ h2 h2 x.hW, k _ _ h3 h3 x.hR, k _ _ h4 h4 x.hC, x.nP, x.nW, x.nR, x.nC, x.PW, x.PR, x.PC, x.WR, x.WC, x.RC,
    fun v hv => (x.rv v hv).tk (k.tk x.D), fun v hv => (x.cv v hv).tk (k.tk x.D), x.lr, x.lc, x.D0, D', x.K.trans k⟩
theorem WkI.same (x : WkI H0 H d bb n ts P Wl R C xs ws rvs cvs i j) (s : Same H H') : WkI H0 H' d bb n ts P Wl R C xs ws rvs cvs i j := x.draw (x.D.same s) (Same.kp s)
theorem WkI.mono {i' j' : Nat} (x : WkI H0 H d bb n ts P Wl R C xs ws rvs cvs i j) (h1 : i ≤ i') (h2 : j ≤ j') : WkI H0 H d bb n ts P Wl R C xs ws rvs cvs i' j' := { x with lr := Nat.le_trans x.lr h1, lc := Nat.le_trans x.lc h2 }
theorem WkI.putC (x : WkI H0 H d bb n ts P Wl R C xs ws rvs cvs i j) {v : V} (h : ComeAt H ts v) : WkI H0 (upd H C (.lst (cvs ++ [v]))) d bb n ts P Wl R C xs ws rvs (cvs ++ [v]) i (j + 1) := by
  have k : Tk H (upd H C (.lst (cvs ++ [v]))) := tk_lst x.hC
  refine { x with hP := (upd_ne x.PC).trans x.hP, hW := (upd_ne x.WC).trans x.hW, hR := (upd_ne x.RC).trans x.hR, hC := upd_same, rv := fun u hu => (x.rv u hu).tk k, cv := fun u hu => ?_, lc := by rw [List.length_append]; exact Nat.succ_le_succ x.lc, D := x.D.mut x.nd.2.2.2, K := x.K.mut x.nC }
  rcases List.mem_append.mp hu with z | z
  · exact (x.cv u z).tk k
  · rw [List.mem_singleton.mp z]; exact h.tk k
theorem WkI.putR (x : WkI H0 H d bb n ts P Wl R C xs ws rvs cvs i j) {v : V} (h : RingV H n ts v) : WkI H0 (upd H R (.lst (rvs ++ [v]))) d bb n ts P Wl R C xs ws (rvs ++ [v]) cvs (i + 1) j := by
  have k : Tk H (upd H R (.lst (rvs ++ [v]))) := tk_lst x.hR
  refine { x with hP := (upd_ne x.PR).trans x.hP, hW := (upd_ne x.WR).trans x.hW, hC := (upd_ne (Ne.symm x.RC)).trans x.hC, hR := upd_same, cv := fun u hu => (x.cv u hu).tk k, rv := fun u hu => ?_, lr := by rw [List.length_append]; exact Nat.succ_le_succ x.lr, D := x.D.mut x.nd.2.2.1, K := x.K.mut x.nR }
  rcases List.mem_append.mp hu with z | z
  · exact (x.rv u z).tk k
  · rw [List.mem_singleton.mp z]; exact h.tk k
theorem WkI.putP (x : WkI H0 H d bb n ts P Wl R C xs ws rvs cvs i j) (y : Int) : WkI H0 (upd H P (.lst (xs.map V.int ++ [.int y]))) d bb n ts P Wl R C (xs ++ [y]) ws rvs cvs i j := by
  have k : Tk H (upd H P (.lst (xs.map V.int ++ [.int y]))) := tk_lst x.hP
  exact { x with hP := by rw [upd_same, List.map_append]; rfl, hW := (upd_ne (Ne.symm x.PW)).trans x.hW, hR := (upd_ne (Ne.symm x.PR)).trans x.hR, hC := (upd_ne (Ne.symm x.PC)).trans x.hC, rv := fun u hu => (x.rv u hu).tk k, cv := fun u hu => (x.cv u hu).tk k, D := x.D.mut x.nd.1, K := x.K.mut x.nP }
theorem WkI.putW (x : WkI H0 H d bb n ts P Wl R C xs ws rvs cvs i j) (y : Int) : WkI H0 (upd H Wl (.lst (ws.map V.int ++ [.int y]))) d bb n ts P Wl R C xs (ws ++ [y]) rvs cvs i j := by
  have k : Tk H (upd H Wl (.lst (ws.map V.int ++ [.int y]))) := tk_lst x.hW
  exact { x with hW := by rw [upd_same, List.map_append]; rfl, hP := (upd_ne x.PW).trans x.hP, hR := (upd_ne (Ne.symm x.WR)).trans x.hR, hC := (upd_ne (Ne.symm x.WC)).trans x.hC, rv := fun u hu => (x.rv u hu).tk k, cv := fun u hu => (x.cv u hu).tk k, D := x.D.mut x.nd.2.1, K := x.K.mut x.nW }
theorem WkI.free (x : WkI H0 H d bb n ts P Wl R C xs ws rvs cvs i j) {a : Addr} (h : H a = none) : H0 a = none := by
  refine x.K.free h ?_ ?_ <;>
  · intro z
    obtain ⟨g, st, k, e, _⟩ := x.D.ex
    rw [z, e] at h
    cases h
theorem WkI.newP (x : WkI H0 H d bb n ts P Wl R C xs ws rvs cvs i j) {a b : Addr} {ys zs : List Int} (ha : H a = none) (hb : (upd H a (.lst (ys.map V.int))) b = none) : WkI H0 (upd (upd H a (.lst (ys.map V.int))) b (.lst (zs.map V.int))) d bb n ts a b R C ys zs rvs cvs i j := by
  have s := (same_new (o := .lst (ys.map V.int)) ha).trans (same_new (o := .lst (zs.map V.int)) hb)
  have y := x.same s
  have ab : a ≠ b := fun z => by rw [← z, upd_same] at hb; cases hb
  have hb' : H b = none := by rw [upd_ne (Ne.symm ab)] at hb; exact hb
  exact { y with hP := (upd_ne ab).trans upd_same, hW := upd_same, nP := x.free ha, nW := x.free hb', PW := ab, PR := fun z => by (rw [z, x.hR] at ha; cases ha), PC := fun z => by (rw [z, x.hC] at ha; cases ha), WR := fun z => by (rw [z, x.hR] at hb'; cases hb'), WC := fun z => by (rw [z, x.hC] at hb'; cases hb') }
end
section
variable {H0 H : Hp} {d : Addr} {bb : Nat} {n : Int} {ts : List Tie} {P Wl R C : Addr} {xs ws : List Int} {rvs cvs : List V} {i j : Nat}
/-- what is beside a place stays, since it was before -/
theorem Bs.walk {H2 : Hp} {L : Addr} {As : List Addr} {N : Nat → List Ent} {b2 : Nat} (B : Bs H2 L As N) (D2 : Well H2 d b2) (x : WkI H2 H d bb n ts P Wl R C xs ws rvs cvs i j) : Bs H L As N := B.kp D2 x.K
end
/-! ### k80: a walk -/
theorem tyL80 {K : PySem.W.Frag} {H : Hp} {L : Addr} {xs : List V} (h : H L = some (.lst xs)) : tyV K "list" (.ref L) H := .inl ⟨rfl, _, SqL.of h⟩
theorem flat80 (xs : List Int) : (xs.map V.int).all flatV = true := by
  rw [List.all_eq_true]
  intro x hx
  obtain ⟨z, _, rfl⟩ := List.mem_map.mp hx
  rfl
theorem inV80 (x : Int) (xs : List Int) : inV (.int x) (xs.map V.int) = decide (x ∈ xs) := by
  unfold inV
  rw [List.any_map, Bool.eq_iff_iff, List.any_eq_true, decide_eq_true_iff]
  constructor
  · rintro ⟨z, hz, e⟩
    have e : (z == x) = true := e
    rw [beq_iff_eq] at e
    rw [← e]
    exact hz
  · intro h
    exact ⟨x, h, by show (x == x) = true; exact beq_self_eq_true x⟩
theorem eqv80 (z x : Int) : eqV (.int z) (.int x) = (z == x) := rfl
/-- the first place of a number in a list without twins -/
theorem first80 {xs : List Int} (nd : xs.Nodup) {x : Int} (h : x ∈ xs) : ∃ a : Nat, xs[a]? = some x ∧ ∀ (m : Nat) (z : Int), m < a → xs[m]? = some z → z ≠ x := by
  obtain ⟨a, ha⟩ := List.getElem?_of_mem h
  refine ⟨a, ha, fun m z hm hz e => ?_⟩
  subst e
  have ml := (List.getElem?_eq_some_iff.mp hz).1
  have := (List.getElem?_inj ml nd).mp (hz.trans ha.symm)
  omega
section
variable {P : Program} {w : World} {K : PySem.W.Frag} {mg : Str → Option Value} {base : Heap}
set_option maxHeartbeats 2000000 in
theorem ok_l_walk {f : Addr} {fd : FuncData} (F : Fun K "_law_walk" "_law_walk" s_l_walk f fd) (M : Free mg) (m_set : mg "set" = none) (D_l_beside : Df P w K mg base 1 "_law_beside" ["_law_web_here"] spBeside80) (D_l_draw : Df P w K mg base 1 "_law_draw" ["_law_well_here", "_law_many"] spDraw) : FnOk P w K mg base CX0 2 f fd ["_law_well_here", "_law_web_here", "_law_steps"] spWalk80 := by
  obtain ⟨f_l_beside, fd_l_beside, G_l_beside, g_l_beside, k_l_beside, b_l_beside⟩ := D_l_beside
  obtain ⟨f_l_draw, fd_l_draw, G_l_draw, g_l_draw, k_l_draw, b_l_draw⟩ := D_l_draw
  refine F.ok sc_l_walk (fun vs H Q E h => ?_) (fun cdv A outer s H vs Q E hr h => ?_)
  · obtain ⟨d, b, wv, st, n, ts, rfl, _⟩ := h
    rfl
  · obtain ⟨d, b, wv, st, n, ts, rfl, hD, hB, hW, ok, st1, st40, q⟩ := h
    refine ⟨_, (pss_cons (ps_set (i := 3) sc_l_walk.nd rfl (.inl rfl) (pe_call G_l_beside (hr.mono (by decide)) (by rfl) g_l_beside k_l_beside b_l_beside .nil pass0 (pa_cons (pv 1) pa_nil)))
      (pss_cons (ps_set (i := 4) sc_l_walk.nd rfl (.inl rfl) (pe_call G_l_draw (hr.mono (by decide)) (by rfl) g_l_draw k_l_draw b_l_draw .nil pass0 (pa_cons (pv 0) (pa_cons (pe_ix ix_tup (pv 1) pe_int (fun _ _ => rfl)) pa_nil))))
      (pss_cons (ps_asg (pe_tup (pa_cons (pe_lst (pa_cons (pv 4) pa_nil)) (pa_cons (pe_lst pa_nil) (pa_cons (pe_lst pa_nil) (pa_cons (pe_lst pa_nil) pa_nil))))) (pg_tup rfl (pgs_cons (pg_name (i := 5) sc_l_walk.nd rfl (.inl rfl)) (pgs_cons (pg_name (i := 6) sc_l_walk.nd rfl (.inl rfl)) (pgs_cons (pg_name (i := 7) sc_l_walk.nd rfl (.inl rfl)) (pgs_cons (pg_name (i := 8) sc_l_walk.nd rfl (.inl rfl)) pgs_nil))))))
      (pss_cons (ps_par (i := 9) (j := 10) rfl sc_l_walk.nd rfl rfl (by decide) rfl rfl (pa_cons (pv 4) (pa_cons pe_int pa_nil)) rfl)
      (pss_cons (ps_for PassesOwn.never rfl (pi_range1 (by rfl) M.range (pa_cons (pe_op op_mul (pv 2) (pe_callTy call_int1 (by rfl) M.int (by decide +kernel) (pa_cons (pe_cmpR (op_neE hr.units0) (pe_ix ix_list (pv 3) (pv 4) (fun _ _ => rfl)) (pe_lst pa_nil) (nomark _)) pa_nil))) pa_nil)) (pg_name (i := 11) sc_l_walk.nd rfl (.inl rfl))
        (pss_cons (ps_asg (pe_ix ix_list (pe_ix ix_list (pv 3) (pv 4) (fun _ _ => rfl)) (pe_call G_l_draw (hr.mono (by decide)) (by rfl) g_l_draw k_l_draw b_l_draw .nil pass0 (pa_cons (pv 0) (pa_cons (pe_callB call_len_seq (by rfl) M.len PySem.boot_len (pa_cons (pe_ix ix_list (pv 3) (pv 4) (fun _ _ => rfl)) pa_nil)) pa_nil))) (fun _ _ => rfl)) (pg_tup rfl (pgs_cons (pg_name (i := 12) sc_l_walk.nd rfl (.inl rfl)) (pgs_cons (pg_name (i := 13) sc_l_walk.nd rfl (.inl rfl)) (pgs_cons (pg_name (i := 14) sc_l_walk.nd rfl (.inl rfl)) pgs_nil)))))
        (pss_cons (ps_set (i := 10) sc_l_walk.nd rfl (.inl rfl) (pe_op op_add (pv 10) (pv 14)))
        (Evl.pss_cut (ps_if (pt_cmpR op_eq (pv 13) (pv 9) (nomark _))
          (pss_one (ps_expr (pe_bm PySem.F.plainAttrs_list PySem.F.slot_list_append PySem.F.type_list_append mt_append (pv 8) (pa_cons (pe_tup (pa_cons (pe_op op_add (pv 11) pe_int) (pa_cons (pe_cmpR op_eq (pe_op op_mod (pv 10) pe_int) pe_int (nomark _)) pa_nil))) pa_nil))))
          pss_nil)
        (Evl.pss_cut (ps_if (pt_cmpR op_in_seq (pv 13) (pv 5) rfl)
          (pss_cons (ps_set (i := 15) sc_l_walk.nd rfl (.inl rfl) (pe_bm PySem.F.plainAttrs_list PySem.F.slot_list_index PySem.F.type_list_index mt_index (pv 5) (pa_cons (pv 13) pa_nil)))
          (pss_cons (ps_set (i := 16) sc_l_walk.nd rfl (.inl rfl) (pe_tup (pa_cons (pe_callTy call_tuple_of (by rfl) M.tuple (by decide +kernel) (pa_cons (pe_slice sl_list (pv 5) (po_some (pv 15)) po_none) pa_nil)) (pa_cons (pe_callTy call_tuple_of (by rfl) M.tuple (by decide +kernel) (pa_cons (pe_op op_cat (pe_slice sl_list (pv 6) (po_some (pv 15)) po_none) (pe_lst (pa_cons (pv 12) pa_nil))) pa_nil)) pa_nil))))
          (Evl.pss_cut (ps_if (PW.pt (pw_and (pt_cmpR op_gt (pe_callB call_len_seq (by rfl) M.len PySem.boot_len (pa_cons (pe_ix ix_tup (pv 16) pe_int (fun _ _ => rfl)) pa_nil)) pe_int (nomark _)) (pw_and1 (pt_cmpR op_eq (pe_lenSetT (by rfl) M.len (by rfl) m_set (pe_ix ix_tup (pv 16) pe_int (fun _ _ => rfl))) (pe_callB call_len_seq (by rfl) M.len PySem.boot_len (pa_cons (pe_ix ix_tup (pv 16) pe_int (fun _ _ => rfl)) pa_nil)) (nomark _)))))
            (pss_one (ps_expr (pe_bm PySem.F.plainAttrs_list PySem.F.slot_list_append PySem.F.type_list_append mt_append (pv 7) (pa_cons (pv 16) pa_nil))))
            pss_nil)
          (pss_one (ps_par (i := 5) (j := 6) rfl sc_l_walk.nd rfl rfl (by decide) rfl rfl (pa_cons (pe_slice sl_list (pv 5) po_none (po_some (pe_op op_add (pv 15) pe_int))) (pa_cons (pe_slice sl_list (pv 6) po_none (po_some (pv 15))) pa_nil)) rfl)))))
          (pss_cons (ps_expr (pe_bm PySem.F.plainAttrs_list PySem.F.slot_list_append PySem.F.type_list_append mt_append (pv 5) (pa_cons (pv 13) pa_nil)))
          (pss_one (ps_expr (pe_bm PySem.F.plainAttrs_list PySem.F.slot_list_append PySem.F.type_list_append mt_append (pv 6) (pa_cons (pv 12) pa_nil))))))
        (pss_one (ps_set (i := 4) sc_l_walk.nd rfl (.inl rfl) (pv 13))))))))
      (pss_one (ps_ret (pe_tup (pa_cons (pv 7) (pa_cons (pv 8) pa_nil)))))))))), ?_⟩
    have n1 := ok.lo
    have n40 := ok.hi
    have few := ok.few
    obtain ⟨wa, wb, us, rfl, hwa, hwb, hp⟩ := id hW
    refine ⟨.ref wa, rfl, .ref wa, n, ts, rfl, hW, ok, fun L As H1 lA nL hA s1 => ?_⟩
    have D1 := hD.same s1
    refine ⟨.ref d, rfl, .ref wa, rfl, wa, _, 0, .int n, rfl, rfl, SqT.of (s1 _ _ hwa), rfl, d, b, n, rfl, D1, by omega, by omega, by omega, fun h0 H2 a2 b2 D2 K2 => ?_⟩
    have hA2 := hA.kp D1 K2
    have K02 := (Same.kp (d := d) s1).trans K2
    refine ⟨.int h0, rfl, by show 1 ≤ sizeLine; decide, fun P nP => ⟨by show 0 ≤ sizeLine; decide, fun Wl nWl => ⟨by show 0 ≤ sizeLine; decide, fun R nR => ⟨by show 0 ≤ sizeLine; decide, fun C nC => ⟨by show 4 ≤ sizeLine; decide, fun T nT => ?_⟩⟩⟩⟩⟩
    refine ⟨T, _, rfl, SqT.of upd_same, rfl, _, _, rfl, _, _, rfl, _, _, rfl, _, _, rfl, rfl, ?_⟩
    refine ⟨.int h0, rfl, _, _, rfl, ?_⟩
    have x5 := same_new (o := .tup [.ref P, .ref Wl, .ref R, .ref C]) nT
    have x4 := (same_new (o := .lst []) nC).trans x5
    have x3 := (same_new (o := .lst []) nR).trans x4
    have x2 := (same_new (o := .lst []) nWl).trans x3
    have x1 := (same_new (o := .lst [.int h0]) nP).trans x2
    have hP3 := x2 _ _ (upd_same (H := H2) (a := P) (o := .lst [.int h0]))
    have hW3 := x3 _ _ (upd_same (a := Wl) (o := .lst []))
    have hR3 := x4 _ _ (upd_same (a := R) (o := .lst []))
    have hC3 := x5 _ _ (upd_same (a := C) (o := .lst []))
    have hC3n : R ≠ C := fun z => by rw [← z, upd_same] at nC; cases nC
    have hRW : Wl ≠ R := fun z => by rw [← z, upd_same] at nR; cases nR
    have hCW : Wl ≠ C := fun z => by rw [← z, upd_ne hRW, upd_same] at nC; cases nC
    have hPW : P ≠ Wl := fun z => by rw [← z, upd_same] at nWl; cases nWl
    have hPR : P ≠ R := fun z => by rw [← z, upd_ne hPW, upd_same] at nR; cases nR
    have hPC : P ≠ C := fun z => by rw [← z, upd_ne hPR, upd_ne hPW, upd_same] at nC; cases nC
    have nW2 : H2 Wl = none := by rw [upd_ne (Ne.symm hPW)] at nWl; exact nWl
    have nR2 : H2 R = none := by rw [upd_ne (Ne.symm hRW), upd_ne (Ne.symm hPR)] at nR; exact nR
    have nC2 : H2 C = none := by rw [upd_ne (Ne.symm hC3n), upd_ne (Ne.symm hCW), upd_ne (Ne.symm hPC)] at nC; exact nC
    have d2 : ∃ o, H2 d = some o := by
      obtain ⟨g, st, k, e, _⟩ := D2.ex
      exact ⟨_, e⟩
    have X3 : WkI H2 _ d (b + 1) n ts P Wl R C [h0] [] [] [] 0 0 := ⟨hP3, hW3, hR3, hC3, nP, nW2, nR2, nC2, hPW, hPR, hPC, hRW, hCW, hC3n, (fun v hv => by cases hv), (fun v hv => by cases hv), Nat.le_refl _, Nat.le_refl _, d2, D2.same x1, Same.kp x1⟩
    generalize upd (upd (upd (upd (upd H2 P (.lst [.int h0])) Wl (.lst [])) R (.lst [])) C (.lst [])) T (.tup [.ref P, .ref Wl, .ref R, .ref C]) = H3 at *
    clear x5 x4 x3 x2 x1 hP3 hW3 hR3 hC3 hC3n hRW hCW hPW hPR hPC nW2 nR2 nC2 nP nWl nR nC nT
    have hA3 := hA2.kp D2 X3.K
    have at0 : ∀ (H : Hp) (x : Int), Bs H L As (entsTo ts ts.length) → 0 ≤ x → x < n → ∃ a vs, a ∈ As ∧ atI (As.map V.ref) x = some (.ref a) ∧ H a = some (.lst vs) ∧ Paired (EntV H) vs (entsTo ts ts.length x.toNat) := fun H x B h0 h1 => by
      obtain ⟨a, fa, fa'⟩ := getI (xs := As) h0 (by omega)
      obtain ⟨vs, e1, e2⟩ := B.each _ _ fa'
      exact ⟨a, vs, List.mem_of_getElem? fa', atI_of h0 (by rw [List.getElem?_map, fa']; rfl), e1, e2⟩
    obtain ⟨q0, vs0, _, e1, e2, e3⟩ := at0 H3 h0 hA3 a2 b2
    refine ⟨.int st, rfl, .ref L, rfl, .int h0, rfl, L, _, h0, .ref q0, rfl, rfl, SqL.of hA3.at', e1, by show 0 ≤ sizeLine; decide, fun Z nZ => ?_⟩
    have sZ := same_new (o := .lst []) nZ
    refine ⟨q0, Z, _, rfl, rfl, SqL.of (sZ _ _ e2), SqL.of upd_same, .inr ⟨_, rfl, ?_⟩⟩
    have X4 := X3.same sZ
    have hA4 := hA3.same sZ
    have lv : vs0.isEmpty = (entsTo ts ts.length h0.toNat).isEmpty := by
      have := Paired.length e3
      cases vs0 <;> cases hh : entsTo ts ts.length h0.toNat <;> rw [hh] at this <;> first | rfl | (simp at this)
    rw [lv]
    generalize upd H3 Z (.lst []) = H4 at *
    obtain ⟨m, em, nem, mst⟩ : ∃ m : Nat, st * (if (!(entsTo ts ts.length h0.toNat).isEmpty) = true then 1 else 0) = (m : Int) ∧ (0 < m → entsTo ts ts.length h0.toNat ≠ []) ∧ (m : Int) ≤ st := by
      cases hh : entsTo ts ts.length h0.toNat with
      | nil => exact ⟨0, by simp, fun h => absurd h (Nat.lt_irrefl _), by omega⟩
      | cons x r => exact ⟨st.toNat, by simp; omega, fun _ => by simp, by omega⟩
    refine ⟨_, (if (!(entsTo ts ts.length h0.toNat).isEmpty) = true then 1 else 0), rfl, rfl, .inl ⟨by omega, by omega⟩, _, rfl, by omega, by omega, ?_⟩
    rw [em, Int.toNat_natCast]
    clear em e1 e2 e3 lv sZ nZ hA3 X3 hA
    refine for_range (lo := 0) (n := m) (fun i σ' H' => ∃ (here fo : Int) (P Wl R C : Addr) (xs ws : List Int) (rvs cvs : List V) (y11 y12 y13 y14 y15 y16 : Option V), σ' = [some (.ref d), some (.ref wa), some (.int st), some (.ref L), some (.int here), some (.ref P), some (.ref Wl), some (.ref R), some (.ref C), some (.int h0), some (.int fo), y11, y12, y13, y14, y15, y16] ∧ WkI H2 H' d (b + 1 + i) n ts P Wl R C xs ws rvs cvs i i ∧ PathG n ts xs ws here ∧ RPk ts h0 i here (decide (fo % 2 = 1)) ∧ (i < m → entsTo ts ts.length here.toNat ≠ []) ∧ Bs H' L As (entsTo ts ts.length)) ⟨_, _, _, _, _, _, _, _, _, _, _, _, _, _, _, _, rfl, X4, PathG.one ⟨a2, b2⟩, .nil, nem, hA4⟩ ?_ ?_
    · clear X4 hA4 nem
      rintro i σ' H5 hi ⟨here, fo, P, Wl, R, C, xs, ws, rvs, cvs, y11, y12, y13, y14, y15, y16, rfl, X, pg, rp, ne, B⟩
      rw [show (0 : Int) + (i : Nat) = i from by omega]
      obtain ⟨r0, r1⟩ := pg.rg here (List.mem_of_getElem? pg.last)
      obtain ⟨a, vs, f0, f1, f2, f3⟩ := at0 H5 here B r0 r1
      have lvs := Paired.length f3
      have pos : 0 < vs.length := by rw [lvs]; exact List.length_pos_iff.mpr (ne hi)
      have lfew := ents_len ts here.toNat ts.length
      refine ⟨.ref L, rfl, .int here, rfl, L, _, here, .ref a, rfl, rfl, SqL.of B.at', f1, .ref d, rfl, .ref L, rfl, .int here, rfl, L, _, here, .ref a, rfl, rfl, SqL.of B.at', f1, a, _, rfl, .inl (SqL.of f2), d, _, ((vs.length : Nat) : Int), rfl, X.D, by omega, by omega, by omega, fun v H6 v0 v1 D6 K6 => ?_⟩
      have X6 := X.draw D6 K6
      have B6 := B.kp X.D K6
      have na : a ≠ d := fun z => (B.wells X.D).2 (by rw [← z]; exact f0)
      have f2' := K6 _ _ na na f2
      have f3' := Paired.mono (fun _ _ x => x.tk (K6.tk X.D)) f3
      obtain ⟨x, ex⟩ : ∃ x, vs[v.toNat]? = some x := ⟨_, List.getElem?_eq_getElem (show v.toNat < vs.length by omega)⟩
      obtain ⟨en, ee, c, rfl, hc⟩ := Paired.at f3' ex
      refine ⟨a, _, v, .ref c, rfl, rfl, SqL.of f2', atI_of v0 ex, c, _, rfl, SqT.of hc, rfl, _, _, rfl, _, _, rfl, _, _, rfl, rfl, ?_⟩
      refine ⟨.int fo, rfl, .int (bI en.2.2), rfl, fo, bI en.2.2, rfl, rfl, ?_⟩
      obtain ⟨k0, t0, kl, et0, ek, ef, jt⟩ := (mem_ents ok.ok (Nat.le_refl _)).mp (List.mem_of_getElem? ee)
      have o0 := ok.ok t0 (List.mem_of_getElem? et0)
      have hn : ((here.toNat : Nat) : Int) = here := by omega
      rw [hn] at jt
      obtain ⟨num, there, foe⟩ := en
      simp only at ek ef jt hc
      have yr : 0 ≤ there ∧ there < n := by
        obtain ⟨o1, o2, o3, o4, _⟩ := o0
        rcases jt with ⟨h1, h2⟩ | ⟨h1, h2⟩ <;> omega
      have ad : Adj ts here there foe := ⟨t0, List.mem_of_getElem? et0, ef.symm, jt⟩
      have nr : 0 ≤ num ∧ num < (ts.length : Int) := by omega
      have tn : tieAt ts num = t0 := by
        unfold tieAt
        rw [List.getD_eq_getElem?_getD, show num.toNat = k0 by omega, et0]
        rfl
      have jo : joinB (tieAt ts num) here there = true := by
        rw [tn]
        unfold joinB
        rcases jt with ⟨h1, h2⟩ | ⟨h1, h2⟩
        · rw [h1, h2]; simp
        · rw [h1, h2]; simp
      have rp' : RPk ts h0 (i + 1) there (decide ((fo + bI foe) % 2 = 1)) := by
        rw [← par_int]
        exact rp.step ad
      have ne' : entsTo ts ts.length there.toNat ≠ [] := fun z => by
        have := (mem_ents (i := there.toNat) (e := (num, here, foe)) ok.ok (Nat.le_refl _)).mpr ⟨k0, t0, kl, et0, ek, ef, by
          rw [show ((there.toNat : Nat) : Int) = there by omega]
          exact jt.symm⟩
        rw [z] at this
        cases this
      clear f1 f2 f3 f2' f3' ex ee hc ad
      refine ⟨fun σ' H' => ∃ cvs, σ' = [some (.ref d), some (.ref wa), some (.int st), some (.ref L), some (.int here), some (.ref P), some (.ref Wl), some (.ref R), some (.ref C), some (.int h0), some (.int (fo + bI foe)), some (.int i), some (.int num), some (.int there), some (.int (bI foe)), y15, y16] ∧ WkI H2 H' d (b + 1 + (i + 1)) n ts P Wl R C xs ws rvs cvs i (i + 1) ∧ Bs H' L As (entsTo ts ts.length), ?_, ?_⟩
      · refine ⟨.int there, rfl, .int h0, rfl, rfl, _, rfl, ?_⟩
        by_cases eh : there = h0
        · rw [eh, decide_eq_true rfl]
          refine ⟨.ref C, rfl, .inl ⟨rfl, _, SqL.of X6.hC⟩, .int i, rfl, i, 1, rfl, rfl, .int (fo + bI foe), rfl, fo + bI foe, 2, rfl, rfl, (show (0 : Int) < 2 by decide), rfl, by show 2 ≤ sizeLine; decide, fun G nG => ?_⟩
          have sG := same_new (o := .tup [.int ((i : Int) + 1), .bl (decide (V.int ((fo + bI foe) % 2) = V.int 1))]) nG
          have X7 := X6.same sG
          have B7 := B6.same sG
          have cG : ComeAt (upd H6 G (.tup [.int ((i : Int) + 1), .bl (decide (V.int ((fo + bI foe) % 2) = V.int 1))])) ts (.ref G) := ⟨G, i + 1, _, h0, rfl, by rw [upd_same]; rfl, fun o => by
            rw [eh] at rp'
            have : (fo + bI foe) % 2 = 1 := V.int.inj (of_decide_eq_true o)
            rw [decide_eq_true this] at rp'
            exact rp'⟩
          have y7 := X7.lc
          exact ⟨C, _, _, rfl, rfl, X7.hC, small1000 (by omega), _, rfl, X7.putC cG, hA2.walk D2 (X7.putC cG)⟩
        · rw [decide_eq_false (fun z => eh (V.int.inj z))]
          exact ⟨_, rfl, X6.mono (Nat.le_refl _) (Nat.le_succ _), B6⟩
      clear X6 B6 K6 D6 X B v0 v1
      rintro σ' H7 ⟨cvs, rfl, X, B⟩
      have lp := pg.len
      have lfew := pigeon n xs pg.nd pg.rg
      have yl := X.lr
      generalize fo + bI foe = f9 at *
      refine ⟨fun σ' H' => ∃ (P Wl : Addr) (xs ws : List Int) (rvs : List V) (y15 y16 : Option V), σ' = [some (.ref d), some (.ref wa), some (.int st), some (.ref L), some (.int here), some (.ref P), some (.ref Wl), some (.ref R), some (.ref C), some (.int h0), some (.int f9), some (.int i), some (.int num), some (.int there), some (.int (bI foe)), y15, y16] ∧ WkI H2 H' d (b + 1 + (i + 1)) n ts P Wl R C xs ws rvs cvs (i + 1) (i + 1) ∧ PathG n ts xs ws there, ?_, ?_⟩
      · refine ⟨.int there, rfl, .ref P, rfl, P, _, rfl, .inl (SqL.of X.hP), rfl, flat80 xs, _, rfl, ?_⟩
        rw [inV80]
        by_cases hin : there ∈ xs
        · rw [decide_eq_true hin]
          obtain ⟨a, ea, fst⟩ := first80 pg.nd hin
          have al := (List.getElem?_eq_some_iff.mp ea).1
          refine ⟨.ref P, rfl, tyL80 X.hP, .int there, rfl, P, xs.map V.int, .int there, a, .int there, rfl, rfl, SqL.of X.hP, rfl, flat80 xs, (by rw [List.getElem?_map, ea]; rfl), (by rw [eqv80]; exact beq_self_eq_true _), fun m z hm hz => ?_, ?_⟩
          · rw [List.getElem?_map] at hz
            obtain ⟨z', hz', rfl⟩ := Option.map_eq_some_iff.mp hz
            rw [eqv80]
            exact beq_eq_false_iff_ne.mpr (fst m z' hm hz')
          refine ⟨.ref P, rfl, .int a, rfl, a, rfl, P, _, rfl, SqL.of X.hP, fun S1 nS1 => ?_⟩
          rw [cut_drop (by rw [List.length_map]; omega), ← List.map_drop] at *
          have s1 := same_new (o := .lst ((xs.drop a).map V.int)) nS1
          refine ⟨S1, _, rfl, .inl ⟨SqL.of upd_same, fun T1 nT1 => ?_⟩⟩
          have s2 := s1.trans (same_new (o := .tup ((xs.drop a).map V.int)) nT1)
          have hT1 : upd (upd H7 S1 (.lst ((xs.drop a).map V.int))) T1 (.tup ((xs.drop a).map V.int)) T1 = _ := upd_same
          generalize upd (upd H7 S1 (.lst ((xs.drop a).map V.int))) T1 (.tup ((xs.drop a).map V.int)) = H8 at s2 hT1
          refine ⟨.ref Wl, rfl, .int a, rfl, a, rfl, Wl, _, rfl, SqL.of (s2 _ _ X.hW), fun S2 nS2 => ?_⟩
          rw [cut_drop (by rw [List.length_map]; omega), ← List.map_drop] at *
          have hS2 : upd H8 S2 (.lst ((ws.drop a).map V.int)) S2 = _ := upd_same
          have s3 := s2.trans (same_new (o := .lst ((ws.drop a).map V.int)) nS2)
          have t3 := same_new (o := .lst ((ws.drop a).map V.int)) nS2 _ _ hT1
          generalize upd H8 S2 (.lst ((ws.drop a).map V.int)) = H9 at s3 t3 hS2
          refine ⟨.int num, rfl, by show 1 ≤ sizeLine; decide, fun E1 nE1 => ?_⟩
          have e1 := same_new (o := .lst [.int num]) nE1
          refine ⟨S2, E1, _, _, rfl, rfl, e1 _ _ hS2, upd_same, by rw [List.length_map, List.length_drop]; exact small1000 (by omega), fun S3 nS3 => ?_⟩
          have e2 := e1.trans (same_new (o := .lst ((ws.drop a).map V.int ++ [.int num])) nS3)
          refine ⟨S3, _, rfl, .inl ⟨SqL.of upd_same, fun T2 nT2 => ?_⟩⟩
          have hT2 := upd_same (H := upd (upd H9 E1 (.lst [.int num])) S3 (.lst ((ws.drop a).map V.int ++ [.int num]))) (a := T2) (o := .tup ((ws.drop a).map V.int ++ [.int num]))
          have e3 := e2.trans (same_new (o := .tup ((ws.drop a).map V.int ++ [.int num])) nT2)
          generalize upd (upd (upd H9 E1 (.lst [.int num])) S3 (.lst ((ws.drop a).map V.int ++ [.int num]))) T2 (.tup ((ws.drop a).map V.int ++ [.int num])) = H10 at hT2 e3
          refine ⟨by show 2 ≤ sizeLine; decide, fun G nG => ?_⟩
          have e4 := same_new (o := .tup [.ref T1, .ref T2]) nG
          have hG := upd_same (H := H10) (a := G) (o := .tup [.ref T1, .ref T2])
          have hT1' := (e3.trans e4) _ _ t3
          have hT2' := e4 _ _ hT2
          have s4 := s3.trans (e3.trans e4)
          generalize upd H10 G (.tup [.ref T1, .ref T2]) = H11 at hG hT1' hT2' s4
          clear e1 e2 e3 e4 hT1 hT2 t3 hS2 s1 s2 s3 nS1 nS2 nS3 nT1 nT2 nG nE1
          rw [show (ws.drop a).map V.int ++ [V.int num] = (ws.drop a ++ [num]).map V.int by rw [List.map_append]; rfl] at hT2'
          have X9 := X.same s4
          have X9r : WkI H2 H11 d (b + 1 + (i + 1)) n ts P Wl R C xs ws rvs cvs (i + 1) (i + 1) := X9.mono (Nat.le_succ _) (Nat.le_refl _)
          have lr : (ws.drop a ++ [num]).length = ws.length - a + 1 := by rw [List.length_append, List.length_drop]; rfl
          refine ⟨fun σ' H' => ∃ (rvs : List V) (y16 : Option V), σ' = [some (.ref d), some (.ref wa), some (.int st), some (.ref L), some (.int here), some (.ref P), some (.ref Wl), some (.ref R), some (.ref C), some (.int h0), some (.int f9), some (.int i), some (.int num), some (.int there), some (.int (bI foe)), some (.int a), y16] ∧ WkI H2 H' d (b + 1 + (i + 1)) n ts P Wl R C xs ws rvs cvs (i + 1) (i + 1), ?_, ?_⟩
          · refine ⟨.ref G, rfl, G, _, 1, .ref T2, rfl, rfl, SqT.of hG, rfl, T2, _, rfl, .inr (SqT.of hT2'), _, 1, rfl, rfl, _, rfl, ?_⟩
            rw [List.length_map]
            by_cases two : 1 < (ws.drop a ++ [num]).length
            · rw [decide_eq_true (show (1 : Int) < (((ws.drop a ++ [num]).length : Nat) : Int) by omega)]
              refine ⟨.ref G, rfl, G, _, 1, .ref T2, rfl, rfl, SqT.of hG, rfl, T2, _, rfl, SqT.of hT2', by omega, fun c0 hc0 => ⟨.ref G, rfl, G, _, 1, .ref T2, rfl, rfl, SqT.of hG, rfl, T2, _, rfl, .inr (SqT.of hT2'), rfl, _, rfl, ?_⟩⟩
              rw [List.length_map]
              by_cases nd : (ws.drop a ++ [num]).Nodup
              · rw [decide_eq_true (show V.int (c0 : Int) = V.int (((ws.drop a ++ [num]).length : Nat) : Int) by rw [hc0.mpr nd])]
                have rG : RingV H11 n ts (.ref G) := ⟨_, _, ⟨G, T1, T2, rfl, hG, hT1', hT2'⟩, pg.ring ea nr jo two nd⟩
                exact ⟨.ref R, rfl, tyL80 X9.hR, .ref G, rfl, R, _, _, rfl, rfl, X9.hR, small1000 (by omega), _, _, rfl, X9.putR rG⟩
              · rw [decide_eq_false (show ¬ V.int (c0 : Int) = V.int (((ws.drop a ++ [num]).length : Nat) : Int) from fun z => nd (hc0.mp (by have := V.int.inj z; omega)))]
                exact ⟨_, _, rfl, X9r⟩
            · rw [decide_eq_false (show ¬ (1 : Int) < (((ws.drop a ++ [num]).length : Nat) : Int) by omega)]
              exact ⟨_, _, rfl, X9r⟩
          rintro σ' H12 ⟨rvs', y16, rfl, X12⟩
          refine ⟨.ref P, rfl, .int a, rfl, a, 1, rfl, rfl, _, rfl, P, _, rfl, SqL.of X12.hP, fun P' nP' => ?_⟩
          rw [show ((a : Nat) : Int) + 1 = ((a + 1 : Nat) : Int) by omega, cut_take (by rw [List.length_map]; omega), ← List.map_take] at *
          have sP := same_new (o := .lst ((xs.take (a + 1)).map V.int)) nP'
          refine ⟨.ref Wl, rfl, .int a, rfl, a, rfl, Wl, _, rfl, SqL.of (sP _ _ X12.hW), fun W' nW' => ?_⟩
          rw [cut_take (by rw [List.length_map]; omega), ← List.map_take]
          exact ⟨_, _, rfl, _, _, _, _, _, _, _, rfl, X12.newP nP' nW', pg.cut ea⟩
        · rw [decide_eq_false hin]
          refine ⟨.ref P, rfl, tyL80 X.hP, .int there, rfl, P, _, _, rfl, rfl, X.hP, by rw [List.length_map]; exact small1000 (by omega), ?_⟩
          have X8 := X.putP there
          refine ⟨.ref Wl, rfl, tyL80 X8.hW, .int num, rfl, Wl, _, _, rfl, rfl, X8.hW, by rw [List.length_map]; exact small1000 (by omega), ?_⟩
          exact ⟨_, _, _, _, _, _, _, rfl, (X8.putW num).mono (Nat.le_succ _) (Nat.le_refl _), pg.push yr hin nr jo⟩
      rintro σ' H8 ⟨P', Wl', xs', ws', rvs', y15, y16, rfl, X8, pg8⟩
      exact ⟨.int there, rfl, _, _, _, _, _, _, _, _, _, _, _, _, _, _, _, _, rfl, X8, pg8, rp', fun _ => ne', hA2.walk D2 X8⟩
    · rintro σ' H5 ⟨here, fo, P, Wl, R, C, xs, ws, rvs, cvs, y11, y12, y13, y14, y15, y16, rfl, X, pg, rp, ne, B⟩
      refine ⟨.ref R, rfl, .ref C, rfl, by show 2 ≤ sizeLine; decide, fun T' nT' => ?_⟩
      have X' := X.same (same_new (o := .tup [.ref R, .ref C]) nT')
      have kd := K02.trans X'.K
      have rn : ∀ a : Addr, H2 a = none → H a = none := fun a h => by
        refine K02.free h ?_ ?_ <;>
        · intro z
          obtain ⟨o, e⟩ := d2
          rw [z, e] at h
          cases h
      exact q T' R C rvs cvs _ upd_same X'.hR X'.rv X'.hC X'.cv (rn R X'.nR) (rn C X'.nC) (X'.D.mono (by omega)) kd
end
/-! ### k80: right -/
theorem rpk_least {n : Nat} {ts : List Tie} (ok : ∀ t ∈ ts, TieOk n t) {L : Nat} (h : ∀ p : Nat, p < n → ∀ k, RPk ts p k p true → L ≤ k) (x : Int) (k : Nat) (r : RPk ts x k x true) : L ≤ k := by
  rcases rpk_in ok r with ⟨_, _, e⟩ | ⟨hx, _⟩
  · cases e
  · have e : ((x.toNat : Nat) : Int) = x := by omega
    rw [← e] at r
    exact h x.toNat (by omega) k r
theorem way_few {n : Nat} {ts : List Tie} (ok : ∀ t ∈ ts, TieOk n t) {s : Nat} (hs : s < n) {e : Int} {qs ns : List Int} (way : Way (dN ts) e (2 * (s : Int)) qs ns) : ns.length ≤ 2 * n := by
  have h := pigeon (2 * n) qs way.nodup fun x hx => by
    obtain ⟨i, hi⟩ := List.getElem?_of_mem hx
    cases i with
    | zero =>
      rw [way.head] at hi
      obtain rfl := Option.some.inj hi
      omega
    | succ i =>
      have hil := (List.getElem?_eq_some_iff.mp hi).1
      have lq := way.len
      obtain ⟨x', y, m, h1, h2, h3, h4⟩ := way.each i (by omega)
      rw [hi] at h2
      obtain rfl := Option.some.inj h2
      have := dN_in ok h4
      omega
  have lq := way.len
  omega
theorem rpk_rp {ts : List Tie} {x : Int} {k : Nat} {y : Int} {b : Bool} (h : RPk ts x k y b) : RP ts x y b := by
  induction h with
  | nil => exact .nil
  | step _ ad ih => exact ih.step ad
theorem rp_rpk {ts : List Tie} {x y : Int} {b : Bool} (h : RP ts x y b) : ∃ k, RPk ts x k y b := by
  induction h with
  | nil => exact ⟨0, .nil⟩
  | step _ ad ih =>
    obtain ⟨k, r⟩ := ih
    exact ⟨k + 1, r.step ad⟩
theorem foeS_I (ts : List Tie) : ∀ ms : List Int, foeS ts ms = (foesI ts ms : Nat)
  | [] => rfl
  | m :: ms => by
    show bI (tieN ts m.toNat).foe + foeS ts ms = _
    rw [foeS_I ts ms]
    have e : tieAt ts m = tieN ts m.toNat := rfl
    unfold foesI
    rw [List.filter_cons, e]
    cases (tieN ts m.toNat).foe
    · show 0 + _ = _
      rw [Int.zero_add]
      rfl
    · show 1 + _ = _
      rw [if_pos rfl, List.length_cons]
      omega
theorem RingO.lt {n : Nat} {ts : List Tie} (ok : ∀ t ∈ ts, TieOk n t) {rs ms : List Int} (R : RingO ts rs ms) : ∀ x ∈ rs, x < n := fun x hx => by
  obtain ⟨k, hk⟩ := List.getElem?_of_mem hx
  have kl := (List.getElem?_eq_some_iff.mp hk).1
  obtain ⟨x', y, m, t, h1, h2, h3, h4, h5⟩ := R.each k (by rw [← R.len]; exact kl)
  rw [hk] at h1
  cases h1
  obtain ⟨o1, o2, o3, o4, _⟩ := ok t (List.mem_of_getElem? h4)
  rcases h5 with ⟨a, b⟩ | ⟨a, b⟩ <;> omega
theorem RingO.g {n : Nat} {ts : List Tie} (ok : ∀ t ∈ ts, TieOk n t) {rs ms : List Int} (R : RingO ts rs ms) : RingG n ts rs ms := by
  refine ⟨fun x hx => ⟨R.rp x hx, R.lt ok x hx⟩, R.mp, R.rd, R.md, by rw [R.len]; exact R.two, R.len, ?_⟩
  unfold ringI
  rw [List.all_eq_true]
  intro k hk
  obtain ⟨x, y, m, t, h1, h2, h3, h4, h5⟩ := R.each k (List.mem_range.mp hk)
  rw [getD_at h1, getD_at h2, getD_at h3]
  have e : tieAt ts m = t := by
    unfold tieAt
    rw [List.getD_eq_getElem?_getD, h4]
    rfl
  rw [e]
  unfold joinB
  rcases h5 with ⟨a, b⟩ | ⟨a, b⟩
  · rw [a, b]; simp
  · rw [a, b]; simp
/-- all but the tables and the well is kept -/
structure Kd (Ps : List Addr) (d : Addr) (H H' : Hp) : Prop where
  tab : Tabs Ps H'
  keep : ∀ b o, b ∉ Ps → b ≠ d → H b = some o → H' b = some o
theorem Kd.of {Ps : List Addr} {d : Addr} {H H' : Hp} (k : Kt Ps H H') : Kd Ps d H H' := ⟨k.tab, fun b o h _ e => k.keep b o h e⟩
theorem Kd.kp {Ps : List Addr} {d : Addr} {b : Nat} {H H' : Hp} (t : Tabs Ps H) (D : Well H d b) (k : Kp d d H H') : Kd Ps d H H' := ⟨t.kp k D, fun b o _ h e => k b o h h e⟩
theorem Kd.trans {Ps : List Addr} {d : Addr} {H H1 H2 : Hp} (a : Kd Ps d H H1) (b : Kd Ps d H1 H2) : Kd Ps d H H2 := ⟨b.tab, fun x o h e f => b.keep x o h e (a.keep x o h e f)⟩
theorem Kd.seq {Ps : List Addr} {d : Addr} {K : PySem.W.Frag} {H H' : Hp} {a : Addr} {xs : List V} (k : Kd Ps d H H') (t : Tabs Ps H) (h : SqL K H a xs) (ne : a ≠ d ∨ ∀ H', SqL K H' a xs) : SqL K H' a xs := by
  rcases ne with ne | f
  · rcases h with (h | ⟨o, h⟩) | h
    · exact .inl (.inl (k.keep _ _ (t.out h fun _ z => by cases z) ne h))
    · exact .inl (.inr ⟨o, k.keep _ _ (t.out h fun _ z => by cases z) ne h⟩)
    · exact .inr h
  · exact f H'
def spRight80 (Ps : List Addr) : Sp := fun vs H Q _ => ∃ (d : Addr), vs = [.ref d] ∧ Well H d 3 ∧ Tabs Ps H ∧ ∀ H', Kd Ps d H H' → Q (.bl true) H'
section
variable {P : Program} {w : World} {K : PySem.W.Frag} {mg : Str → Option Value} {base : Heap}
set_option maxHeartbeats 4000000 in
theorem ok_l_right {f : Addr} {fd : FuncData} {Ps : List Addr} (F : Fun K "_law_right" "_law_right" s_l_right f fd) (M : Free mg) (D_l_web : Df P w K mg base 3 "_law_web" ["_law_well_here"] spWeb) (D_sides_of : Df P w K mg base 3 "sides_of" ["web"] spFixed) (D_shortest_odd : Df P w K mg base 2 "shortest_odd" ["web"] spShort) (D_l_sides_right : Df P w K mg base 6 "_law_sides_right" ["_law_web_here", "_law_sides"] (spSidesR Ps)) (D_odd_ring_holds : Df P w K mg base 6 "odd_ring_holds" ["web", "thing"] (spOdd Ps)) (D_l_draw : Df P w K mg base 1 "_law_draw" ["_law_well_here", "_law_many"] spDraw) (D_l_walk : Df P w K mg base 2 "_law_walk" ["_law_well_here", "_law_web_here", "_law_steps"] spWalk80) (D_l_ring_right : Df P w K mg base 9 "_law_ring_right" ["_law_web_here", "_law_ring", "_law_told"] (spRingR Ps)) : FnOk P w K mg base CX0 10 f fd ["_law_well_here"] (spRight80 Ps) := by
  obtain ⟨f_l_web, fd_l_web, G_l_web, g_l_web, k_l_web, b_l_web⟩ := D_l_web
  obtain ⟨f_sides_of, fd_sides_of, G_sides_of, g_sides_of, k_sides_of, b_sides_of⟩ := D_sides_of
  obtain ⟨f_shortest_odd, fd_shortest_odd, G_shortest_odd, g_shortest_odd, k_shortest_odd, b_shortest_odd⟩ := D_shortest_odd
  obtain ⟨f_l_sides_right, fd_l_sides_right, G_l_sides_right, g_l_sides_right, k_l_sides_right, b_l_sides_right⟩ := D_l_sides_right
  obtain ⟨f_odd_ring_holds, fd_odd_ring_holds, G_odd_ring_holds, g_odd_ring_holds, k_odd_ring_holds, b_odd_ring_holds⟩ := D_odd_ring_holds
  obtain ⟨f_l_draw, fd_l_draw, G_l_draw, g_l_draw, k_l_draw, b_l_draw⟩ := D_l_draw
  obtain ⟨f_l_walk, fd_l_walk, G_l_walk, g_l_walk, k_l_walk, b_l_walk⟩ := D_l_walk
  obtain ⟨f_l_ring_right, fd_l_ring_right, G_l_ring_right, g_l_ring_right, k_l_ring_right, b_l_ring_right⟩ := D_l_ring_right
  refine F.ok sc_l_right (fun vs H Q E h => ?_) (fun cdv A outer s H vs Q E hr h => ?_)
  · obtain ⟨d, rfl, _⟩ := h
    rfl
  · obtain ⟨d, rfl, hD0, hT0, q⟩ := h
    refine ⟨_, (pss_cons (ps_set (i := 1) sc_l_right.nd rfl (.inl rfl) (pe_call G_l_web (hr.mono (by decide)) (by rfl) g_l_web k_l_web b_l_web .nil pass0 (pa_cons (pv 0) pa_nil)))
      (Evl.pss_cut (ps_set (i := 2) sc_l_right.nd rfl (.inl rfl) (pe_call G_sides_of (hr.mono (by decide)) (by rfl) g_sides_of k_sides_of b_sides_of .nil pass0 (pa_cons (pv 1) pa_nil)))
      (Evl.pss_cut (ps_set (i := 3) sc_l_right.nd rfl (.inl rfl) (pe_call G_shortest_odd (hr.mono (by decide)) (by rfl) g_shortest_odd k_shortest_odd b_shortest_odd .nil pass0 (pa_cons (pv 1) pa_nil)))
      (pss_cons (ps_if (pt_cmpR op_eq (pe_cmpR op_isN (pv 2) pe_non (nomark _)) (pe_cmpR op_isN (pv 3) pe_non (nomark _)) (nomark _))
        (pss_one (ps_ret pe_bl))
        pss_nil)
      (Evl.pss_cut (ps_if (PW.pt (pw_and (pt_cmpR op_notN (pv 2) pe_non (nomark _)) (pw_and1 (pt_not (pt_val (pe_call G_l_sides_right (hr.mono (by decide)) (by rfl) g_l_sides_right k_l_sides_right b_l_sides_right .nil pass0 (pa_cons (pv 1) (pa_cons (pv 2) pa_nil))))))))
        (pss_one (ps_ret pe_bl))
        pss_nil)
      (Evl.pss_cut (ps_if (PW.pt (pw_and (pt_cmpR op_notN (pv 3) pe_non (nomark _)) (pw_and1 (pt_cmpR op_isnot_bl (pe_call G_odd_ring_holds (hr.mono (by decide)) (by rfl) g_odd_ring_holds k_odd_ring_holds b_odd_ring_holds .nil pass0 (pa_cons (pv 1) (pa_cons (pe_ix ix_tup (pv 3) pe_int (fun _ _ => rfl)) pa_nil))) pe_bl (nomark _)))))
        (pss_one (ps_ret pe_bl))
        pss_nil)
      (pss_cons (ps_for PassesOwn.never rfl (pi_range1 (by rfl) M.range (pa_cons pe_int pa_nil)) (pg_name (i := 4) sc_l_right.nd rfl (.inl rfl))
        (pss_cons (ps_asg (pe_call G_l_walk (hr.mono (by decide)) (by rfl) g_l_walk k_l_walk b_l_walk .nil pass0 (pa_cons (pv 0) (pa_cons (pv 1) (pa_cons (pe_op op_add pe_int (pe_call G_l_draw (hr.mono (by decide)) (by rfl) g_l_draw k_l_draw b_l_draw .nil pass0 (pa_cons (pv 0) (pa_cons pe_int pa_nil)))) pa_nil)))) (pg_tup rfl (pgs_cons (pg_name (i := 5) sc_l_right.nd rfl (.inl rfl)) (pgs_cons (pg_name (i := 6) sc_l_right.nd rfl (.inl rfl)) pgs_nil))))
        (pss_cons (ps_for PassesOwn.never rfl (pi_list (pv 6)) (pg_tup rfl (pgs_cons (pg_name (i := 7) sc_l_right.nd rfl (.inl rfl)) (pgs_cons (pg_name (i := 8) sc_l_right.nd rfl (.inl rfl)) pgs_nil)))
          (pss_one (ps_if (PW.pt (pw_and (pt_val (pv 8)) (pw_and1 (PW.pt (pw_or (pt_cmpR op_isN (pv 3) pe_non (nomark _)) (pw_or1 (pt_cmpR op_gt (pe_callB call_len_seq (by rfl) M.len PySem.boot_len (pa_cons (pe_ix ix_tup (pe_ix ix_tup (pv 3) pe_int (fun _ _ => rfl)) pe_int (fun _ _ => rfl)) pa_nil)) (pv 7) (nomark _))))))))
            (pss_one (ps_ret pe_bl))
            pss_nil)))
        (pss_one (ps_for PassesOwn.never rfl (pi_list (pv 5)) (pg_name (i := 9) sc_l_right.nd rfl (.inl rfl))
          (pss_one (ps_if (pt_not (pt_val (pe_call G_l_ring_right (hr.mono (by decide)) (by rfl) g_l_ring_right k_l_ring_right b_l_ring_right .nil pass0 (pa_cons (pv 1) (pa_cons (pv 9) (pa_cons (pv 3) pa_nil))))))
            (pss_one (ps_ret pe_bl))
            pss_nil)))))))
      (pss_one (ps_ret pe_bl))))))))), ?_⟩
    refine ⟨.ref d, rfl, d, 3, rfl, hD0, by decide, fun wv nI ts H1 hW ok hD K1 => ?_⟩
    obtain ⟨n, rfl⟩ : ∃ n : Nat, nI = n := ⟨nI.toNat, by have := ok.lo; omega⟩
    have n1 := ok.lo
    have n40 := ok.hi
    have kd1 : Kd Ps d H H1 := Kd.kp hT0 hD0 K1
    have hT := kd1.tab
    refine ⟨fun σ' H' => ∃ v2 : V, σ' = [some (.ref d), some wv, some v2, none, none, none, none, none, none, none] ∧ Same H1 H' ∧ ((∃ (a : Addr) (ss : List Int), v2 = .ref a ∧ H' a = some (.tup (ss.map V.int)) ∧ Told ts n ss ∧ Cons ss ts) ∨ (v2 = .non ∧ Odd ts n)), ?_, ?_⟩
    · exact ⟨wv, rfl, wv, n, ts, rfl, hW, ok, fun ss a H2 tl co s2 ha => ⟨_, rfl, s2, .inl ⟨a, ss, rfl, ha, tl, co⟩⟩, fun H2 od s2 => ⟨_, rfl, s2, .inr ⟨rfl, od⟩⟩⟩
    rintro σ' H2 ⟨v2, rfl, s2, h2⟩
    refine ⟨fun σ' H' => ∃ v3 : V, σ' = [some (.ref d), some wv, some v2, some v3, none, none, none, none, none, none] ∧ Same H1 H' ∧ ToldS n ts H' v3 ∧ ((∃ (a : Addr) (ss : List Int), v2 = .ref a ∧ H' a = some (.tup (ss.map V.int)) ∧ Told ts n ss ∧ Cons ss ts ∧ v3 = .non) ∨ (v2 = .non ∧ ∃ t, v3 = .ref t)), ?_, ?_⟩
    · refine ⟨wv, rfl, wv, n, ts, rfl, hW.tk (Same.tk s2), ok, fun W H3 w1 od s3 => ?_, fun W L s qs ns r rg ly a b rows H3 w1 hs e1 mn way exa lns s3 g1 g2 g3 g4 g5 g6 => ?_⟩
      · refine ⟨_, rfl, s2.trans s3, .inl ⟨rfl, fun x k rr => ?_⟩, ?_⟩
        · rcases rpk_in ok.ok rr with ⟨_, _, e⟩ | ⟨⟨x0, x1⟩, _⟩
          · cases e
          · have e : ((x.toNat : Nat) : Int) = x := by omega
            rw [← e] at rr
            exact (odL_none (w1 x.toNat (by omega))).mp (od x.toNat (by omega)) k rr
        · rcases h2 with ⟨a, ss, e, h3, h4, h5⟩ | ⟨e, x, ⟨x0, x1⟩, rr⟩
          · exact .inl ⟨a, ss, e, s3 _ _ h3, h4, h5, rfl⟩
          · exfalso
            obtain ⟨k, rk⟩ := rp_rpk rr
            have e : ((x.toNat : Nat) : Int) = x := by omega
            rw [← e] at rk
            exact (odL_none (w1 x.toNat (by omega))).mp (od x.toNat (by omega)) k rk
      · have r1 := ((odL_some (w1 s hs)).mp e1).1
        have mn2 : ∀ p k : Nat, p < n → odL (W p) p = some k → L ≤ k := fun p k hp e => by
          have := mn p k hp e
          omega
        have least : ∀ p : Nat, p < n → ∀ k, RPk ts p k p true → L ≤ k := fun p hp k rr => by
          cases ho : odL (W p) p with
          | none => exact ((odL_none (w1 p hp)).mp ho _ rr).elim
          | some k' =>
            have a2 := mn2 p k' hp ho
            have a3 := ((odL_some (w1 p hp)).mp ho).2 _ rr
            omega
        have R : RingO ts (qs.dropLast.map (· / 2)) (ns.map (· / 2)) := ring_of ok.ok way (fun x k rr => by rw [lns]; exact rpk_least ok.ok least x k rr) (by have := way_few ok.ok hs way; omega) (by omega)
        refine ⟨_, rfl, s2.trans s3, .inr ⟨W, L, s, r, rg, ly, a, b, _, _, rows, rfl, g1, g2, g3, g4, by rw [List.length_map]; exact lns, g5, g6, w1, hs, e1, mn2, R, R.lt ok.ok⟩, ?_⟩
        rcases h2 with ⟨a', ss, e, h3, h4, h5⟩ | ⟨e, _⟩
        · exact (cons_no_odd (n := n) h4.bin (by rw [h4.len]; exact ok.ok) h5 ⟨s, ⟨by omega, by omega⟩, rpk_rp r1⟩).elim
        · exact .inr ⟨e, r, rfl⟩
    clear h2 s2
    rintro σ' H3 ⟨v3, rfl, s3, t3, h3⟩
    have hW3 := hW.tk (Same.tk s3)
    have hT3 := hT.same s3
    have hD3 := hD.same s3
    have kd3 : Kd Ps d H H3 := kd1.trans (.of (Kt.same hT s3))
    clear hW hT hD kd1 s3 K1
    have nn : ((v2 = .non) ↔ ¬ (v3 = .non)) := by
      rcases h3 with ⟨a, ss, e, _, _, _, f⟩ | ⟨e, t, f⟩
      · rw [e, f]; simp
      · rw [e, f]; simp
    refine ⟨v2, rfl, rfl, v3, rfl, rfl, rfl, _, rfl, ?_⟩
    have eq2 : decide (V.bl (decide (v2 = .non)) = V.bl (decide (v3 = .non))) = false := by
      refine decide_eq_false fun z => ?_
      have z := V.bl.inj z
      by_cases h : v2 = .non
      · have h' := nn.mp h
        rw [decide_eq_true h, decide_eq_false h'] at z
        cases z
      · have h' : v3 = .non := Classical.byContradiction fun y => h (nn.mpr y)
        rw [decide_eq_false h, decide_eq_true h'] at z
        cases z
    rw [eq2]
    refine ⟨fun σ' H' => σ' = [some (.ref d), some wv, some v2, some v3, none, none, none, none, none, none] ∧ WebAt H' wv n ts ∧ Tabs Ps H' ∧ Well H' d (3 + 1000) ∧ ToldS n ts H' v3 ∧ Kd Ps d H H', ?_, ?_⟩
    · refine ⟨v2, rfl, rfl, _, rfl, ?_⟩
      rcases h3 with ⟨a, ss, rfl, ha, tl, co, rfl⟩ | ⟨rfl, t, rfl⟩
      · refine ⟨wv, rfl, .ref a, rfl, wv, a, n, ts, ss, rfl, hW3, ok, ha, tl, co, hT3, fun H4 k4 => ?_⟩
        exact ⟨_, rfl, rfl, hW3.tk (k4.tk hT3), k4.tab, k4.well hT3 hD3, t3.tk (k4.tk hT3), kd3.trans (.of k4)⟩
      · exact ⟨rfl, hW3, hT3, hD3, t3, kd3⟩
    clear hW3 hT3 hD3 t3 kd3 eq2 h3 nn
    rintro σ' H4 ⟨rfl, hW, hT, hD, t4, kd⟩
    refine ⟨fun σ' H' => σ' = [some (.ref d), some wv, some v2, some v3, none, none, none, none, none, none] ∧ WebAt H' wv n ts ∧ Tabs Ps H' ∧ Well H' d (3 + 1000) ∧ ToldS n ts H' v3 ∧ Kd Ps d H H', ?_, ?_⟩
    · refine ⟨v3, rfl, rfl, _, rfl, ?_⟩
      rcases id t4 with ⟨rfl, _⟩ | ⟨W, L, s, t, rg, ly, a, b, rs, ms, rows, rfl, g1, g2, g3, g4, g5, g6, g7, g8, g9, gA, gB, gC, gD⟩
      · exact ⟨rfl, hW, hT, hD, t4, kd⟩
      · have ra : RingAt H4 (.ref rg) rs ms := ⟨rg, a, b, rfl, g2, g3, g4⟩
        have gg := gC.g ok.ok
        have fw := gC.few
        have th : Thing2 H4 (.ref rg) := ring_thing ra (by rw [gC.len]; omega) (by omega)
        refine ⟨wv, rfl, .ref t, rfl, t, _, 0, .ref rg, rfl, rfl, SqT.of g1, rfl, wv, n, ts, .ref rg, rfl, hW, ok, th, hT, fun H5 k5 => ?_⟩
        have od : oddB H4 n ts (.ref rg) = true := by
          rw [odd_val ra gg]
          refine decide_eq_true ?_
          have := gC.odd
          rw [foeS_I] at this
          omega
        rw [od]
        refine ⟨true, true, rfl, rfl, _, rfl, ?_⟩
        exact ⟨rfl, hW.tk (k5.tk hT), k5.tab, k5.well hT hD, t4.tk (k5.tk hT), kd.trans (.of k5)⟩
    clear hW hT hD t4 kd
    rintro σ' H5 ⟨rfl, hW, hT, hD, t5, kd⟩
    refine ⟨2, rfl, by decide, by decide, ?_⟩
    refine for_range (lo := 0) (n := 2) (fun i σ' H' => ∃ y4 y5 y6 y7 y8 y9 : Option V, σ' = [some (.ref d), some wv, some v2, some v3, y4, y5, y6, y7, y8, y9] ∧ WebAt H' wv n ts ∧ Tabs Ps H' ∧ Well H' d (3 + 1000 + 60 * i) ∧ ToldS n ts H' v3 ∧ Kd Ps d H H') ⟨_, _, _, _, _, _, rfl, hW, hT, hD, t5, kd⟩ ?_ ?_
    · clear hW hT hD t5 kd
      rintro i σ' H5 hi ⟨y4, y5, y6, y7, y8, y9, rfl, hW, hT, hD, t5, kd⟩
      rw [show (0 : Int) + (i : Nat) = i from by omega]
      refine ⟨.ref d, rfl, wv, rfl, .ref d, rfl, d, _, 40, rfl, hD, by omega, by decide, by decide, fun x H6 x0 x1 D6 K6 => ⟨1, x, rfl, rfl, ?_⟩⟩
      refine ⟨d, _, wv, 1 + x, n, ts, rfl, D6, by omega, hW.tk (K6.tk hD), ok, by omega, by omega, fun T R C rvs cvs H7 eT eR rv eC cv nR nC D7 K7 => ?_⟩
      refine ⟨T, _, rfl, SqT.of eT, rfl, _, _, rfl, _, _, rfl, rfl, ?_⟩
      have K57 := K6.trans K7
      have tk57 := K57.tk hD
      have kd7 : Kd Ps d H H7 := kd.trans (Kd.kp hT hD K57)
      have hT7 := kd7.tab
      have hW7 := hW.tk tk57
      have t7 := t5.tk tk57
      have D7' : Well H7 d (3 + 1000 + 60 * (i + 1)) := D7.mono (by omega)
      clear hW hT hD t5 kd K57 tk57 D6 K6 D7 K7
      refine ⟨.ref C, rfl, C, rfl, ⟨_, SqL.of eC⟩, ?_⟩
      refine for_list (xs := cvs) (fun j σ' H' => ∃ y7 y8 : Option V, σ' = [some (.ref d), some wv, some v2, some v3, some (.int i), some (.ref R), some (.ref C), y7, y8, y9] ∧ H' = H7) ⟨_, _, rfl, rfl⟩ (fun j σ' H' _ h => by
        obtain ⟨_, _, _, rfl⟩ := h
        exact SqL.of eC) ?_ ?_
      · rintro j x σ' H8 ex ⟨y7, y8, rfl, rfl⟩
        obtain ⟨c, k, o, x0, rfl, hc, ho⟩ := cv x (List.mem_of_getElem? ex)
        refine ⟨c, _, rfl, SqT.of hc, rfl, _, _, rfl, _, _, rfl, rfl, ?_⟩
        refine ⟨.bl o, rfl, o, rfl, ?_⟩
        cases o with
        | false => exact ⟨_, _, rfl, rfl⟩
        | true =>
          have rk := ho rfl
          refine ⟨v3, rfl, rfl, _, rfl, ?_⟩
          rcases id t7 with ⟨rfl, no⟩ | ⟨W, L, s, t, rg, ly, a, b, rs, ms, rows, rfl, g1, g2, g3, g4, g5, g6, g7, g8, g9, gA, gB, gC, gD⟩
          · exact (no _ _ rk).elim
          · have least : ∀ p : Nat, p < n → ∀ k, RPk ts p k p true → L ≤ k := fun p hp k rr => by
              cases ho : odL (W p) p with
              | none => exact ((odL_none (g8 p hp)).mp ho _ rr).elim
              | some k' =>
                have a2 := gB p k' hp ho
                have a3 := ((odL_some (g8 p hp)).mp ho).2 _ rr
                omega
            have lk := rpk_least ok.ok least _ _ rk
            refine ⟨.ref t, rfl, t, _, 0, .ref rg, rfl, rfl, SqT.of g1, rfl, rg, _, 1, .ref b, rfl, rfl, SqT.of g2, rfl, b, _, rfl, .inr (SqT.of g4), .int k, rfl, _, _, rfl, rfl, _, rfl, ?_⟩
            rw [List.length_map, g5, decide_eq_false (show ¬ ((L : Nat) : Int) > ((k : Nat) : Int) by omega)]
            exact ⟨_, _, rfl, rfl⟩
      · rintro σ' H8 ⟨y7, y8, rfl, rfl⟩
        refine ⟨.ref R, rfl, R, rfl, ⟨_, SqL.of eR⟩, ?_⟩
        refine for_list (xs := rvs) (fun j σ' H' => ∃ y9 : Option V, σ' = [some (.ref d), some wv, some v2, some v3, some (.int i), some (.ref R), some (.ref C), y7, y8, y9] ∧ WebAt H' wv n ts ∧ Tabs Ps H' ∧ Well H' d (3 + 1000 + 60 * (i + 1)) ∧ ToldS n ts H' v3 ∧ Kd Ps d H H' ∧ H' R = some (.lst rvs) ∧ ∀ v ∈ rvs, RingV H' n ts v) ⟨_, rfl, hW7, hT7, D7', t7, kd7, eR, rv⟩ (fun j σ' H' _ h => by
          obtain ⟨_, _, _, _, _, _, _, h, _⟩ := h
          exact SqL.of h) ?_ ?_
        · clear hW7 hT7 D7' t7 kd7 eR rv
          rintro j x σ' H8 ex ⟨y9, rfl, hW, hT, hD, t8, kd, eR, rv⟩
          obtain ⟨ps, es, rA, rG⟩ := rv x (List.mem_of_getElem? ex)
          refine ⟨wv, rfl, x, rfl, v3, rfl, wv, x, v3, n, ts, ps, es, rfl, hW, ok, rA, rG, t8, hT, fun H9 k9 => ?_⟩
          have tk := k9.tk hT
          exact ⟨_, rfl, _, rfl, hW.tk tk, k9.tab, k9.well hT hD, t8.tk tk, kd.trans (.of k9), k9.lst hT eR, fun v hv => (rv v hv).tk tk⟩
        · rintro σ' H8 ⟨y9, rfl, hW, hT, hD, t8, kd, _, _⟩
          exact ⟨_, _, _, _, _, _, rfl, hW, hT, hD, t8, kd⟩
    · rintro σ' H6 ⟨y4, y5, y6, y7, y8, y9, rfl, hW, hT, hD, t5, kd⟩
      exact q _ kd
end
/-! ### k80: the law -/
def spLaw (K : PySem.W.Frag) (Ps : List Addr) : Sp := fun vs H Q _ => ∃ (a : Addr) (ns : List Int), vs = [.ref a] ∧ SqL K H a (ns.map V.int) ∧ ns.length ≤ 63 ∧ Tabs Ps H ∧ ∀ H', Q (.bl true) H'
section
variable {P : Program} {w : World} {K : PySem.W.Frag} {mg : Str → Option Value} {base : Heap}
theorem ok_law {f : Addr} {fd : FuncData} {Ps : List Addr} (F : Fun K "law" "law" s_law f fd) (M : Free mg) (m_max : mg "max" = none) (m_min : mg "min" = none) (D_l_well : Df P w K mg base 1 "_law_well" ["_law_script", "_law_k"] (spWell K)) (D_l_right : Df P w K mg base 10 "_law_right" ["_law_well_here"] (spRight80 Ps)) : FnOk P w K mg base CX0 11 f fd ["_law_script"] (spLaw K Ps) := by
  obtain ⟨f_l_well, fd_l_well, G_l_well, g_l_well, k_l_well, b_l_well⟩ := D_l_well
  obtain ⟨f_l_right, fd_l_right, G_l_right, g_l_right, k_l_right, b_l_right⟩ := D_l_right
  refine F.ok sc_law (fun vs H Q E h => ?_) (fun cdv A outer s H vs Q E hr h => ?_)
  · obtain ⟨sc, ns, rfl, _⟩ := h
    rfl
  · obtain ⟨sc, ns, rfl, hS, few63, hT, q⟩ := h
    refine ⟨_, (pss_cons (ps_for PassesOwn.never rfl (pi_range1 (by rfl) M.range (pa_cons (pe_callB (call_max2 rfl) (by rfl) m_max (by decide +kernel) (pa_cons pe_int (pa_cons (pe_callB (call_min2 rfl) (by rfl) m_min (by decide +kernel) (pa_cons pe_int (pa_cons (pe_callB call_len_seq (by rfl) M.len PySem.boot_len (pa_cons (pv 0) pa_nil)) pa_nil))) pa_nil))) pa_nil)) (pg_name (i := 1) sc_law.nd rfl (.inl rfl))
        (pss_one (ps_if (pt_not (pt_val (pe_call G_l_right (hr.mono (by decide)) (by rfl) g_l_right k_l_right b_l_right .nil pass0 (pa_cons (pe_call G_l_well (hr.mono (by decide)) (by rfl) g_l_well k_l_well b_l_well .nil pass0 (pa_cons (pv 0) (pa_cons (pv 1) pa_nil))) pa_nil))))
          (pss_one (ps_ret pe_bl))
          pss_nil)))
      (pss_one (ps_ret pe_bl))), ?_⟩
    refine ⟨.ref sc, rfl, sc, _, rfl, .inl hS, 2, _, rfl, 1, _, rfl, ?_⟩
    obtain ⟨c, ec, c0, c3⟩ : ∃ c : Nat, (if (if (((ns.map V.int).length : Nat) : Int) < 2 then (((ns.map V.int).length : Nat) : Int) else 2) > 1 then (if (((ns.map V.int).length : Nat) : Int) < 2 then (((ns.map V.int).length : Nat) : Int) else 2) else 1) = (c : Int) ∧ 1 ≤ c ∧ c ≤ 2 := by
      generalize ((ns.map V.int).length : Nat) = m
      by_cases h1 : m < 2
      · rw [if_pos (show (m : Int) < 2 by omega)]
        by_cases h2 : m > 1
        · exact ⟨m, by rw [if_pos (show (m : Int) > 1 by omega)], by omega, by omega⟩
        · exact ⟨1, by rw [if_neg (show ¬ (m : Int) > 1 by omega)]; rfl, by omega, by omega⟩
      · exact ⟨2, by rw [if_neg (show ¬ (m : Int) < 2 by omega)]; rfl, by omega, by omega⟩
    refine ⟨c, by rw [ec], by omega, by omega, ?_⟩
    rw [Int.toNat_natCast]
    refine for_range (lo := 0) (n := c) (fun i σ' H' => ∃ (y1 : Option V), σ' = [some (.ref sc), y1] ∧ SqL K H' sc (ns.map V.int) ∧ Tabs Ps H') ⟨none, rfl, hS, hT⟩ ?_ ?_
    · clear hS hT
      rintro i σ' H0 hi ⟨y1, rfl, hS, hT⟩
      rw [show (0 : Int) + (i : Nat) = i from by omega]
      refine ⟨.ref sc, rfl, .int i, rfl, sc, ns, i, rfl, hS, by omega, fun d H1 s1 nd W1 => ⟨d, rfl, W1, hT.same s1, fun H2 k2 => ⟨_, rfl, ?_⟩⟩⟩
      exact ⟨_, rfl, k2.seq (hT.same s1) (s1.seq hS) ((sql_ne hS nd).imp id id), k2.tab⟩
    · rintro σ' H0 ⟨y1, rfl, _, _⟩
      exact q _
end
/-! ### the end of a law whose defs hold generator expressions: their tables are empty behind the top -/
theorem walk_tabs {l : PySem.W.OpenLaw} {n k : Nat} {q : Program} {loose : List Str} {XP : (Str → Option Value) → Heap → Prop} {YP : World → Heap → Prop} {d : DefRec} {K : Params → PySem.W.Frag} {x : Str}
    (hn : l.most = some n) (hn2 : n ≤ sizeLine) (hdf : d.params.defaults = []) (hr : Room k callerA) (hY : ∀ (w : World) (h : Heap), YP w h → (K w.params).In h)
    (F : ∀ (w : World) (mg : Str → Option Value) (fa : Addr) (h : Heap), (K w.params).In h → h.Ns mainGlobals mg → mg d.name = some (.ref fa) →
      (∀ (y : Str) (fy : Addr), ((recsOf q).any fun e => e.name == y) = true → mg y = some (.ref fy) → LamX.OwnTab (K w.params) fy h) → LamX.LawAtS l w (K w.params) CX0 k n x mg fa h) :
    PySem.W.WalkO q loose XP YP l.row.toRowW d [] (fun f vs => PySem.call f vs) := by
  refine Att.attach_callB hn hdf fun w s₀ s₁ mg mb fa o pm cd doc a vs ns G Y ho hd hcd hmg hobj hints hlen hbits hg => ?_
  have KX := hY w _ Y
  have tabs : ∀ (y : Str) (fy : Addr), ((recsOf q).any fun e => e.name == y) = true → mg y = some (.ref fy) → LamX.OwnTab (K w.params) fy s₁.heap := fun y fy hy hm c P o1 fd1 e dd vs1 sl k1 k2 k3 k4 k5 => by
    obtain ⟨dL, hmem, hnm⟩ := List.any_eq_true.mp hy
    have hnm : dL.name = y := beq_iff_eq.mp hnm
    obtain ⟨a', o', fd', c', P', h1, h2, h3, h4, h5, h6⟩ := G.T.tab dL hmem
    rw [hnm, hm] at h1
    cases h1
    rw [KX _ _ k1] at h2
    cases h2
    rw [k2] at h3
    cases h3
    rw [k3] at h4
    cases h4
    obtain ⟨⟨oc, vc, e1, _, e3, e4⟩, hP⟩ := h6
    rw [KX _ _ k4] at e1
    cases e1
    cases e3
    rw [k5] at e4
    cases e4
    exact hP
  obtain ⟨fd, cs, sp, hT, nT, C, hb, hsp, hF⟩ := F w mg fa _ KX G.T.g hmg tabs
  exact LamX.law_callTs KX G.T.g G.T.b G.T.builtins G.T.nolimit hg hT nT C G.T.bmain hobj hints (Nat.le_trans hlen hn2) hr hF hb (fun H hH hS => hsp H a ns hlen hbits hH hS) fun H e s' z => z
/-- where a def stands, and where its code object does -/
structure At (K : PySem.W.Frag) (x : Str) (st : Stmt) (f : Addr) : Prop where
  ns : PySem.W.nsIn K mainGlobals x = some (some (.ref f))
  ex : ∃ (oc : Value) (od : Option Addr) (kV doc pm : Value) (an : Option Addr) (cdv ct : Value) (osl : Array (Option Value)),
    K.lookup f = some ⟨oc, od, .func (PySem.W.fnOf x x (defArgs st) (defBody st) (defScope st) .none kV doc pm an cdv ct), osl⟩ ∧ PySem.W.codeIn K cdv x = true
  kp : PySem.W.keepIn K (.ref f) = true
theorem at_mk {K : PySem.W.Frag} {x : Str} {st : Stmt} {f : Addr} {oc : Value} {od an : Option Addr} {osl : Array (Option Value)} {kV doc pm cdv ct : Value} (a : PySem.W.nsIn K mainGlobals x = some (some (.ref f)))
    (l : K.lookup f = some ⟨oc, od, .func (PySem.W.fnOf x x (defArgs st) (defBody st) (defScope st) .none kV doc pm an cdv ct), osl⟩) (c : PySem.W.codeIn K cdv x = true) (k : PySem.W.keepIn K (.ref f) = true) : At K x st f := ⟨a, ⟨oc, od, kV, doc, pm, an, cdv, ct, osl, l, c⟩, k⟩
theorem At.fn {K : PySem.W.Frag} {x : Str} {st : Stmt} {f : Addr} (h : At K x st f) : ∃ fd, Fun K x x st f fd := by
  obtain ⟨oc, od, kV, doc, pm, an, cdv, ct, osl, l, c⟩ := h.ex
  exact ⟨_, fun_mk l c h.kp⟩
structure AtC (K : PySem.W.Frag) (x : Str) (st : Stmt) (f c Pt : Addr) : Prop where
  ns : PySem.W.nsIn K mainGlobals x = some (some (.ref f))
  ex : ∃ (oc : Value) (od : Option Addr) (kV doc pm : Value) (an : Option Addr) (ct : Value) (osl : Array (Option Value)),
    K.lookup f = some ⟨oc, od, .func (PySem.W.fnOf x x (defArgs st) (defBody st) (defScope st) .none kV doc pm an (.ref c) ct), osl⟩ ∧ PySem.W.codeIn K (.ref c) x = true
  kp : PySem.W.keepIn K (.ref f) = true
  co : ∃ (dd : Option Addr) (vs : Array Value) (sl : Array (Option Value)) (file : Str) (tf : Tok) (flags : Int) (tg : Tok) (inF : Bool) (text : Int) (tt : Tok), K.lookup c = some ⟨.type "code", dd, .fields vs, sl⟩ ∧ vs[11]? = some (.ref Pt) ∧ vs.getD 11 .none = .ref Pt ∧ vs.getD 18 .none = .str file tf ∧
    vs.getD 7 .none = .int flags tg ∧ vs.getD 9 .none = .bool inF ∧ vs.getD 10 .none = .int text tt ∧ c ≠ Pt
  nP : K.lookup Pt = none
theorem atC_mk {K : PySem.W.Frag} {x : Str} {st : Stmt} {f c Pt : Addr} {oc : Value} {od an dd : Option Addr} {osl sl : Array (Option Value)} {kV doc pm ct : Value} {vs : Array Value} {file : Str} {tf tg tt : Tok} {flags text : Int} {inF : Bool} (a : PySem.W.nsIn K mainGlobals x = some (some (.ref f)))
    (l : K.lookup f = some ⟨oc, od, .func (PySem.W.fnOf x x (defArgs st) (defBody st) (defScope st) .none kV doc pm an (.ref c) ct), osl⟩) (cc : PySem.W.codeIn K (.ref c) x = true) (k : PySem.W.keepIn K (.ref f) = true)
    (lc : K.lookup c = some ⟨.type "code", dd, .fields vs, sl⟩) (v11 : vs[11]? = some (.ref Pt)) (w11 : vs.getD 11 .none = .ref Pt) (v18 : vs.getD 18 .none = .str file tf) (v7 : vs.getD 7 .none = .int flags tg) (v9 : vs.getD 9 .none = .bool inF) (v10 : vs.getD 10 .none = .int text tt) (ne : c ≠ Pt)
    (nP : K.lookup Pt = none) : AtC K x st f c Pt := ⟨a, ⟨oc, od, kV, doc, pm, an, ct, osl, l, cc⟩, k, ⟨dd, vs, sl, file, tf, flags, tg, inF, text, tt, lc, v11, w11, v18, v7, v9, v10, ne⟩, nP⟩
theorem AtC.fn {K : PySem.W.Frag} {x : Str} {st : Stmt} {f c Pt : Addr} (h : AtC K x st f c Pt) : ∃ fd, FunC K x x st f fd c := by
  obtain ⟨oc, od, kV, doc, pm, an, ct, osl, l, cc⟩ := h.ex
  exact ⟨_, ⟨oc, od, kV, doc, pm, an, ct, osl, rfl, l, cc⟩, h.kp⟩
theorem AtC.hd {K : PySem.W.Frag} {h : Heap} {x : Str} {st : Stmt} {f c Pt : Addr} (a : AtC K x st f c Pt) (X : K.In h) : PySem.W.CodeHd h c Pt := by
  obtain ⟨dd, vs, sl, file, tf, flags, tg, inF, text, tt, lc, v11, w11, v18, v7, v9, v10, ne⟩ := a.co
  exact ⟨_, vs, file, tf, flags, tg, inF, text, tt, X _ _ lc, rfl, rfl, v11, w11, v18, v7, v9, v10, ne⟩
theorem AtC.tab {K : PySem.W.Frag} {h : Heap} {x : Str} {st : Stmt} {f c Pt : Addr} (a : AtC K x st f c Pt) (o : LamX.OwnTab K f h) : h.get? Pt = some { cls := .none, data := .fields #[] } := by
  obtain ⟨oc, od, kV, doc, pm, an, ct, osl, l, cc⟩ := a.ex
  obtain ⟨dd, vs, sl, file, tf, flags, tg, inF, text, tt, lc, v11, w11, v18, v7, v9, v10, ne⟩ := a.co
  exact o c Pt _ _ _ _ _ _ l rfl rfl lc v11
section
variable {P : Program} {w : World} {K : PySem.W.Frag} {mg : Str → Option Value} {base : Heap}
theorem Df.of {x : Str} {st : Stmt} {f : Addr} {fd : FuncData} {k : Nat} {ps : List Str} {sp : Sp} (g : mg x = some (.ref f)) (F : Fun K x x st f fd) (G : FnOk P w K mg base CX0 k f fd ps sp)
    (h : ∀ (kV doc pm : Value) (an : Option Addr) (cdv ct : Value) (us : List Value), us.length = ps.length → bindArgs (PySem.W.fnOf x x (defArgs st) (defBody st) (defScope st) .none kV doc pm an cdv ct) ⟨us, []⟩ = pure (ps.zip us)) : Df P w K mg base k x ps sp :=
  ⟨f, fd, G, g, F.kp, F.binds h⟩
end
/-! ### what the top has written -/
section
variable {P : Program} {w : World} {K : PySem.W.Frag} {mg : Str → Option Value} {base : Heap}
set_option maxHeartbeats 0 in
theorem law_at {l : PySem.W.OpenLaw} {w : World} {K : PySem.W.Frag} {h : Heap} {mg : Str → Option Value} {fa f0 f1 f2 f3 f4 f5 f6 f7 f8 f9 f10 f11 f12 f13 f14 f15 f16 f17 f18 f19 f20 f21 f22 f23 f24 f25 f26 f27 f28 f29 f30 f31 f32 f33 f34 f35 f36 f37 f38 f39 c6 P6 c11 P11 c14 P14 c15 P15 c16 P16 c18 P18 : Addr} (X : K.In h) (G : h.Ns mainGlobals mg) (hfa : mg "law" = some (.ref fa))
    (t6 : ∀ (fy : Addr), mg "is_sides" = some (.ref fy) → LamX.OwnTab K fy h)
    (t11 : ∀ (fy : Addr), mg "is_row" = some (.ref fy) → LamX.OwnTab K fy h)
    (t14 : ∀ (fy : Addr), mg "row_holds" = some (.ref fy) → LamX.OwnTab K fy h)
    (t15 : ∀ (fy : Addr), mg "layers_hold" = some (.ref fy) → LamX.OwnTab K fy h)
    (t16 : ∀ (fy : Addr), mg "are_unlike_below" = some (.ref fy) → LamX.OwnTab K fy h)
    (t18 : ∀ (fy : Addr), mg "ring_holds" = some (.ref fy) → LamX.OwnTab K fy h)
    (a0 : At K "neighbours" s_neighbours f0)
    (a1 : At K "sides_from" s_sides_from f1)
    (a2 : At K "is_whole" s_is_whole f2)
    (a3 : At K "is_whole_from" s_is_whole_from f3)
    (a4 : At K "is_whole_below" s_is_whole_below f4)
    (a5 : At K "is_tuple_of" s_is_tuple_of f5)
    (a6 : AtC K "is_sides" s_is_sides f6 c6 P6)
    (a7 : At K "breaks" s_breaks f7)
    (a8 : At K "broken_by" s_broken_by f8)
    (a9 : At K "sides_hold" s_sides_hold f9)
    (a10 : At K "sides_of" s_sides_of f10)
    (a11 : AtC K "is_row" s_is_row f11 c11 P11)
    (a12 : At K "are_near" s_are_near f12)
    (a13 : At K "near_along" s_near_along f13)
    (a14 : AtC K "row_holds" s_row_holds f14 c14 P14)
    (a15 : AtC K "layers_hold" s_layers_hold f15 c15 P15)
    (a16 : AtC K "are_unlike_below" s_are_unlike_below f16 c16 P16)
    (a17 : At K "joins" s_joins f17)
    (a18 : AtC K "ring_holds" s_ring_holds f18 c18 P18)
    (a19 : At K "foes_in" s_foes_in f19)
    (a20 : At K "odd_ring_holds" s_odd_ring_holds f20)
    (a21 : At K "ties_around" s_ties_around f21)
    (a22 : At K "walk_from" s_walk_from f22)
    (a23 : At K "way_to" s_way_to f23)
    (a24 : At K "doubled" s_doubled f24)
    (a25 : At K "halved" s_halved f25)
    (a26 : At K "row_of" s_row_of f26)
    (a27 : At K "shortest_odd" s_shortest_odd f27)
    (a28 : At K "_law_well" s_l_well f28)
    (a29 : At K "_law_draw" s_l_draw f29)
    (a30 : At K "_law_kind" s_l_kind f30)
    (a31 : At K "_law_ends" s_l_ends f31)
    (a32 : At K "_law_web" s_l_web f32)
    (a33 : At K "_law_beside" s_l_beside f33)
    (a34 : At K "_law_walk" s_l_walk f34)
    (a35 : At K "_law_firsts" s_l_firsts f35)
    (a36 : At K "_law_sides_right" s_l_sides_right f36)
    (a37 : At K "_law_ring_right" s_l_ring_right f37)
    (a38 : At K "_law_right" s_l_right f38)
    (a39 : At K "law" s_law f39)
    (z0 : PySem.W.nsIn K mainGlobals "len" = some none)
    (z1 : PySem.W.nsIn K mainGlobals "int" = some none)
    (z2 : PySem.W.nsIn K mainGlobals "bool" = some none)
    (z3 : PySem.W.nsIn K mainGlobals "str" = some none)
    (z4 : PySem.W.nsIn K mainGlobals "list" = some none)
    (z5 : PySem.W.nsIn K mainGlobals "tuple" = some none)
    (z6 : PySem.W.nsIn K mainGlobals "range" = some none)
    (z7 : PySem.W.nsIn K mainGlobals "isinstance" = some none)
    (z8 : PySem.W.nsIn K mainGlobals "sum" = some none)
    (z9 : PySem.W.nsIn K mainGlobals "abs" = some none)
    (z10 : PySem.W.nsIn K mainGlobals "all" = some none)
    (z11 : PySem.W.nsIn K mainGlobals "enumerate" = some none)
    (z12 : PySem.W.nsIn K mainGlobals "max" = some none)
    (z13 : PySem.W.nsIn K mainGlobals "min" = some none)
    (z14 : PySem.W.nsIn K mainGlobals "set" = some none)
    (z15 : PySem.W.nsIn K mainGlobals "zip" = some none)
     :
    LamX.LawAtS l w K CX0 11 63 "_law_script" mg fa h := by
  have efa := hfa.symm.trans (PySem.W.mg_of X G a39.ns)
  cases efa
  have M : Free mg := ⟨PySem.W.mg_none_of X G z0, PySem.W.mg_none_of X G z1, PySem.W.mg_none_of X G z2, PySem.W.mg_none_of X G z3, PySem.W.mg_none_of X G z4, PySem.W.mg_none_of X G z5, PySem.W.mg_none_of X G z6, PySem.W.mg_none_of X G z7, PySem.W.mg_none_of X G z8⟩
  have m_abs := PySem.W.mg_none_of X G z9
  have m_all := PySem.W.mg_none_of X G z10
  have m_enumerate := PySem.W.mg_none_of X G z11
  have m_max := PySem.W.mg_none_of X G z12
  have m_min := PySem.W.mg_none_of X G z13
  have m_set := PySem.W.mg_none_of X G z14
  have m_zip := PySem.W.mg_none_of X G z15
  obtain ⟨d0, F0⟩ := a0.fn
  obtain ⟨d1, F1⟩ := a1.fn
  obtain ⟨d2, F2⟩ := a2.fn
  obtain ⟨d3, F3⟩ := a3.fn
  obtain ⟨d4, F4⟩ := a4.fn
  obtain ⟨d5, F5⟩ := a5.fn
  obtain ⟨d6, F6⟩ := a6.fn
  obtain ⟨d7, F7⟩ := a7.fn
  obtain ⟨d8, F8⟩ := a8.fn
  obtain ⟨d9, F9⟩ := a9.fn
  obtain ⟨d10, F10⟩ := a10.fn
  obtain ⟨d11, F11⟩ := a11.fn
  obtain ⟨d12, F12⟩ := a12.fn
  obtain ⟨d13, F13⟩ := a13.fn
  obtain ⟨d14, F14⟩ := a14.fn
  obtain ⟨d15, F15⟩ := a15.fn
  obtain ⟨d16, F16⟩ := a16.fn
  obtain ⟨d17, F17⟩ := a17.fn
  obtain ⟨d18, F18⟩ := a18.fn
  obtain ⟨d19, F19⟩ := a19.fn
  obtain ⟨d20, F20⟩ := a20.fn
  obtain ⟨d21, F21⟩ := a21.fn
  obtain ⟨d22, F22⟩ := a22.fn
  obtain ⟨d23, F23⟩ := a23.fn
  obtain ⟨d24, F24⟩ := a24.fn
  obtain ⟨d25, F25⟩ := a25.fn
  obtain ⟨d26, F26⟩ := a26.fn
  obtain ⟨d27, F27⟩ := a27.fn
  obtain ⟨d28, F28⟩ := a28.fn
  obtain ⟨d29, F29⟩ := a29.fn
  obtain ⟨d30, F30⟩ := a30.fn
  obtain ⟨d31, F31⟩ := a31.fn
  obtain ⟨d32, F32⟩ := a32.fn
  obtain ⟨d33, F33⟩ := a33.fn
  obtain ⟨d34, F34⟩ := a34.fn
  obtain ⟨d35, F35⟩ := a35.fn
  obtain ⟨d36, F36⟩ := a36.fn
  obtain ⟨d37, F37⟩ := a37.fn
  obtain ⟨d38, F38⟩ := a38.fn
  obtain ⟨d39, F39⟩ := a39.fn
  have g0 := PySem.W.mg_of X G a0.ns
  have g1 := PySem.W.mg_of X G a1.ns
  have g2 := PySem.W.mg_of X G a2.ns
  have g3 := PySem.W.mg_of X G a3.ns
  have g4 := PySem.W.mg_of X G a4.ns
  have g5 := PySem.W.mg_of X G a5.ns
  have g6 := PySem.W.mg_of X G a6.ns
  have g7 := PySem.W.mg_of X G a7.ns
  have g8 := PySem.W.mg_of X G a8.ns
  have g9 := PySem.W.mg_of X G a9.ns
  have g10 := PySem.W.mg_of X G a10.ns
  have g11 := PySem.W.mg_of X G a11.ns
  have g12 := PySem.W.mg_of X G a12.ns
  have g13 := PySem.W.mg_of X G a13.ns
  have g14 := PySem.W.mg_of X G a14.ns
  have g15 := PySem.W.mg_of X G a15.ns
  have g16 := PySem.W.mg_of X G a16.ns
  have g17 := PySem.W.mg_of X G a17.ns
  have g18 := PySem.W.mg_of X G a18.ns
  have g19 := PySem.W.mg_of X G a19.ns
  have g20 := PySem.W.mg_of X G a20.ns
  have g21 := PySem.W.mg_of X G a21.ns
  have g22 := PySem.W.mg_of X G a22.ns
  have g23 := PySem.W.mg_of X G a23.ns
  have g24 := PySem.W.mg_of X G a24.ns
  have g25 := PySem.W.mg_of X G a25.ns
  have g26 := PySem.W.mg_of X G a26.ns
  have g27 := PySem.W.mg_of X G a27.ns
  have g28 := PySem.W.mg_of X G a28.ns
  have g29 := PySem.W.mg_of X G a29.ns
  have g30 := PySem.W.mg_of X G a30.ns
  have g31 := PySem.W.mg_of X G a31.ns
  have g32 := PySem.W.mg_of X G a32.ns
  have g33 := PySem.W.mg_of X G a33.ns
  have g34 := PySem.W.mg_of X G a34.ns
  have g35 := PySem.W.mg_of X G a35.ns
  have g36 := PySem.W.mg_of X G a36.ns
  have g37 := PySem.W.mg_of X G a37.ns
  have g38 := PySem.W.mg_of X G a38.ns
  have hb0 : ∀ (s : Shared) (u : Value), BindsTo s d39 ⟨[u], []⟩ [("_law_script", u)] := by
    obtain ⟨oc, od, kV, doc, pm, an, cdv, ct, osl, rfl, _⟩ := F39.ex
    exact fun s u => .of_eq rfl
  refine ⟨d39, [(c6, P6), (c11, P11), (c14, P14), (c15, P15), (c16, P16), (c18, P18)], (spLaw K [P6, P11, P14, P15, P16, P18]), (List.forall_mem_cons.mpr ⟨a6.tab (t6 _ g6), (List.forall_mem_cons.mpr ⟨a11.tab (t11 _ g11), (List.forall_mem_cons.mpr ⟨a14.tab (t14 _ g14), (List.forall_mem_cons.mpr ⟨a15.tab (t15 _ g15), (List.forall_mem_cons.mpr ⟨a16.tab (t16 _ g16), (List.forall_mem_cons.mpr ⟨a18.tab (t18 _ g18), (fun p hp => by simp at hp)⟩)⟩)⟩)⟩)⟩)⟩), (List.forall_mem_cons.mpr ⟨a6.nP, (List.forall_mem_cons.mpr ⟨a11.nP, (List.forall_mem_cons.mpr ⟨a14.nP, (List.forall_mem_cons.mpr ⟨a15.nP, (List.forall_mem_cons.mpr ⟨a16.nP, (List.forall_mem_cons.mpr ⟨a18.nP, (fun p hp => by simp at hp)⟩)⟩)⟩)⟩)⟩)⟩), (List.forall_mem_cons.mpr ⟨a6.hd X, (List.forall_mem_cons.mpr ⟨a11.hd X, (List.forall_mem_cons.mpr ⟨a14.hd X, (List.forall_mem_cons.mpr ⟨a15.hd X, (List.forall_mem_cons.mpr ⟨a16.hd X, (List.forall_mem_cons.mpr ⟨a18.hd X, (fun p hp => by simp at hp)⟩)⟩)⟩)⟩)⟩)⟩), hb0, fun H a ns hl _ hT hS => ⟨a, ns, rfl, hS, hl, (List.forall_mem_cons.mpr ⟨⟨#[], hT (c6, P6) (by simp), by trivial⟩, (List.forall_mem_cons.mpr ⟨⟨#[], hT (c11, P11) (by simp), by trivial⟩, (List.forall_mem_cons.mpr ⟨⟨#[], hT (c14, P14) (by simp), by trivial⟩, (List.forall_mem_cons.mpr ⟨⟨#[], hT (c15, P15) (by simp), by trivial⟩, (List.forall_mem_cons.mpr ⟨⟨#[], hT (c16, P16) (by simp), by trivial⟩, (List.forall_mem_cons.mpr ⟨⟨#[], hT (c18, P18) (by simp), by trivial⟩, (fun p hp => by simp at hp)⟩)⟩)⟩)⟩)⟩)⟩), fun _ => rfl⟩, fun base KB GB TB => ?_⟩
  have tb6 := TB (c6, P6) (by simp)
  have tb11 := TB (c11, P11) (by simp)
  have tb14 := TB (c14, P14) (by simp)
  have tb15 := TB (c15, P15) (by simp)
  have tb16 := TB (c16, P16) (by simp)
  have tb18 := TB (c18, P18) (by simp)
  have D0 : Df l.prog w K mg base 1 "neighbours" ["web"] spNeighbours := .of g0 F0 (ok_neighbours F0 M) fun _ _ _ _ _ _ us hl => match us, hl with | [_], _ => rfl
  have D1 : Df l.prog w K mg base 1 "sides_from" ["start", "around"] spSidesFrom := .of g1 F1 (ok_sides_from F1 M) fun _ _ _ _ _ _ us hl => match us, hl with | [_, _], _ => rfl
  have D2 : Df l.prog w K mg base 1 "is_whole" ["thing"] spWhole := .of g2 F2 (ok_is_whole F2 M) fun _ _ _ _ _ _ us hl => match us, hl with | [_], _ => rfl
  have D3 : Df l.prog w K mg base 2 "is_whole_from" ["low", "thing"] spFrom := .of g3 F3 (ok_is_whole_from F3 D2) fun _ _ _ _ _ _ us hl => match us, hl with | [_, _], _ => rfl
  have D4 : Df l.prog w K mg base 2 "is_whole_below" ["limit", "thing"] spBelow := .of g4 F4 (ok_is_whole_below F4 D2) fun _ _ _ _ _ _ us hl => match us, hl with | [_, _], _ => rfl
  have D5 : Df l.prog w K mg base 1 "is_tuple_of" ["length", "thing"] spTupleOf := .of g5 F5 (ok_is_tuple_of F5 M) fun _ _ _ _ _ _ us hl => match us, hl with | [_, _], _ => rfl
  have D6 : Df l.prog w K mg base 4 "is_sides" ["web", "thing"] (spIsSidesX [P6, P11, P14, P15, P16, P18]) := .of g6 F6.fn (ok_is_sides F6 ⟨tb6.code, tb6.bm, tb6.gP⟩ (show P6 ∈ [P6, P11, P14, P15, P16, P18] by simp) m_all D5 D4) fun _ _ _ _ _ _ us hl => match us, hl with | [_, _], _ => rfl
  have D7 : Df l.prog w K mg base 1 "breaks" ["sides", "tie"] spBreaks := .of g7 F7 (ok_breaks F7) fun _ _ _ _ _ _ us hl => match us, hl with | [_, _], _ => rfl
  have D8 : Df l.prog w K mg base 2 "broken_by" ["web", "sides"] spBroken := .of g8 F8 (ok_broken_by F8 M m_enumerate D7) fun _ _ _ _ _ _ us hl => match us, hl with | [_, _], _ => rfl
  have D9 : Df l.prog w K mg base 5 "sides_hold" ["web", "thing"] (spSidesHold [P6, P11, P14, P15, P16, P18]) := .of g9 F9 (ok_sides_hold F9 D6 D8) fun _ _ _ _ _ _ us hl => match us, hl with | [_, _], _ => rfl
  have D10 : Df l.prog w K mg base 3 "sides_of" ["web"] spFixed := .of g10 F10 (ok_sides_of F10 M D0 D1 D8) fun _ _ _ _ _ _ us hl => match us, hl with | [_], _ => rfl
  have D11 : Df l.prog w K mg base 4 "is_row" ["many", "thing"] (spIsRow [P6, P11, P14, P15, P16, P18]) := .of g11 F11.fn (ok_is_row F11 ⟨tb11.code, tb11.bm, tb11.gP⟩ (show P11 ∈ [P6, P11, P14, P15, P16, P18] by simp) m_all D3 D5) fun _ _ _ _ _ _ us hl => match us, hl with | [_, _], _ => rfl
  have D12 : Df l.prog w K mg base 1 "are_near" ["one", "other"] spNear := .of g12 F12 (ok_are_near F12 m_abs) fun _ _ _ _ _ _ us hl => match us, hl with | [_, _], _ => rfl
  have D13 : Df l.prog w K mg base 2 "near_along" ["row", "tie"] spAlong := .of g13 F13 (ok_near_along F13 D12) fun _ _ _ _ _ _ us hl => match us, hl with | [_, _], _ => rfl
  have D14 : Df l.prog w K mg base 6 "row_holds" ["web", "number", "start", "thing"] (spRowHolds [P6, P11, P14, P15, P16, P18]) := .of g14 F14.fn (ok_row_holds F14 ⟨tb14.code, tb14.bm, tb14.gP⟩ (show P14 ∈ [P6, P11, P14, P15, P16, P18] by simp) m_all D11 D13) fun _ _ _ _ _ _ us hl => match us, hl with | [_, _, _, _], _ => rfl
  have D15 : Df l.prog w K mg base 8 "layers_hold" ["web", "number", "thing"] (spLayersHold [P6, P11, P14, P15, P16, P18]) := .of g15 F15.fn (ok_layers_hold F15 ⟨tb15.code, tb15.bm, tb15.gP⟩ (show P15 ∈ [P6, P11, P14, P15, P16, P18] by simp) m_all m_enumerate D5 D14) fun _ _ _ _ _ _ us hl => match us, hl with | [_, _, _], _ => rfl
  have D16 : Df l.prog w K mg base 4 "are_unlike_below" ["limit", "thing"] (spUnlike [P6, P11, P14, P15, P16, P18]) := .of g16 F16.fn (ok_are_unlike F16 ⟨tb16.code, tb16.bm, tb16.gP⟩ (show P16 ∈ [P6, P11, P14, P15, P16, P18] by simp) M m_all m_set D4) fun _ _ _ _ _ _ us hl => match us, hl with | [_, _], _ => rfl
  have D17 : Df l.prog w K mg base 1 "joins" ["tie", "one", "other"] spJoins := .of g17 F17 (ok_joins F17) fun _ _ _ _ _ _ us hl => match us, hl with | [_, _, _], _ => rfl
  have D18 : Df l.prog w K mg base 5 "ring_holds" ["web", "thing"] (spRing [P6, P11, P14, P15, P16, P18]) := .of g18 F18.fn (ok_ring_holds F18 ⟨tb18.code, tb18.bm, tb18.gP⟩ (show P18 ∈ [P6, P11, P14, P15, P16, P18] by simp) M m_all m_zip D5 D16 D17) fun _ _ _ _ _ _ us hl => match us, hl with | [_, _], _ => rfl
  have D19 : Df l.prog w K mg base 1 "foes_in" ["web", "ring"] spFoes := .of g19 F19 (ok_foes_in F19 M) fun _ _ _ _ _ _ us hl => match us, hl with | [_, _], _ => rfl
  have D20 : Df l.prog w K mg base 6 "odd_ring_holds" ["web", "thing"] (spOdd [P6, P11, P14, P15, P16, P18]) := .of g20 F20 (ok_odd_ring F20 D18 D19) fun _ _ _ _ _ _ us hl => match us, hl with | [_, _], _ => rfl
  have D21 : Df l.prog w K mg base 1 "ties_around" ["web", "numbers"] spAround := .of g21 F21 (ok_ties_around F21) fun _ _ _ _ _ _ us hl => match us, hl with | [_, _], _ => rfl
  have D22 : Df l.prog w K mg base 1 "walk_from" ["start", "around"] spWalkFrom := .of g22 F22 (ok_walk_from F22) fun _ _ _ _ _ _ us hl => match us, hl with | [_, _], _ => rfl
  have D23 : Df l.prog w K mg base 1 "way_to" ["end", "walk"] spWayTo := .of g23 F23 (ok_way_to F23 M) fun _ _ _ _ _ _ us hl => match us, hl with | [_, _], _ => rfl
  have D24 : Df l.prog w K mg base 1 "doubled" ["web"] spDoubled := .of g24 F24 (ok_doubled F24 M) fun _ _ _ _ _ _ us hl => match us, hl with | [_], _ => rfl
  have D25 : Df l.prog w K mg base 1 "halved" ["way"] spHalved := .of g25 F25 (ok_halved F25 M) fun _ _ _ _ _ _ us hl => match us, hl with | [_], _ => rfl
  have D26 : Df l.prog w K mg base 1 "row_of" ["many", "walk", "far"] spRowOf := .of g26 F26 (ok_row_of F26 M) fun _ _ _ _ _ _ us hl => match us, hl with | [_, _, _], _ => rfl
  have D27 : Df l.prog w K mg base 2 "shortest_odd" ["web"] spShort := .of g27 F27 (ok_shortest_odd F27 M m_enumerate m_min D24 D21 D22 D23 D25 D26) fun _ _ _ _ _ _ us hl => match us, hl with | [_], _ => rfl
  have D28 : Df l.prog w K mg base 1 "_law_well" ["_law_script", "_law_k"] (spWell K) := .of g28 F28 (ok_l_well F28 M m_abs) fun _ _ _ _ _ _ us hl => match us, hl with | [_, _], _ => rfl
  have D29 : Df l.prog w K mg base 1 "_law_draw" ["_law_well_here", "_law_many"] spDraw := .of g29 F29 (ok_l_draw F29) fun _ _ _ _ _ _ us hl => match us, hl with | [_, _], _ => rfl
  have D30 : Df l.prog w K mg base 1 "_law_kind" ["_law_sides", "_law_one", "_law_other"] spKind15 := .of g30 F30 (ok_l_kind F30 M) fun _ _ _ _ _ _ us hl => match us, hl with | [_, _, _], _ => rfl
  have D31 : Df l.prog w K mg base 2 "_law_ends" ["_law_well_here", "_law_many", "_law_ties"] spEnds := .of g31 F31 (ok_l_ends F31 M D29) fun _ _ _ _ _ _ us hl => match us, hl with | [_, _, _], _ => rfl
  have D32 : Df l.prog w K mg base 3 "_law_web" ["_law_well_here"] spWeb := .of g32 F32 (ok_l_web F32 M D29 D31 D30) fun _ _ _ _ _ _ us hl => match us, hl with | [_], _ => rfl
  have D33 : Df l.prog w K mg base 1 "_law_beside" ["_law_web_here"] spBeside80 := .of g33 F33 (ok_l_beside F33 M m_enumerate) fun _ _ _ _ _ _ us hl => match us, hl with | [_], _ => rfl
  have D34 : Df l.prog w K mg base 2 "_law_walk" ["_law_well_here", "_law_web_here", "_law_steps"] spWalk80 := .of g34 F34 (ok_l_walk F34 M m_set D33 D29) fun _ _ _ _ _ _ us hl => match us, hl with | [_, _, _], _ => rfl
  have D35 : Df l.prog w K mg base 2 "_law_firsts" ["_law_web_here"] spFirsts80 := .of g35 F35 (ok_l_firsts F35 M D33) fun _ _ _ _ _ _ us hl => match us, hl with | [_], _ => rfl
  have D36 : Df l.prog w K mg base 6 "_law_sides_right" ["_law_web_here", "_law_sides"] (spSidesR [P6, P11, P14, P15, P16, P18]) := .of g36 F36 (ok_l_sides_right F36 M D35 D8 D9) fun _ _ _ _ _ _ us hl => match us, hl with | [_, _], _ => rfl
  have D37 : Df l.prog w K mg base 9 "_law_ring_right" ["_law_web_here", "_law_ring", "_law_told"] (spRingR [P6, P11, P14, P15, P16, P18]) := .of g37 F37 (ok_l_ring_right F37 M D19 D18 D20 D15) fun _ _ _ _ _ _ us hl => match us, hl with | [_, _, _], _ => rfl
  have D38 : Df l.prog w K mg base 10 "_law_right" ["_law_well_here"] (spRight80 [P6, P11, P14, P15, P16, P18]) := .of g38 F38 (ok_l_right F38 M D32 D10 D27 D36 D20 D29 D34 D37) fun _ _ _ _ _ _ us hl => match us, hl with | [_], _ => rfl
  exact ok_law F39 M m_max m_min D28 D38
end
end FF
open PySem PySem.W PyProof.Rows
set_option maxRecDepth 100000 in
set_option maxHeartbeats 0 in
theorem PySem.Challenge.cw_friendfoe_k80_whole_sides_or_an_odd_ring_holds : PySem.Challenge.rw_friendfoe_k80_whole_sides_or_an_odd_ring.Holds := by
  w_on; o_law; k_head; (case hw => w_witness2)
  k_fill
  refine FF.walk_tabs (l := PySem.Challenge.rw_friendfoe_k80_whole_sides_or_an_odd_ring) (n := 63) (k := 11) (x := "_law_script") rfl (by decide) rfl ⟨rfl, by decide, by decide⟩ (fun w h Y => PySem.W.kIn_of Y) ?F
  case F =>
    intro w mg fa h KX G hmg tabs
    refine' FF.law_at KX G hmg (fun fy => tabs "is_sides" fy ?r6) (fun fy => tabs "is_row" fy ?r11) (fun fy => tabs "row_holds" fy ?r14) (fun fy => tabs "layers_hold" fy ?r15) (fun fy => tabs "are_unlike_below" fy ?r16) (fun fy => tabs "ring_holds" fy ?r18) ?a0 ?a1 ?a2 ?a3 ?a4 ?a5 ?a6 ?a7 ?a8 ?a9 ?a10 ?a11 ?a12 ?a13 ?a14 ?a15 ?a16 ?a17 ?a18 ?a19 ?a20 ?a21 ?a22 ?a23 ?a24 ?a25 ?a26 ?a27 ?a28 ?a29 ?a30 ?a31 ?a32 ?a33 ?a34 ?a35 ?a36 ?a37 ?a38 ?a39 ?z0 ?z1 ?z2 ?z3 ?z4 ?z5 ?z6 ?z7 ?z8 ?z9 ?z10 ?z11 ?z12 ?z13 ?z14 ?z15 
    (case r6 => rfl)
    (case r11 => rfl)
    (case r14 => rfl)
    (case r15 => rfl)
    (case r16 => rfl)
    (case r18 => rfl)
    (case a0 => refine' FF.at_mk ?p1 ?p2 ?p3 ?p4; (case p1 => k_is); (case p2 => k_is); (case p3 => k_is); (case p4 => k_is))
    (case a1 => refine' FF.at_mk ?p1 ?p2 ?p3 ?p4; (case p1 => k_is); (case p2 => k_is); (case p3 => k_is); (case p4 => k_is))
    (case a2 => refine' FF.at_mk ?p1 ?p2 ?p3 ?p4; (case p1 => k_is); (case p2 => k_is); (case p3 => k_is); (case p4 => k_is))
    (case a3 => refine' FF.at_mk ?p1 ?p2 ?p3 ?p4; (case p1 => k_is); (case p2 => k_is); (case p3 => k_is); (case p4 => k_is))
    (case a4 => refine' FF.at_mk ?p1 ?p2 ?p3 ?p4; (case p1 => k_is); (case p2 => k_is); (case p3 => k_is); (case p4 => k_is))
    (case a5 => refine' FF.at_mk ?p1 ?p2 ?p3 ?p4; (case p1 => k_is); (case p2 => k_is); (case p3 => k_is); (case p4 => k_is))
    (case a6 => refine' FF.atC_mk ?p1 ?p2 ?p3 ?p4 ?p5 ?p6 ?p7 ?p8 ?p9 ?p10 ?p11 ?p12 ?p13; (case p1 => k_is); (case p2 => k_is); (case p3 => k_is); (case p4 => k_is); (case p5 => k_is); (case p6 => rfl); (case p7 => rfl); (case p8 => rfl); (case p9 => rfl); (case p10 => rfl); (case p11 => rfl); (case p12 => decide); (case p13 => rfl))
    (case a7 => refine' FF.at_mk ?p1 ?p2 ?p3 ?p4; (case p1 => k_is); (case p2 => k_is); (case p3 => k_is); (case p4 => k_is))
    (case a8 => refine' FF.at_mk ?p1 ?p2 ?p3 ?p4; (case p1 => k_is); (case p2 => k_is); (case p3 => k_is); (case p4 => k_is))
    (case a9 => refine' FF.at_mk ?p1 ?p2 ?p3 ?p4; (case p1 => k_is); (case p2 => k_is); (case p3 => k_is); (case p4 => k_is))
    (case a10 => refine' FF.at_mk ?p1 ?p2 ?p3 ?p4; (case p1 => k_is); (case p2 => k_is); (case p3 => k_is); (case p4 => k_is))
    (case a11 => refine' FF.atC_mk ?p1 ?p2 ?p3 ?p4 ?p5 ?p6 ?p7 ?p8 ?p9 ?p10 ?p11 ?p12 ?p13; (case p1 => k_is); (case p2 => k_is); (case p3 => k_is); (case p4 => k_is); (case p5 => k_is); (case p6 => rfl); (case p7 => rfl); (case p8 => rfl); (case p9 => rfl); (case p10 => rfl); (case p11 => rfl); (case p12 => decide); (case p13 => rfl))
    (case a12 => refine' FF.at_mk ?p1 ?p2 ?p3 ?p4; (case p1 => k_is); (case p2 => k_is); (case p3 => k_is); (case p4 => k_is))
    (case a13 => refine' FF.at_mk ?p1 ?p2 ?p3 ?p4; (case p1 => k_is); (case p2 => k_is); (case p3 => k_is); (case p4 => k_is))
    (case a14 => refine' FF.atC_mk ?p1 ?p2 ?p3 ?p4 ?p5 ?p6 ?p7 ?p8 ?p9 ?p10 ?p11 ?p12 ?p13; (case p1 => k_is); (case p2 => k_is); (case p3 => k_is); (case p4 => k_is); (case p5 => k_is); (case p6 => rfl); (case p7 => rfl); (case p8 => rfl); (case p9 => rfl); (case p10 => rfl); (case p11 => rfl); (case p12 => decide); (case p13 => rfl))
    (case a15 => refine' FF.atC_mk ?p1 ?p2 ?p3 ?p4 ?p5 ?p6 ?p7 ?p8 ?p9 ?p10 ?p11 ?p12 ?p13; (case p1 => k_is); (case p2 => k_is); (case p3 => k_is); (case p4 => k_is); (case p5 => k_is); (case p6 => rfl); (case p7 => rfl); (case p8 => rfl); (case p9 => rfl); (case p10 => rfl); (case p11 => rfl); (case p12 => decide); (case p13 => rfl))
    (case a16 => refine' FF.atC_mk ?p1 ?p2 ?p3 ?p4 ?p5 ?p6 ?p7 ?p8 ?p9 ?p10 ?p11 ?p12 ?p13; (case p1 => k_is); (case p2 => k_is); (case p3 => k_is); (case p4 => k_is); (case p5 => k_is); (case p6 => rfl); (case p7 => rfl); (case p8 => rfl); (case p9 => rfl); (case p10 => rfl); (case p11 => rfl); (case p12 => decide); (case p13 => rfl))
    (case a17 => refine' FF.at_mk ?p1 ?p2 ?p3 ?p4; (case p1 => k_is); (case p2 => k_is); (case p3 => k_is); (case p4 => k_is))
    (case a18 => refine' FF.atC_mk ?p1 ?p2 ?p3 ?p4 ?p5 ?p6 ?p7 ?p8 ?p9 ?p10 ?p11 ?p12 ?p13; (case p1 => k_is); (case p2 => k_is); (case p3 => k_is); (case p4 => k_is); (case p5 => k_is); (case p6 => rfl); (case p7 => rfl); (case p8 => rfl); (case p9 => rfl); (case p10 => rfl); (case p11 => rfl); (case p12 => decide); (case p13 => rfl))
    (case a19 => refine' FF.at_mk ?p1 ?p2 ?p3 ?p4; (case p1 => k_is); (case p2 => k_is); (case p3 => k_is); (case p4 => k_is))
    (case a20 => refine' FF.at_mk ?p1 ?p2 ?p3 ?p4; (case p1 => k_is); (case p2 => k_is); (case p3 => k_is); (case p4 => k_is))
    (case a21 => refine' FF.at_mk ?p1 ?p2 ?p3 ?p4; (case p1 => k_is); (case p2 => k_is); (case p3 => k_is); (case p4 => k_is))
    (case a22 => refine' FF.at_mk ?p1 ?p2 ?p3 ?p4; (case p1 => k_is); (case p2 => k_is); (case p3 => k_is); (case p4 => k_is))
    (case a23 => refine' FF.at_mk ?p1 ?p2 ?p3 ?p4; (case p1 => k_is); (case p2 => k_is); (case p3 => k_is); (case p4 => k_is))
    (case a24 => refine' FF.at_mk ?p1 ?p2 ?p3 ?p4; (case p1 => k_is); (case p2 => k_is); (case p3 => k_is); (case p4 => k_is))
    (case a25 => refine' FF.at_mk ?p1 ?p2 ?p3 ?p4; (case p1 => k_is); (case p2 => k_is); (case p3 => k_is); (case p4 => k_is))
    (case a26 => refine' FF.at_mk ?p1 ?p2 ?p3 ?p4; (case p1 => k_is); (case p2 => k_is); (case p3 => k_is); (case p4 => k_is))
    (case a27 => refine' FF.at_mk ?p1 ?p2 ?p3 ?p4; (case p1 => k_is); (case p2 => k_is); (case p3 => k_is); (case p4 => k_is))
    (case a28 => refine' FF.at_mk ?p1 ?p2 ?p3 ?p4; (case p1 => k_is); (case p2 => k_is); (case p3 => k_is); (case p4 => k_is))
    (case a29 => refine' FF.at_mk ?p1 ?p2 ?p3 ?p4; (case p1 => k_is); (case p2 => k_is); (case p3 => k_is); (case p4 => k_is))
    (case a30 => refine' FF.at_mk ?p1 ?p2 ?p3 ?p4; (case p1 => k_is); (case p2 => k_is); (case p3 => k_is); (case p4 => k_is))
    (case a31 => refine' FF.at_mk ?p1 ?p2 ?p3 ?p4; (case p1 => k_is); (case p2 => k_is); (case p3 => k_is); (case p4 => k_is))
    (case a32 => refine' FF.at_mk ?p1 ?p2 ?p3 ?p4; (case p1 => k_is); (case p2 => k_is); (case p3 => k_is); (case p4 => k_is))
    (case a33 => refine' FF.at_mk ?p1 ?p2 ?p3 ?p4; (case p1 => k_is); (case p2 => k_is); (case p3 => k_is); (case p4 => k_is))
    (case a34 => refine' FF.at_mk ?p1 ?p2 ?p3 ?p4; (case p1 => k_is); (case p2 => k_is); (case p3 => k_is); (case p4 => k_is))
    (case a35 => refine' FF.at_mk ?p1 ?p2 ?p3 ?p4; (case p1 => k_is); (case p2 => k_is); (case p3 => k_is); (case p4 => k_is))
    (case a36 => refine' FF.at_mk ?p1 ?p2 ?p3 ?p4; (case p1 => k_is); (case p2 => k_is); (case p3 => k_is); (case p4 => k_is))
    (case a37 => refine' FF.at_mk ?p1 ?p2 ?p3 ?p4; (case p1 => k_is); (case p2 => k_is); (case p3 => k_is); (case p4 => k_is))
    (case a38 => refine' FF.at_mk ?p1 ?p2 ?p3 ?p4; (case p1 => k_is); (case p2 => k_is); (case p3 => k_is); (case p4 => k_is))
    (case a39 => refine' FF.at_mk ?p1 ?p2 ?p3 ?p4; (case p1 => k_is); (case p2 => k_is); (case p3 => k_is); (case p4 => k_is))
    (case z0 => k_is)
    (case z1 => k_is)
    (case z2 => k_is)
    (case z3 => k_is)
    (case z4 => k_is)
    (case z5 => k_is)
    (case z6 => k_is)
    (case z7 => k_is)
    (case z8 => k_is)
    (case z9 => k_is)
    (case z10 => k_is)
    (case z11 => k_is)
    (case z12 => k_is)
    (case z13 => k_is)
    (case z14 => k_is)
    (case z15 => k_is)
