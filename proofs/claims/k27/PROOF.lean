import PyProof.Rows.All
import Wide.All
import OpenK.AllK
import Wide.FinOn
import HandS.ForMost
import HandS.IsInst
import HandS.TupAny
import HandS.TupLe
import HandS.Wide
import HandS.Style
import HandS.SortInts
import HandS.Conv
import HandS.More
import HandS.EndTab
import HandS.EndOwn
import HandS.AnyAll
import HandS.GenOver
import HandS.Evl
import HandS.Walk
import HandS.NoneIn
import HandS.Zip
import HandS.DictComp
import HandS.SetFor
import KE.GoesEnum
import HandS.TupMul
import HandS.Strs
import KE.DataMinMax
import HandS.ForExc
import HandS.ExcIs
import HandS.SetKeys
import KE.DatumOrd
import HandS.Deep
import KE.KTupSum
import HandS.SetBool
import HandS.Remove
import HandS.SortRule
import KE.KDictCopyH
import KE.KDictSum
import HandS.Defaults
import HandS.Star
import PySem.Challenge.RW_friendfoe_k27_turnings_judged
set_option Elab.async false
set_option linter.all false
set_option maxRecDepth 100000
namespace FF
open PySem PySem.Spec PyProof.Rows L2
/-! ### heaps: what is kept -/
/-- all that is tracked, but at d and c, is as it was -/
def Kp (d c : Addr) (H H' : Hp) : Prop := ∀ b o, b ≠ d → b ≠ c → H b = some o → H' b = some o
theorem Kp.refl {d c : Addr} {H : Hp} : Kp d c H H := fun _ _ _ _ h => h
theorem Kp.trans {d c : Addr} {H H1 H2 : Hp} (a : Kp d c H H1) (b : Kp d c H1 H2) : Kp d c H H2 := fun x o h1 h2 h => b x o h1 h2 (a x o h1 h2 h)
theorem Kp.at_d {d c : Addr} {H : Hp} {o : HO} : Kp d c H (upd H d o) := fun b u h1 _ h => by rw [upd_ne h1]; exact h
theorem Kp.at_c {d c : Addr} {H : Hp} {o : HO} : Kp d c H (upd H c o) := fun b u _ h2 h => by rw [upd_ne h2]; exact h
theorem Kp.new {d c p : Addr} {H : Hp} {o : HO} (hp : H p = none) : Kp d c H (upd H p o) := fun b u _ _ h => by rw [upd_ne (ne_of_none h hp)]; exact h
theorem same_new {H : Hp} {p : Addr} {o : HO} (h : H p = none) : Same H (upd H p o) := fun b x e => by
  rw [upd_ne (ne_of_none e h)]
  exact e
theorem Same.kp {d c : Addr} {H H' : Hp} (s : Same H H') : Kp d c H H' := fun b o _ _ h => s b o h
/-! ### defs as they are called -/
def Df (P : Program) (w : World) (K : PySem.W.Frag) (mg : Str → Option Value) (base : Heap) (k : Nat) (x : Str) (ps : List Str) (sp : Sp) : Prop :=
  ∃ (f : Addr) (fd : FuncData), FnOk P w K mg base CX0 k f fd ps sp ∧ mg x = some (.ref f) ∧ PySem.W.keepIn K (.ref f) = true ∧ Binds K fd ps []
/-- built-in names that the module has not taken -/
structure Free (mg : Str → Option Value) : Prop where
  len : mg "len" = none
  int : mg "int" = none
  bool : mg "bool" = none
  str : mg "str" = none
  list : mg "list" = none
  tuple : mg "tuple" = none
  range : mg "range" = none
  isinstance : mg "isinstance" = none
  sum : mg "sum" = none
/-! ### the well -/
structure Well (H : Hp) (d : Addr) (b : Nat) : Prop where
  ex : ∃ (g st : Int) (k : Nat), H d = some (.lst [.int g, .int st, .int k]) ∧ k ≤ b
theorem Well.same {H H' : Hp} {d : Addr} {b : Nat} (h : Well H d b) (s : Same H H') : Well H' d b := by
  obtain ⟨g, st, k, h1, h2⟩ := h
  exact ⟨g, st, k, s _ _ h1, h2⟩
theorem Well.mono {H : Hp} {d : Addr} {b b' : Nat} (h : Well H d b) (s : b ≤ b') : Well H d b' := by
  obtain ⟨g, st, k, h1, h2⟩ := h
  exact ⟨g, st, k, h1, Nat.le_trans h2 s⟩
theorem Well.mut {H : Hp} {d l : Addr} {o : HO} {b : Nat} (D : Well H d b) (h1 : l ≠ d) : Well (upd H l o) d b := by
  obtain ⟨g, st, k, e1, e2⟩ := D
  exact ⟨g, st, k, by rw [upd_ne (Ne.symm h1)]; exact e1, e2⟩
theorem Well.new {H : Hp} {d l : Addr} {o : HO} {b : Nat} (D : Well H d b) (h : H l = none) : Well (upd H l o) d b := D.same (same_new h)
theorem Well.ned {H : Hp} {d l : Addr} {b : Nat} (D : Well H d b) (h : H l = none) : l ≠ d := by
  obtain ⟨g, st, k, e1, e2⟩ := D
  exact (ne_of_none e1 h).symm
theorem mod_rng {a m : Int} (h : 0 < m) : 0 ≤ a % m ∧ a % m < m := ⟨Int.emod_nonneg a (by omega), Int.emod_lt_of_pos a h⟩
/-- a draw below m: any number from 0 on, less than m; one draw more -/
def spDraw : Sp := fun vs H Q _ => ∃ (d : Addr) (b : Nat) (m : Int), vs = [.ref d, .int m] ∧ Well H d b ∧ b < 2 ^ 60 ∧ 0 < m ∧ m.natAbs < 2 ^ 120 ∧
  ∀ v H', 0 ≤ v → v < m → Well H' d (b + 1) → Kp d d H H' → Q (.int v) H'
/-! ### a generator expression's own frame -/
/-- the context of a generator's turns: its frame cenv stands over the def's -/
abbrev gX (X : Cx) (s : Shared) (H : Hp) (A' : Around) (cenv : Env) (fp : List Addr) : Cx :=
  { X with A := A', s_0 := s, H_0 := H, env := cenv, outer := X.stack, stack := cenv :: X.stack, ex := fp, fn := fun _ => false, pn := [], xe := fun _ _ => False }
/-- what is asked of the expression's own scope -/
structure GnOk (scope : Scope) : Prop where
  co : scope.isCoroutine = false
  nocell : ∀ y ∈ scope.names, y.2 ≠ .cell
  dot : scope.names.lookup (".0" : Str) = some NameKind.local
section
variable {X : Cx} {pins : List (Addr × Obj)} {σ : L2.St} {H : Hp} {s : Shared}
theorem gen_start {scope : Scope} {own : List (Str × Nat)} {fp : List Addr} {A' : Around} {code : Value} {m0 : Str → Option Value} {h5 : Heap} {g5 : Array GenState} {t5 : Nat} {a : Addr} {go : Obj}
    (I : Inv X pins σ H s) (ok : BlkOk X.N X.env.scope scope own) (gk : GnOk scope) (hN : X.N.Nodup) (hfp : ∀ b ∈ fp, FpOk X pins H b ∧ b < s.heap.objs.size)
    (hA : A'.handled = none) (hF : A'.frames = some (genEnv scope (cloFrom X.env.cells scope.names []) s.heap.objs.size code builtinsNs X.env :: X.stack))
    (kp : ∀ b o, s.heap.get? b = some o → h5.get? b = some o) (hn : h5.Ns s.heap.objs.size m0) (hm0 : ∀ x, x ≠ (".0" : Str) → m0 x = none) (hdN : (".0" : Str) ∉ X.N) (hb5 : AllBare g5)
    (ha : s.heap.objs.size < a) (hgo : h5.get? a = some go) (hgd : ∀ v, go.data ≠ .cell v) :
    Inv (gX X s H A' (genEnv scope (cloFrom X.env.cells scope.names []) s.heap.objs.size code builtinsNs X.env) fp) [(a, go)] (wipe σ (own.map (·.2))) H { s with heap := h5, gens := g5, toks := t5 } := by
  have hfree : ∀ y ∈ scope.names, y.2 = .free → ∃ c, X.env.cells.lookup y.1 = some c := fun y hy e =>
    (ok.free y hy e).elim (fun k => I.ok.has _ (.inl k)) fun k => I.ok.has _ (.inr k)
  have cm : ∀ {y c}, (y, c) ∈ cloFrom X.env.cells scope.names [] → X.env.cells.lookup y = some c ∧ c < s.heap.objs.size := fun {y c} q => by
    rcases cloFrom_mem q with q | ⟨h1, e1⟩
    · cases q
    · obtain ⟨c1, hc1⟩ := hfree _ h1 rfl
      rw [hc1] at e1
      cases e1
      obtain ⟨w1, z1⟩ := I.cell _ _ hc1
      exact ⟨hc1, z1.lt⟩
  have cl : ∀ {y c}, (cloFrom X.env.cells scope.names []).lookup y = some c → X.env.cells.lookup y = some c ∧ c < s.heap.objs.size := fun {y c} e => cm (PySem.mem_of_lookup e)
  have look : ∀ {y}, scope.names.lookup y = some .free → ∃ c, (cloFrom X.env.cells scope.names []).lookup y = some c := fun {y} e =>
    mem_lookup (cloFrom_has (cells := X.env.cells) (acc := []) (PySem.mem_of_lookup e))
  generalize hce : genEnv scope (cloFrom X.env.cells scope.names []) s.heap.objs.size code builtinsNs X.env = ce at hF
  have cL : ce.locals = s.heap.objs.size := by rw [← hce]; rfl
  have cC : ce.cells = cloFrom X.env.cells scope.names [] := by rw [← hce]; rfl
  have cS : ce.scope = scope := by rw [← hce]; rfl
  have cF : ce.frame = some ce.locals := by rw [← hce]; rfl
  have okG : (gX X s H A' ce fp).Ok := by
    refine ⟨I.ok.mod, ?_, ?_, ?_, ?_, fun y z c e1 e2 => ?_, fun y hy => ?_, fun y c z e => ?_, fun _ => hA, hF, .inr ⟨rfl, cF⟩, fun b hb => ⟨?_, fun y c e z => ?_⟩, I.bs, Nat.le_trans I.ok.bsz I.sz, fun b o e hb => ?_, fun b hb z => ?_, I.stack, I.stkFree⟩
    · show ce.scope.kind = _
      rw [cS]
      exact ok.kind
    · show ce.globals = _
      rw [← hce]
      exact I.ok.glob
    · show ce.builtins = _
      rw [← hce]
      rfl
    · show s.heap.objs.size ≤ ce.locals
      rw [cL]
      exact Nat.le_refl _
    · have e1 : ce.cells.lookup y = some c := e1
      have e2 : ce.cells.lookup z = some c := e2
      rw [cC] at e1 e2
      exact I.ok.inj y z c (cl e1).1 (cl e2).1
    · show ∃ c, ce.cells.lookup y = some c
      rw [cC]
      have hy : scope.names.lookup y = some .cell ∨ scope.names.lookup y = some .free := by
        have hy' : ce.scope.names.lookup y = some .cell ∨ ce.scope.names.lookup y = some .free := hy
        rw [cS] at hy'
        exact hy'
      rcases hy with k | k
      · exact absurd rfl (gk.nocell _ (PySem.mem_of_lookup k))
      · exact look k
    · exact absurd (show false = true from z) Bool.false_ne_true
    · show b ≠ ce.locals
      rw [cL]
      exact Nat.ne_of_lt (hfp b hb).2
    · have e : ce.cells.lookup y = some c := e
      rw [cC] at e
      exact (hfp b hb).1.2.2.2.2.1 y c (cl e).1 z
    · rcases (hfp b hb).1.2.2.2.1 with q | q
      · exact I.ok.noex b o e q
      · exact absurd (Nat.lt_of_lt_of_le (Heap.lt_size e) (Nat.le_trans I.ok.bsz q)) (Nat.lt_irrefl _)
    · rcases List.mem_cons.mp (I.stkSub b z) with q | q
      · exact (hfp b hb).1.2.1 q
      · exact (hfp b hb).1.2.2.1 q
  refine ⟨okG, rfl, hb5, Un.kept kp, ⟨m0, ?_, fun i y av e1 e2 e3 => ?_⟩, fun y c e => ?_, ?_, fun y c e => ?_, fun p hp => ?_, I.hok.kept kp, by rw [wipe_length]; exact I.len⟩
  · show Heap.Ns _ ce.locals _
    rw [cL]
    exact hn
  · obtain ⟨e2, hne⟩ := wipe_some e2
    have e3 : Vis ce.scope y := e3
    rw [cS] at e3
    have hfr : scope.names.lookup y = some .free := by
      have no : ∀ k, scope.names.lookup y = some k → ¬ (k = .local ∨ k = .cell) := fun k hk hh => by
        rcases ok.own _ (PySem.mem_of_lookup hk) hh with q | q
        · obtain ⟨p, hp, hpy⟩ := List.mem_map.mp q
          have e4 := ok.ix p hp
          have hpy : p.1 = y := hpy
          rw [hpy] at e4
          exact hne (List.mem_map.mpr ⟨p, hp, nodup_ix hN e4 e1⟩)
        · exact q (List.mem_of_getElem? e1)
      rcases e3 with e3 | e3 | e3
      · exact absurd (.inl rfl) (no _ e3)
      · exact absurd (.inr rfl) (no _ e3)
      · exact e3
    obtain ⟨m, _, hl⟩ := I.loc
    have hvis : Vis X.env.scope y := (ok.free _ (PySem.mem_of_lookup hfr) rfl).elim (fun k => .inr (.inl k)) fun k => .inr (.inr k)
    obtain ⟨w1, r1, q1⟩ := hl i y av e1 e2 hvis
    obtain ⟨c, hc⟩ := look hfr
    refine ⟨w1, r1, .inr ⟨.inr (by show ce.scope.names.lookup y = _; rw [cS]; exact hfr), c, by show ce.cells.lookup y = _; rw [cC]; exact hc, ?_⟩⟩
    rcases q1 with ⟨k, _⟩ | ⟨_, c', e', z⟩
    · have k : X.env.scope.names.lookup y = some .local := k
      rcases ok.free _ (PySem.mem_of_lookup hfr) rfl with k' | k' <;> (have k' : X.env.scope.names.lookup y = _ := k'; rw [k'] at k; cases k)
    · rw [(cl hc).1] at e'
      cases e'
      exact z.keeps kp
  · have e : ce.cells.lookup y = some c := e
    rw [cC] at e
    obtain ⟨w1, z1⟩ := I.cell y c (cl e).1
    exact ⟨w1, z1.keeps kp⟩
  · show H ce.locals = none
    rw [cL]
    exact I.hok.fresh (Nat.le_refl _)
  · have e : ce.cells.lookup y = some c := e
    rw [cC] at e
    exact I.freeC y c (cl e).1
  · have hp : p = (a, go) := by simpa using hp
    subst hp
    refine ⟨hgo, I.hok.fresh (Nat.le_of_lt ha), ?_, fun z => ?_, hgd⟩
    · show a ≠ ce.locals
      rw [cL]
      exact Nat.ne_of_gt ha
    · have z : a ∈ frs X.stack := z
      obtain ⟨_, o, ho, _⟩ := I.stack.mem z
      exact absurd (Nat.lt_trans (Heap.lt_size ho) ha) (Nat.lt_irrefl _)
end
/-! ### all(..), any(..) of a generator, told by what each turn does -/
/-- between a yield and the next turn -/
structure Rs (s s' : Shared) : Prop where
  heap : s'.heap = s.heap
  os : s'.os = s.os
  bare : AllBare s'.gens
  size : s.gens.size ≤ s'.gens.size
theorem inv_gens {X : Cx} {pins : List (Addr × Obj)} {σ : L2.St} {H : Hp} {s s' : Shared} (I : Inv X pins σ H s) (h1 : s'.heap = s.heap) (h2 : s'.os = s.os) (h3 : AllBare s'.gens) : Inv X pins σ H s' := by
  obtain ⟨hh, g, d, t, o⟩ := s'
  have e1 : hh = s.heap := h1
  have e2 : o = s.os := h2
  subst e1 e2
  exact ⟨I.ok, I.os, h3, I.base, I.loc, I.cell, I.free, I.freeC, I.pin, I.hok, I.len⟩
theorem Rs.inv {X : Cx} {pins : List (Addr × Obj)} {σ : L2.St} {H : Hp} {s s' : Shared} (r : Rs s s') (I : Inv X pins σ H s) : Inv X pins σ H s' := by
  obtain ⟨h1, h2, h3, _⟩ := r
  obtain ⟨hh, g, d, t, o⟩ := s'
  have e1 : hh = s.heap := h1
  have e2 : o = s.os := h2
  subst e1 e2
  exact ⟨I.ok, I.os, h3, I.base, I.loc, I.cell, I.free, I.freeC, I.pin, I.hok, I.len⟩
theorem bare_set {gens : Array GenState} (h : AllBare gens) {g : Nat} {x : GenState} (hx : x.bare = true) : AllBare (gens.setIfInBounds g x) := fun y hy => by
  obtain ⟨i, hi, rfl⟩ := Array.mem_iff_getElem.mp hy
  rw [Array.size_setIfInBounds] at hi
  rw [Array.getElem_setIfInBounds hi]
  split
  · exact hx
  · exact h _ (Array.getElem_mem hi)
theorem Rs.set {s : Shared} (hb : AllBare s.gens) {g : Nat} {x : GenState} (hx : x.bare = true) : Rs s (s.setGen g x) :=
  ⟨rfl, rfl, bare_set hb hx, Nat.le_of_eq (GenW.setGen_size s g x).symm⟩
theorem Rs.trans {s s1 s2 : Shared} (a : Rs s s1) (b : Rs s1 s2) : Rs s s2 := ⟨b.heap.trans a.heap, b.os.trans a.os, b.bare, Nat.le_trans a.size b.size⟩
/-- the protocol of a generator whose items are truths: T b: what holds where b comes out -/
def gY (gi : Nat) (a : Addr) (stop : Bool) (Fin : Shared → Prop) : Protocol := fun n s₀ v s kap =>
  ∃ b, v = .bool b ∧ s.heap.IsGen a gi ∧ s.heap.NoLimit ∧ AllBare s.gens ∧ gi < s.gens.size ∧ (b = stop → Fin s) ∧ (b ≠ stop → ∀ s', Rs s s' → kap (.send .none) s')
def gR (End : Shared → Prop) : Nat → Shared → Shared → Prop := fun _ _ s => AllBare s.gens ∧ End s
/-- the generator waits -/
def Waits (prog : Program) (w : World) (A : Around) (gi : Nat) (a : Addr) (stop : Bool) (End Fin : Shared → Prop) (n : Nat) (s : Shared) : Prop :=
  s.heap.IsGen a gi ∧ s.heap.NoLimit ∧ AllBare s.gens ∧ ∃ gs, s.gens[gi]? = some gs ∧
    ∀ s', Rs s s' → gs.Goes (model prog w) A.in1 (fun n s₀ r s₁ => r = .ok .next ∧ gR End n s₀ s₁) (gY gi a stop Fin) n (.send .none) s'
section
variable {prog : Program} {w : World} {A : Around} {gi : Nat} {a : Addr} {stop : Bool} {End Fin : Shared → Prop}
theorem waits_next {n : Nat} {s : Shared} {Q : Option Value → Shared → Prop} {E : Value → Shared → Prop} (hh : A.handled = none) (hroom : A.depth < recursionLimit)
    (hE : ∀ s s' : Shared, End s → s'.os = s.os → AllBare s'.gens → (∀ b o, s.heap.get? b = some o → s'.heap.get? b = some o) → End s')
    (hF : ∀ s s' : Shared, Fin s → s'.os = s.os → AllBare s'.gens → (∀ b o, s.heap.get? b = some o → s'.heap.get? b = some o) → Fin s')
    (W : Waits prog w A gi a stop End Fin n s) (hN : ∀ s', End s' → Q none s') (hS : ∀ s', Fin s' → Q (some (.bool stop)) s')
    (hG : ∀ s' m, m < n → Waits prog w A gi a stop End Fin m s' → Q (some (.bool (!stop))) s') : wpAny (model prog w) A (pyNext (.ref a)) Q E s := by
  obtain ⟨hg, hl, hb, gs, hgs, hgo⟩ := W
  refine wpAny_pyNext_genexpQ (P := gR End) (Y := gY gi a stop Fin) hh hl hroom hg hgs (hgo _ (Rs.set hb rfl)) (fun v s₁ gs' hb' hv => ?_) fun s₁ hp h' hk => ?_
  · obtain ⟨b, rfl, g1, l1, b1, z1, f1, k1⟩ := hv
    by_cases e : b = stop
    · subst e
      exact hS _ (hF _ _ (f1 rfl) rfl (bare_set b1 hb') fun _ _ q => q)
    · have eb : b = !stop := by cases b <;> cases stop <;> first | rfl | exact absurd rfl e
      subst eb
      cases n with
      | zero => exact False.elim (k1 e s₁ ⟨rfl, rfl, b1, Nat.le_refl _⟩)
      | succ m =>
        refine hG _ m (Nat.lt_succ_self m) ⟨g1, l1, bare_set b1 hb', gs', ?_, fun s' r => k1 e s' ((Rs.set b1 hb').trans r)⟩
        show (s₁.gens.setIfInBounds gi gs')[gi]? = some gs'
        rw [Array.getElem?_setIfInBounds_self_of_lt z1]
  · obtain ⟨b1, e1⟩ := hp
    exact hN _ (hE _ _ e1 rfl (bare_set b1 rfl) fun b o q => hk b o q)
end
section
variable {prog : Program} {w : World} {A : Around} {gi : Nat} {a : Addr} {End Fin : Shared → Prop}
theorem all_loop (hh : A.handled = none) (hroom : A.depth < recursionLimit)
    (hE : ∀ s s' : Shared, End s → s'.os = s.os → AllBare s'.gens → (∀ b o, s.heap.get? b = some o → s'.heap.get? b = some o) → End s')
    (hF : ∀ s s' : Shared, Fin s → s'.os = s.os → AllBare s'.gens → (∀ b o, s.heap.get? b = some o → s'.heap.get? b = some o) → Fin s') :
    ∀ (n : Nat) (s : Shared), Waits prog w A.in1 gi a false End Fin n s →
      codeAny (model prog w) A (.builtin "all.loop" ⟨[.ref a], []⟩) (fun r s' => (r = .ok (.ret (.bool true)) ∧ End s') ∨ (r = .ok (.ret (.bool false)) ∧ Fin s')) s := by
  intro n
  induction n using Nat.strongRecOn with
  | ind n ih =>
    intro s W
    refine codeAny_builtin PySem.F.entry_all_loop ?_
    rw [Around.under_plainId PySem.F.plain_all_loop]
    show wpAny (model prog w) A.in1 (pyNext (.ref a) >>= _) _ _ s
    refine wpAny_bind (waits_next (A := A.in1) hh hroom hE hF W (fun s' e => ?_) (fun s' e => ?_) fun s' m hm W' => ?_)
    · exact wpAny_bind (wpAny_rule (wpAny_pure (.inl ⟨rfl, e⟩)))
    · refine wpAny_bind (wpAny_holding (wpAny_truthy_bool ?_))
      refine wpAny_bind (wpAny_letGo ?_)
      exact wpAny_bind (wpAny_rule (wpAny_pure (.inr ⟨rfl, e⟩)))
    · refine wpAny_bind (wpAny_holding (wpAny_truthy_bool ?_))
      refine wpAny_bind (wpAny_letGo ?_)
      exact wpAny_pure ⟨plainId_quiet PySem.F.plain_all_loop _, ih m hm s' W'⟩
end
/-! ### all(elt for target in iter) -/
/-- the reading: W by the turn and a measure; P: the def's table, which may grow -/
def tAll (P : Addr) (wi : TI) (g : TG) (te : TE) (vs : List Nat) : TE := fun σ H Q => wi σ H fun J H1 => GxR.TabG H1 P ∧ ∃ W : Nat → Nat → Hp → Prop, (∀ H2, GxR.Tabbed P H1 H2 → ∃ m, W 0 m H2) ∧ ∀ i m H, W i m H →
  (J.stop i H ∧ Q (.bl true) H) ∨ (J.go i H ∧ ∃ Nx : Hp → Prop, (∀ H', Nx H' → ∃ m', m' < m ∧ W (i + 1) m' H') ∧ ∀ x H', J.yld i H x H' → g x (wipe σ vs) H' fun σ2 H2 => wipe σ2 vs = wipe σ vs ∧
    te σ2 H2 fun y H3 => ∃ b, y = .bl b ∧ if b = true then Nx H3 else Q (.bl false) H3)
section
variable {X : Cx}
theorem pe_all {k : Nat} {c P : Addr} {elt tg iter : Expr} {scope : Scope} {own : List (Str × Nat)} {p pos gpos : Pos} {wi : TI} {g : TG} {te : TE}
    (hr : Room (k + 1) X.A) (TB : GxR.TabB X.base X.mg c P) (hcode : X.env.code = .ref c) (hc : X.calm = true) (hN : X.N.Nodup) (hG : Gl X "all") (hM : X.mg "all" = none) (hi : PI X tg iter wi) (ok : BlkOk X.N X.env.scope scope own) (gk : GnOk scope) (hdN : (".0" : Str) ∉ X.N)
    (hg : ∀ (s : Shared) (H : Hp) (A' : Around) (C : Addr) (cl : List (Str × Addr)) (code : Value) (fp : List Addr), PG (gX X s H A' (genEnv scope cl C code builtinsNs X.env) fp) tg g)
    (he : ∀ (s : Shared) (H : Hp) (A' : Around) (C : Addr) (cl : List (Str × Addr)) (code : Value) (fp : List Addr), Room k A' → PE (gX X s H A' (genEnv scope cl C code builtinsNs X.env) fp) elt te)
    (hs : ∀ v, genFold iter X.env v = pure v := by intro _; rfl)
    (hst : starEach [.GeneratorExp elt [⟨tg, iter, [], 0⟩] scope gpos] X.env = (false, eval (.GeneratorExp elt [⟨tg, iter, [], 0⟩] scope gpos) X.env) :: starEach [] X.env := by rfl) :
    PE X (.Call (.Name "all" p) [.GeneratorExp elt [⟨tg, iter, [], 0⟩] scope gpos] [] pos) (tAll P wi g te (own.map (·.2))) := by
  refine ⟨fun pins s σ H Q I h => ?_⟩
  have hh : X.A.handled = none := hr.hd
  refine wpAny_Call_Name_kw (ld_blt I hG hM PyProof.Rows.boot_all ?_)
  refine PyProof.Rows.callWith_builtin1 ?_ hst (by rfl)
  rw [hst]
  show wpAny _ _ (spliced ((false, eval (.GeneratorExp elt [⟨tg, iter, [], 0⟩] scope gpos) X.env) :: backTo pos (starEach [] X.env))) _ _ s
  have hfree : ∀ y ∈ scope.names, y.2 = .free → ∃ c, X.env.cells.lookup y.1 = some c := fun y hy e =>
    (ok.free y hy e).elim (fun k => I.ok.has _ (.inl k)) fun k => I.ok.has _ (.inr k)
  refine Calls.spliced_cons (wpAny_GeneratorExp_make gk.co (closure_ok hfree) gk.nocell gk.dot ok.kind (by have := hr.dp; omega) (thn (hi.run pins s σ H _ I h) fun xv s1 hx => thn hx fun itv s2 h2 => ?_) hs)
  obtain ⟨it, fp, tn, J, H2, e, I2, T, st2, f2, ⟨ps, hP, ht⟩, W, w0, turn⟩ := h2
  subst e
  refine ⟨I2.nolimit, ?_⟩
  have hPs : s2.heap.get? P = some { cls := .none, data := .fields ps } := I2.hok P _ hP
  have cd : PySem.W.CodeHd s2.heap c P := TB.code.keeps fun b u e => I2.bk b u e
  have sz2 : ∀ b ∈ fp, b < s2.heap.objs.size := fun b hb => by
    obtain ⟨o, e, _⟩ := T.obj _ _ st2 b hb
    exact Heap.lt_size e
  have nfP : ∀ b ∈ fp, b ≠ P := fun b hb z => by
    have q := (f2 b hb).1
    rw [z, hP] at q
    cases q
  -- behind the table
  have cont : ∀ (code : Value) (h3 : Heap) (tk : Nat) (more : Array Value), s2.heap.objs.size ≤ h3.objs.size → (∀ b o, b ≠ P → s2.heap.get? b = some o → h3.get? b = some o) → h3.get? P = some { cls := .none, data := .fields (ps ++ more) } → TriplesOk (ps ++ more).toList →
      wpAny (model X.prog X.w) X.A (builtinsFor X.env.globals X.env.builtins) (fun bi s4 => ∀ h', h'.Ns s4.heap.objs.size (fun y => if y = ".0" then some (.ref it) else none) → Heap.SameBut s4.heap.objs.size (s4.heap.push { cls := .type "frame", data := .dict #[] }) h' →
        wpAny (model X.prog X.w) X.A (spliced (backTo pos (starEach [] X.env))) (fun vs s5 => wpAny (model X.prog X.w) X.A (call (.builtin "all") (.ref h'.objs.size :: vs)) (EP X pins σ Q) X.xe s5) X.xe { s4 with
            gens := s4.gens.push (.fresh (.compStart (.GeneratorExp elt [⟨tg, iter, [], 0⟩] scope gpos) 0 (.ref it) .none (genEnv scope (cloFrom X.env.cells scope.names []) s4.heap.objs.size code bi X.env))), toks := s4.toks + 1 + 1 + 1,
            heap := h'.push { cls := .type "generator", data := .fields #[.int s4.gens.size 0, .str "<genexpr>" (s4.toks + 1), .str (X.env.qual ++ "<genexpr>") (s4.toks + 1 + 1)] } }) X.xe { s2 with heap := h3, toks := tk } := by
    intro code h3 tk more hle3 hk3 hP3 ht3
    have I3 : Inv X pins σ (upd H2 P (.tbl (ps ++ more))) { s2 with heap := h3, gens := s2.gens, drawn := s2.drawn, toks := tk } := GxR.inv_tab I2 hP hk3 hP3 I2.bare
    have tab3 : GxR.Tabbed P H2 (upd H2 P (.tbl (ps ++ more))) := ⟨⟨_, upd_same, ht3⟩, fun b hb => upd_ne hb⟩
    have st3 : tn 0 h3 := T.keep _ _ _ st2 fun b hb o e => hk3 b o (nfP b hb) e
    have f3 : ∀ b ∈ fp, FpOk X pins (upd H2 P (.tbl (ps ++ more))) b := fun b hb => ⟨by rw [upd_ne (nfP b hb)]; exact (f2 b hb).1, (f2 b hb).2⟩
    generalize upd H2 P (.tbl (ps ++ more)) = H3 at I3 tab3 f3
    obtain ⟨m0, hw0⟩ := w0 H3 tab3
    have sz3 : ∀ b ∈ fp, b < h3.objs.size := fun b hb => Nat.lt_of_lt_of_le (sz2 b hb) hle3
    have hs3 : ({ s2 with heap := h3, gens := s2.gens, drawn := s2.drawn, toks := tk } : Shared) = { s2 with heap := h3, toks := tk } := rfl
    rw [hs3] at I3
    generalize hsh : ({ s2 with heap := h3, toks := tk } : Shared) = s3 at I3 ⊢
    have eh : h3 = s3.heap := by rw [← hsh]
    rw [eh] at st3 sz3
    clear hsh hs3 eh hP3 hk3 hle3
    obtain ⟨bm, ob, e1, e2, e3, e4, e5, e6, e7, e8⟩ := TB.bm
    refine wpAny_builtinsFor (m := X.mg) (by rw [I3.ok.glob]; exact I3.mod.glob.keeps I3.bk) e1 e2 (I3.bk _ _ e5) e6 e7 e8 ?_
    intro h' hn' hs'
    refine Calls.spliced_nil ?_
    have hsz : h'.objs.size = s3.heap.objs.size + 1 := by rw [hs'.1, Heap.size_push]
    generalize hgo : ({ cls := .type "generator", data := .fields #[.int s3.gens.size 0, .str "<genexpr>" (s3.toks + 1), .str (X.env.qual ++ "<genexpr>") (s3.toks + 1 + 1)] } : Obj) = go
    have kp5 : ∀ b o, s3.heap.get? b = some o → (h'.push go).get? b = some o := fun b o e => Heap.get?_push_of_some _ (hs'.extBut b o (Nat.ne_of_lt (Heap.lt_size e)) (Heap.get?_push_of_some _ e))
    generalize hce : genEnv scope (cloFrom X.env.cells scope.names []) s3.heap.objs.size code builtinsNs X.env = ce
    have hhA : (X.A.in1.in1.over (.compLoop (.GeneratorExp elt [⟨tg, iter, [], 0⟩] scope gpos) 0 (.ref it) .none ce) []).handled = none := hh
    have hFr : (X.A.in1.in1.over (.compLoop (.GeneratorExp elt [⟨tg, iter, [], 0⟩] scope gpos) 0 (.ref it) .none ce) []).frames = some (ce :: X.stack) := by
      show pushEnvs [ce] (pushEnvs [] X.A.frames) = _
      rw [I3.ok.frames]
      rfl
    have hRm : Room k (X.A.in1.in1.over (.compLoop (.GeneratorExp elt [⟨tg, iter, [], 0⟩] scope gpos) 0 (.ref it) .none ce) []) := by
      have z1 := hr.dp
      have z2 := hr.un
      refine ⟨hhA, ?_, ?_⟩
      · show X.A.depth + 0 + 1 + 3 * k + 5 < recursionLimit
        omega
      · show X.A.units + 1 + 1 + 0 + 3 + 16 * k + 200 < cLine
        omega
    generalize hAg : X.A.in1.in1.over (.compLoop (.GeneratorExp elt [⟨tg, iter, [], 0⟩] scope gpos) 0 (.ref it) .none ce) [] = Ag at hhA hFr hRm
    have I5 : Inv (gX X s3 H3 Ag ce fp) [(h'.objs.size, go)] (wipe σ (own.map (·.2))) H3 { s3 with heap := h'.push go, gens := s3.gens.push (.fresh (.compStart (.GeneratorExp elt [⟨tg, iter, [], 0⟩] scope gpos) 0 (.ref it) .none ce)), toks := s3.toks + 1 + 1 + 1 } := by
      have q := gen_start (code := code) (A' := Ag) (h5 := h'.push go) (g5 := s3.gens.push (.fresh (.compStart (.GeneratorExp elt [⟨tg, iter, [], 0⟩] scope gpos) 0 (.ref it) .none ce))) (t5 := s3.toks + 1 + 1 + 1) (go := go) I3 ok gk hN (fun b hb => ⟨f3 b hb, sz3 b hb⟩) hhA (by rw [hce]; exact hFr) kp5 (hn'.push _)
        (fun x hx => if_neg hx) hdN (I3.bare.push rfl) (a := h'.objs.size) (by omega) (Heap.get?_push_size _ (by rw [← hgo]; rfl)) (by rw [← hgo]; intro v z; cases z)
      rw [hce] at q
      exact q
    have st5 : tn 0 (h'.push go) := T.keep _ _ _ st3 fun b _ o e => kp5 b o e
    have nfp : ∀ b ∈ fp, H3 b = none := fun b hb => (f3 b hb).1
    have pg := hg s3 H3 Ag s3.heap.objs.size (cloFrom X.env.cells scope.names []) code fp
    have pe := he s3 H3 Ag s3.heap.objs.size (cloFrom X.env.cells scope.names []) code fp hRm
    rw [hce] at pg pe
    have cCo : ce.scope.isCoroutine = false := by rw [← hce]; exact gk.co
    clear hn' hs' kp5 w0 hce
    -- back in the def's context
    have back : ∀ {σ' : L2.St} {H' : Hp} {s' : Shared} {pl : List (Addr × Obj)}, Inv (gX X s3 H3 Ag ce fp) pl σ' H' s' → Inv X pins σ H' s' := fun {σ' H' s' pl} J => I3.call' (ch := fp) J.os J.base J.hok J.bare fun b hb =>
      ⟨(f3 b hb).2.2.2.1, (f3 b hb).2.1, (f3 b hb).2.2.2.2.1, (f3 b hb).2.2.2.2.2⟩
    have stat : ∀ {σ' : L2.St} {H' : Hp} {s' : Shared}, Inv (gX X s3 H3 Ag ce fp) [(h'.objs.size, go)] σ' H' s' → (∀ b ∈ fp, H' b = none) → ∀ b ∈ fp, FpOk (gX X s3 H3 Ag ce fp) [(h'.objs.size, go)] H' b := fun {σ' H' s'} J hn b hb =>
      ⟨hn b hb, (J.ok.exf b hb).1, J.ok.exfs b hb, .inl hb, fun x c e => (J.ok.exf b hb).2 x c e, fun p hp => by
        have hp : p = (h'.objs.size, go) := by simpa using hp
        rw [hp]
        exact Nat.ne_of_gt (Nat.lt_trans (sz3 b hb) (by rw [hsz]; exact Nat.lt_succ_self _))⟩
    have gen : ∀ {σ' : L2.St} {H' : Hp} {s' : Shared} {pl : List (Addr × Obj)}, Inv (gX X s3 H3 Ag ce fp) ([(h'.objs.size, go)] ++ pl) σ' H' s' → s'.heap.IsGen h'.objs.size s3.gens.size := fun {σ' H' s' pl} J => by
      have q := (J.pin (h'.objs.size, go) (by simp)).1
      exact ⟨go, _, _, q, by rw [← hgo], by rw [← hgo], by rw [← hgo]⟩
    -- the turns
    have loop : ∀ (m n i : Nat) (s₀ s : Shared) (H : Hp), m < n → W i m H → Inv (gX X s3 H3 Ag ce fp) [(h'.objs.size, go)] (wipe σ (own.map (·.2))) H s → tn i s.heap → (∀ b ∈ fp, H b = none) → s3.gens.size + 1 ≤ s.gens.size →
        Seg (model X.prog X.w) X.A.in1.in1 (fun n s₀ r s₁ => r = .ok .next ∧ gR (fun s => ∃ H', Inv X pins σ H' s ∧ Q (.bl true) H') n s₀ s₁) (gY s3.gens.size h'.objs.size false fun s => ∃ H', Inv X pins σ H' s ∧ Q (.bl false) H') n s₀
          (.compLoop (.GeneratorExp elt [⟨tg, iter, [], 0⟩] scope gpos) 0 (.ref it) .none ce) ((model X.prog X.w).den (.compLoop (.GeneratorExp elt [⟨tg, iter, [], 0⟩] scope gpos) 0 (.ref it) .none ce)) [] s := by
      intro m
      induction m using Nat.strongRecOn with
      | ind m ih =>
        intro n i s₀ s H hmn w J st nf hz
        show Seg (model X.prog X.w) _ _ _ n s₀ _ ((compTurn (.GeneratorExp elt [⟨tg, iter, [], 0⟩] scope gpos) 0 (.ref it) .none ce).onRaise (leaving ce)) [] s
        rw [compTurn_gen]
        rw [Sem.onRaise_eq_wrap]
        refine seg_bind_wrap (wpAny_standAt (seg_bind_wrap ?_))
        rw [hAg]
        rcases turn i m H w with ⟨stp, qq⟩ | ⟨go', Nx, hNx, step⟩
        · refine thnF (T.done (gX X s3 H3 Ag ce fp) rfl rfl rfl hc i _ s _ H (fun _ _ => False) J (stat J nf) st stp) fun r s6 ⟨hr6, J6⟩ => ?_
          subst hr6
          exact seg_end (.ok .next) ⟨rfl, J6.bare, H, back J6, qq⟩
        · refine GenW.wpAny_gsz hz (thnF (T.item (gX X s3 H3 Ag ce fp) rfl rfl rfl hc i _ s _ H (fun _ _ => False) J (stat J nf) st go') fun r s6 ⟨u, hr6, h6⟩ hz6 => ?_)
          subst hr6
          refine seg_bind_wrap ?_
          rw [hAg]
          refine GenW.wpAny_gsz hz6 (thnF h6 fun _ s7 ⟨x, H7, J7, r7, y7, st7, n7⟩ hz7 => ?_)
          have J7' := J7.pinned (stat J7 n7) (T.obj _ _ st7)
          refine seg_bind_wrap ?_
          rw [hAg]
          refine GenW.wpAny_gsz hz7 (thnF (pg.run _ s7 _ H7 x u _ J7' r7 (step x H7 y7)) fun _ s8 ⟨σ8, H8, J8, hw8, q8⟩ hz8 => ?_)
          simp only [List.forIn_nil]
          refine seg_bind_wrap (wpAny_pure ?_)
          simp only [if_true]
          have hy : ∀ v, yieldOut ce v = yieldValue v := fun v => by simp only [yieldOut, cCo, Bool.false_eq_true, if_false]
          simp only [hy]
          rw [Sem.bind_eq_wrap', Sem.bind_eq_wrap']
          rw [Sem.wrap_wrap, Sem.wrap_wrap]
          refine seg_wrap ?_
          rw [hAg]
          refine GenW.wpAny_gsz hz8 (thnF (pe.run _ s8 σ8 H8 _ J8 q8) fun z s9 ⟨yv, H9, J9, r9, b, eb, qb⟩ hz9 => ?_)
          subst eb
          obtain rfl : z = Value.bool b := r9
          obtain ⟨n', rfl⟩ : ∃ n', n = n' + 1 := ⟨n - 1, by omega⟩
          refine seg_at (seg_yield rfl rfl rfl ⟨b, rfl, gen J9, J9.nolimit, J9.bare, hz9, fun e => ?_, fun e s' r => ?_⟩)
          · subst e
            exact ⟨H9, back J9, qb⟩
          · have e : b = true := by
              cases b with
              | true => rfl
              | false => exact absurd rfl e
            subst e
            rw [if_pos rfl] at qb
            obtain ⟨m', hm', w'⟩ := hNx H9 qb
            have pin' : ∀ b ∈ fp, ∀ o, s7.heap.get? b = some o → s9.heap.get? b = some o ∧ H9 b = none := fun b hb o e =>
              let z := J9.pin (b, o) (List.mem_append_right _ (List.mem_append_right _ (mem_pinsAt hb e)))
              ⟨z.1, z.2.1⟩
            have hl : (wipe σ (own.map (·.2))).length = σ8.length := by rw [← hw8, wipe_length]
            have K9 : Inv (gX X s3 H3 Ag ce fp) [(h'.objs.size, go)] (wipe σ (own.map (·.2))) H9 s9 := J9.unpinned.weak hl fun j v e => by
              rw [← hw8] at e
              exact (wipe_some e).1
            refine seg_again rfl (ih m' hm' n' (i + 1) s' s' H9 (by omega) w' (r.inv K9) ?_ (fun b hb => ?_) (Nat.le_trans hz9 r.size))
            · rw [r.heap]
              exact T.keep _ _ _ st7 fun b hb o e => (pin' b hb o e).1
            · obtain ⟨o, e, _⟩ := T.obj _ _ st7 b hb
              exact (pin' b hb o e).2
    have mono : ∀ (b : Bool) (s s' : Shared), (∃ H', Inv X pins σ H' s ∧ Q (.bl b) H') → s'.os = s.os → AllBare s'.gens → (∀ b o, s.heap.get? b = some o → s'.heap.get? b = some o) → ∃ H', Inv X pins σ H' s' ∧ Q (.bl b) H' := fun b s s' ⟨H', J, q⟩ h1 h2 h3 =>
      ⟨H', inv_gens (J.kept (t' := s'.toks) h3) rfl h1 h2, q⟩
    generalize hs5 : ({ s3 with heap := h'.push go, gens := s3.gens.push (.fresh (.compStart (.GeneratorExp elt [⟨tg, iter, [], 0⟩] scope gpos) 0 (.ref it) .none ce)), toks := s3.toks + 1 + 1 + 1 } : Shared) = s5 at I5
    have hg5 : s5.gens[s3.gens.size]? = some (.fresh (.compStart (.GeneratorExp elt [⟨tg, iter, [], 0⟩] scope gpos) 0 (.ref it) .none ce)) := by
      rw [← hs5]
      exact Array.getElem?_push_size ..
    have hz5 : s3.gens.size + 1 ≤ s5.gens.size := by
      rw [← hs5]
      exact Nat.le_of_eq (Array.size_push ..).symm
    have ht5 : tn 0 s5.heap := by rw [← hs5]; exact st5
    have wt : Waits X.prog X.w X.A.in1 s3.gens.size h'.objs.size false (fun s => ∃ H', Inv X pins σ H' s ∧ Q (.bl true) H') (fun s => ∃ H', Inv X pins σ H' s ∧ Q (.bl false) H') (m0 + 1) s5 := by
      refine ⟨gen (pl := []) I5, I5.nolimit, I5.bare, _, hg5, fun s' r => ⟨rfl, ?_⟩⟩
      have lp := loop m0 (m0 + 1) 0 s' s' H3 (Nat.lt_succ_self _) hw0 (r.inv I5) (by rw [r.heap]; exact ht5) nfp (Nat.le_trans hz5 r.size)
      show Seg (model X.prog X.w) _ _ _ _ s' _ ((compStart (.GeneratorExp elt [⟨tg, iter, [], 0⟩] scope gpos) 0 (.ref it) .none ce).onRaise (leaving ce)) [] s'
      unfold compStart
      rw [Sem.onRaise_eq_wrap]
      show Seg (model X.prog X.w) _ _ _ _ s' _ ((ask >>= _).wrap _ _ _ _) [] s'
      refine seg_bind_wrap (wpAny_askSetting ?_)
      have ts : tn 0 s'.heap := by rw [r.heap]; exact ht5
      split
      · exact seg_again rfl lp
      · first
          | exact seg_bind_wrap (wpAny_rule (seg_bind_wrap (wpAny_standAt (seg_bind_wrap (T.self _ 0 s' _ _ ts (seg_again rfl lp))))))
          | (refine seg_bind_wrap (wpAny_rule ?_); show Seg (model X.prog X.w) _ _ _ _ s' _ ((standAt iter.pos >>= _).wrap _ _ _ _) [] s'; exact seg_bind_wrap (wpAny_standAt (seg_bind_wrap (T.self _ 0 s' _ _ ts (seg_again rfl lp)))))
    refine call_function_tree PySem.F.kind_all PySem.F.plain_all PySem.F.entry_all (PySem.F.args_all1 _) ?_
    unfold Builtin.«all»
    refine wpAny_bind (m := oneArg "all" _) (wpAny_pure ?_)
    refine wpAny_bind (wpAny_pyIter_gen (gen (pl := []) I5) ?_)
    refine wpAny_pure ⟨plainId_quiet PySem.F.plain_all_loop _, codeAny_mono (all_loop hh hr.depth (mono true) (mono false) (m0 + 1) s5 wt) fun r s' hq => ?_⟩
    rcases hq with ⟨rfl, H', J, q⟩ | ⟨rfl, H', J, q⟩
    · exact ⟨.bl true, H', J, rfl, q⟩
    · exact ⟨.bl false, H', J, rfl, q⟩
  cases hf : codeAmong gpos ps.toList with
  | none =>
    refine wpAny_genexprCodeX hcode (cd.code hPs ht) (cd.tab hPs) hf fun c' h' tk hx hge hlt hco' _ htab' _ => ?_
    obtain ⟨o1, vs, f1, tf, fl, tg1, inF, tx, tt, op, _, _, _, _, _, _, _, _, _, htr, _⟩ := hco'
    exact cont _ h' tk _ (Nat.le_trans hge (Nat.le_of_lt hlt)) (fun b o hb e => hx b o hb e) htab'.2 htr
  | some cv =>
    refine wpAny_genexprCode_hit hcode (cd.code hPs ht) hf ?_
    have := cont cv s2.heap s2.toks #[] (Nat.le_refl _) (fun _ _ _ e => e) (by rw [hPs]; simp) (by simpa using ht)
    exact this
end
def topS (i : Nat) : Stmt := PySem.Challenge.pw_friendfoe_k27_turnings_judged.main.body.getD i (.Pass ⟨0, 0, 0, 0⟩)
abbrev s_is_whole : Stmt := topS 4
abbrev N_is_whole : List Str := ["thing"]
theorem sc_is_whole : FnScope N_is_whole ["thing"] (defScope s_is_whole) := ⟨rfl, rfl, rfl, by decide +kernel, rfl, by decide +kernel, by decide +kernel⟩
abbrev s_is_whole_below : Stmt := topS 5
abbrev N_is_whole_below : List Str := ["limit", "thing"]
theorem sc_is_whole_below : FnScope N_is_whole_below ["limit", "thing"] (defScope s_is_whole_below) := ⟨rfl, rfl, rfl, by decide +kernel, rfl, by decide +kernel, by decide +kernel⟩
abbrev s_is_tuple_of : Stmt := topS 6
abbrev N_is_tuple_of : List Str := ["length", "thing"]
theorem sc_is_tuple_of : FnScope N_is_tuple_of ["length", "thing"] (defScope s_is_tuple_of) := ⟨rfl, rfl, rfl, by decide +kernel, rfl, by decide +kernel, by decide +kernel⟩
abbrev s_are_rising_below : Stmt := topS 7
abbrev N_are_rising_below : List Str := ["limit", "thing", "number", "following"]
theorem sc_are_rising_below : FnScope N_are_rising_below ["limit", "thing"] (defScope s_are_rising_below) := ⟨rfl, rfl, rfl, by decide +kernel, rfl, by decide +kernel, by decide +kernel⟩
abbrev s_are_unlike_below : Stmt := topS 9
abbrev N_are_unlike_below : List Str := ["limit", "thing", "number"]
theorem sc_are_unlike_below : FnScope N_are_unlike_below ["limit", "thing"] (defScope s_are_unlike_below) := ⟨rfl, rfl, rfl, by decide +kernel, rfl, by decide +kernel, by decide +kernel⟩
abbrev s_joins : Stmt := topS 10
abbrev N_joins : List Str := ["tie", "one", "other"]
theorem sc_joins : FnScope N_joins ["tie", "one", "other"] (defScope s_joins) := ⟨rfl, rfl, rfl, by decide +kernel, rfl, by decide +kernel, by decide +kernel⟩
abbrev s_ring_holds : Stmt := topS 11
abbrev N_ring_holds : List Str := ["web", "thing", "places", "ties", "followers", "tie", "one", "other"]
theorem sc_ring_holds : FnScope N_ring_holds ["web", "thing"] (defScope s_ring_holds) := ⟨rfl, rfl, rfl, by decide +kernel, rfl, by decide +kernel, by decide +kernel⟩
abbrev s_foes_in : Stmt := topS 12
abbrev N_foes_in : List Str := ["web", "ring", "tie"]
theorem sc_foes_in : FnScope N_foes_in ["web", "ring"] (defScope s_foes_in) := ⟨rfl, rfl, rfl, by decide +kernel, rfl, by decide +kernel, by decide +kernel⟩
abbrev s_odd_ring_holds : Stmt := topS 13
abbrev N_odd_ring_holds : List Str := ["web", "thing"]
theorem sc_odd_ring_holds : FnScope N_odd_ring_holds ["web", "thing"] (defScope s_odd_ring_holds) := ⟨rfl, rfl, rfl, by decide +kernel, rfl, by decide +kernel, by decide +kernel⟩
abbrev s_turned_tie : Stmt := topS 15
abbrev N_turned_tie : List Str := ["tie", "among", "one", "other", "kind"]
theorem sc_turned_tie : FnScope N_turned_tie ["tie", "among"] (defScope s_turned_tie) := ⟨rfl, rfl, rfl, by decide +kernel, rfl, by decide +kernel, by decide +kernel⟩
abbrev s_turned : Stmt := topS 16
abbrev N_turned : List Str := ["web", "places", "among", "place", "tie"]
theorem sc_turned : FnScope N_turned ["web", "places"] (defScope s_turned) := ⟨rfl, rfl, rfl, by decide +kernel, rfl, by decide +kernel, by decide +kernel⟩
abbrev s_are_framed : Stmt := topS 18
abbrev N_are_framed : List Str := ["one", "other", "tie", "like"]
theorem sc_are_framed : FnScope N_are_framed ["one", "other"] (defScope s_are_framed) := ⟨rfl, rfl, rfl, by decide +kernel, rfl, by decide +kernel, by decide +kernel⟩
abbrev s_kinds_of : Stmt := topS 19
abbrev N_kinds_of : List Str := ["web", "tie"]
theorem sc_kinds_of : FnScope N_kinds_of ["web"] (defScope s_kinds_of) := ⟨rfl, rfl, rfl, by decide +kernel, rfl, by decide +kernel, by decide +kernel⟩
abbrev s_web_between : Stmt := topS 20
abbrev N_web_between : List Str := ["one", "other", "like", "kind", "told", "tie"]
theorem sc_web_between : FnScope N_web_between ["one", "other"] (defScope s_web_between) := ⟨rfl, rfl, rfl, by decide +kernel, rfl, by decide +kernel, by decide +kernel⟩
abbrev s_turning_holds : Stmt := topS 21
abbrev N_turning_holds : List Str := ["one", "other", "thing", "between", "word", "told"]
theorem sc_turning_holds : FnScope N_turning_holds ["one", "other", "thing"] (defScope s_turning_holds) := ⟨rfl, rfl, rfl, by decide +kernel, rfl, by decide +kernel, by decide +kernel⟩
abbrev s_l_well : Stmt := topS 23
abbrev N_l_well : List Str := ["_law_script", "_law_k", "_law_cell", "_law_great"]
theorem sc_l_well : FnScope N_l_well ["_law_script", "_law_k"] (defScope s_l_well) := ⟨rfl, rfl, rfl, by decide +kernel, rfl, by decide +kernel, by decide +kernel⟩
abbrev s_l_draw : Stmt := topS 24
abbrev N_l_draw : List Str := ["_law_well_here", "_law_most", "_law_digit", "_law_number"]
theorem sc_l_draw : FnScope N_l_draw ["_law_well_here", "_law_most"] (defScope s_l_draw) := ⟨rfl, rfl, rfl, by decide +kernel, rfl, by decide +kernel, by decide +kernel⟩
abbrev s_l_web : Stmt := topS 25
abbrev N_l_web : List Str := ["_law_well_here", "_law_great", "_law_many", "_law_ties", "_law_k", "_law_one", "_law_other_here", "_law_kind"]
theorem sc_l_web : FnScope N_l_web ["_law_well_here"] (defScope s_l_web) := ⟨rfl, rfl, rfl, by decide +kernel, rfl, by decide +kernel, by decide +kernel⟩
abbrev s_l_places : Stmt := topS 26
abbrev N_l_places : List Str := ["_law_well_here", "_law_many", "_law_way", "_law_place"]
theorem sc_l_places : FnScope N_l_places ["_law_well_here", "_law_many"] (defScope s_l_places) := ⟨rfl, rfl, rfl, by decide +kernel, rfl, by decide +kernel, by decide +kernel⟩
abbrev s_l_about : Stmt := topS 27
abbrev N_l_about : List Str := ["_law_web_here", "_law_places_here", "_law_other_here", "_law_ties", "_law_tie"]
theorem sc_l_about : FnScope N_l_about ["_law_web_here", "_law_places_here"] (defScope s_l_about) := ⟨rfl, rfl, rfl, by decide +kernel, rfl, by decide +kernel, by decide +kernel⟩
abbrev s_l_is_ring : Stmt := topS 28
abbrev N_l_is_ring : List Str := ["_law_web_here", "_law_thing", "_law_places_here", "_law_ties", "_law_k", "_law_two"]
theorem sc_l_is_ring : FnScope N_l_is_ring ["_law_web_here", "_law_thing"] (defScope s_l_is_ring) := ⟨rfl, rfl, rfl, by decide +kernel, rfl, by decide +kernel, by decide +kernel⟩
abbrev s_l_are_numbers : Stmt := topS 29
abbrev N_l_are_numbers : List Str := ["_law_thing", "_law_many", "_law_one"]
theorem sc_l_are_numbers : FnScope N_l_are_numbers ["_law_thing", "_law_many"] (defScope s_l_are_numbers) := ⟨rfl, rfl, rfl, by decide +kernel, rfl, by decide +kernel, by decide +kernel⟩
abbrev s_l_foes : Stmt := topS 30
abbrev N_l_foes : List Str := ["_law_web_here", "_law_ring", "_law_tie"]
theorem sc_l_foes : FnScope N_l_foes ["_law_web_here", "_law_ring"] (defScope s_l_foes) := ⟨rfl, rfl, rfl, by decide +kernel, rfl, by decide +kernel, by decide +kernel⟩
abbrev s_l_other : Stmt := topS 31
abbrev N_l_other : List Str := ["_law_well_here", "_law_web_here", "_law_some", "_law_ties", "_law_tie"]
theorem sc_l_other : FnScope N_l_other ["_law_well_here", "_law_web_here", "_law_some"] (defScope s_l_other) := ⟨rfl, rfl, rfl, by decide +kernel, rfl, by decide +kernel, by decide +kernel⟩
abbrev s_l_with_other_kinds : Stmt := topS 32
abbrev N_l_with_other_kinds : List Str := ["_law_well_here", "_law_web_here", "_law_ties", "_law_k", "_law_at"]
theorem sc_l_with_other_kinds : FnScope N_l_with_other_kinds ["_law_well_here", "_law_web_here"] (defScope s_l_with_other_kinds) := ⟨rfl, rfl, rfl, by decide +kernel, rfl, by decide +kernel, by decide +kernel⟩
abbrev s_l_choice : Stmt := topS 33
abbrev N_l_choice : List Str := ["_law_one", "_law_other_here", "_law_turn", "_law_start", "_law_come_here", "_law_here", "_law_tie", "_law_there", "_law_beyond", "_law_due_here", "_law_place"]
theorem sc_l_choice : FnScope N_l_choice ["_law_one", "_law_other_here"] (defScope s_l_choice) := ⟨rfl, rfl, rfl, by decide +kernel, rfl, by decide +kernel, by decide +kernel⟩
abbrev s_l_due : Stmt := topS 34
abbrev N_l_due : List Str := ["_law_one", "_law_other_here", "_law_thing", "_law_tie"]
theorem sc_l_due : FnScope N_l_due ["_law_one", "_law_other_here", "_law_thing"] (defScope s_l_due) := ⟨rfl, rfl, rfl, by decide +kernel, rfl, by decide +kernel, by decide +kernel⟩
abbrev s_l_walked : Stmt := topS 35
abbrev N_l_walked : List Str := ["_law_well_here", "_law_web_here", "_law_places_here", "_law_ties", "_law_k", "_law_some", "_law_number", "_law_tie", "_law_at"]
theorem sc_l_walked : FnScope N_l_walked ["_law_well_here", "_law_web_here"] (defScope s_l_walked) := ⟨rfl, rfl, rfl, by decide +kernel, rfl, by decide +kernel, by decide +kernel⟩
abbrev s_l_row_spoilt : Stmt := topS 36
abbrev N_l_row_spoilt : List Str := ["_law_well_here", "_law_row", "_law_most", "_law_way", "_law_at", "_law_one"]
theorem sc_l_row_spoilt : FnScope N_l_row_spoilt ["_law_well_here", "_law_row", "_law_most"] (defScope s_l_row_spoilt) := ⟨rfl, rfl, rfl, by decide +kernel, rfl, by decide +kernel, by decide +kernel⟩
abbrev s_l_spoilt : Stmt := topS 37
abbrev N_l_spoilt : List Str := ["_law_well_here", "_law_web_here", "_law_thing", "_law_word", "_law_told", "_law_way"]
theorem sc_l_spoilt : FnScope N_l_spoilt ["_law_well_here", "_law_web_here", "_law_thing"] (defScope s_l_spoilt) := ⟨rfl, rfl, rfl, by decide +kernel, rfl, by decide +kernel, by decide +kernel⟩
abbrev s_l_goods : Stmt := topS 38
abbrev N_l_goods : List Str := ["_law_well_here", "_law_web_here", "_law_some", "_law_goods_here", "_law_parts", "_law_come_here", "_law_whole", "_law_place", "_law_places_here", "_law_ties", "_law_turn", "_law_back"]
theorem sc_l_goods : FnScope N_l_goods ["_law_well_here", "_law_web_here", "_law_some"] (defScope s_l_goods) := ⟨rfl, rfl, rfl, by decide +kernel, rfl, by decide +kernel, by decide +kernel⟩
abbrev s_l_come : Stmt := topS 39
abbrev N_l_come : List Str := ["_law_web_here", "_law_start", "_law_come_here", "_law_waiting", "_law_here", "_law_tie", "_law_place"]
theorem sc_l_come : FnScope N_l_come ["_law_web_here", "_law_start"] (defScope s_l_come) := ⟨rfl, rfl, rfl, by decide +kernel, rfl, by decide +kernel, by decide +kernel⟩
abbrev s_law : Stmt := topS 40
abbrev N_law : List Str := ["_law_script", "_law_k", "_law_well_here", "_law_web_here", "_law_some", "_law_other_here", "_law_things", "_law_turn", "_law_thing", "_law_told"]
theorem sc_law : FnScope N_law ["_law_script"] (defScope s_law) := ⟨rfl, rfl, rfl, by decide +kernel, rfl, by decide +kernel, by decide +kernel⟩
/-! ### own rules: a list against [] -/
section
variable {X : Cx}
def rEqE (K : PySem.W.Frag) : R2 := fun x y H Q => ∃ (a b : Addr) (xs : List V), x = .ref a ∧ y = .ref b ∧ SqL K H a xs ∧ SqL K H b [] ∧ Q (.bl xs.isEmpty) H
def rNeE (K : PySem.W.Frag) : R2 := fun x y H Q => ∃ (a b : Addr) (xs : List V), x = .ref a ∧ y = .ref b ∧ SqL K H a xs ∧ SqL K H b [] ∧ Q (.bl (!xs.isEmpty)) H
theorem op_eqE (hu : X.A.units < cLine) : OpR X (compareOp .Eq) (rEqE X.K) := by
  intro pins s σ H x y v u Q I rx ry h
  obtain ⟨a, b, xs, rfl, rfl, ha, hb, q⟩ := h
  obtain rfl : v = Value.ref a := rx
  obtain rfl : u = Value.ref b := ry
  obtain ⟨its, r1, p1, _⟩ := I.list ha
  obtain ⟨its2, r2, p2, _⟩ := I.list hb
  cases r2
  cases xs with
  | nil =>
    cases r1
    exact SeqAt.eq_listAt (e := fun _ => true) p1.isList p2.isList rfl hu (fun j h1 _ => absurd h1 (by simp)) ⟨.bl true, H, I, rfl, q⟩
  | cons z zs =>
    cases r1 with
    | cons r t => exact SeqAt.eq_list_lengthsAt p1.isList p2.isList (by simp) hu ⟨.bl false, H, I, rfl, q⟩
theorem op_neE (hu : X.A.units < cLine) : OpR X (compareOp .NotEq) (rNeE X.K) := by
  intro pins s σ H x y v u Q I rx ry h
  obtain ⟨a, b, xs, rfl, rfl, ha, hb, q⟩ := h
  obtain rfl : v = Value.ref a := rx
  obtain rfl : u = Value.ref b := ry
  obtain ⟨its, r1, p1, _⟩ := I.list ha
  obtain ⟨its2, r2, p2, _⟩ := I.list hb
  cases r2
  cases xs with
  | nil =>
    cases r1
    exact SeqAt.RcNeAt.lists (e := fun _ => true) p1.isList p2.isList rfl hu (fun j h1 _ => absurd h1 (by simp)) _ _ _ _ ⟨.bl false, H, I, rfl, q⟩
  | cons z zs =>
    cases r1 with
    | cons r t => exact SeqAt.RcNeAt.lists_lengths p1.isList p2.isList (by simp) hu _ _ _ _ ⟨.bl true, H, I, rfl, q⟩
end
section
variable {P : Program} {w : World} {K : PySem.W.Frag} {mg : Str → Option Value} {base : Heap}
/-! ### webs -/
structure Tie where
  one : Int
  other : Int
  foe : Bool
def kindS : Bool → Str
  | true => "foe"
  | false => "friend"
def TieV (H : Hp) (v : V) (t : Tie) : Prop := ∃ a, v = .ref a ∧ H a = some (.tup [.int t.one, .int t.other, .str (kindS t.foe)])
def TieOk (n : Int) (t : Tie) : Prop := 0 ≤ t.one ∧ t.one < n ∧ 0 ≤ t.other ∧ t.other < n ∧ t.one ≠ t.other
def WebAt (H : Hp) (v : V) (n : Int) (ts : List Tie) : Prop := ∃ a b vs, v = .ref a ∧ H a = some (.tup [.int n, .ref b]) ∧ H b = some (.tup vs) ∧ Paired (TieV H) vs ts
structure WebOk (n : Int) (ts : List Tie) : Prop where
  lo : 1 ≤ n
  hi : n ≤ 40
  few : ts.length ≤ 120
  ok : ∀ t ∈ ts, TieOk n t
/-- tuples stay -/
def Tk (H H' : Hp) : Prop := ∀ b xs, H b = some (.tup xs) → H' b = some (.tup xs)
theorem Tk.trans {H H1 H2 : Hp} (a : Tk H H1) (b : Tk H1 H2) : Tk H H2 := fun x xs h => b x xs (a x xs h)
theorem Same.tk {H H' : Hp} (s : Same H H') : Tk H H' := fun b xs h => s b _ h
theorem tk_lst {H : Hp} {l : Addr} {xs ys : List V} (h : H l = some (.lst xs)) : Tk H (upd H l (.lst ys)) := fun b zs e => by
  rw [upd_ne (ne_of e h (by intro z; cases z))]
  exact e
theorem TieV.tk {H H' : Hp} (k : Tk H H') {v : V} {t : Tie} (h : TieV H v t) : TieV H' v t := by
  obtain ⟨a, rfl, e⟩ := h
  exact ⟨a, rfl, k _ _ e⟩
theorem ties_tk {H H' : Hp} (k : Tk H H') {vs : List V} {ts : List Tie} (h : Paired (TieV H) vs ts) : Paired (TieV H') vs ts := Paired.mono (fun _ _ x => x.tk k) h
theorem WebAt.tk {H H' : Hp} (k : Tk H H') {v : V} {n : Int} {ts : List Tie} (h : WebAt H v n ts) : WebAt H' v n ts := by
  obtain ⟨a, b, vs, rfl, h1, h2, h3⟩ := h
  exact ⟨a, b, vs, rfl, k _ _ h1, k _ _ h2, ties_tk k h3⟩
theorem Kp.tk {d : Addr} {b : Nat} {H H' : Hp} (k : Kp d d H H') (D : Well H d b) : Tk H H' := fun c xs e => by
  obtain ⟨g, st, n, h1, h2⟩ := D
  have ne := ne_of e h1 (by intro z; cases z)
  exact k c _ ne ne e
theorem Kp.mut {d c l : Addr} {H H' : Hp} {o : HO} (k : Kp d c H H') (h : H l = none) : Kp d c H (upd H' l o) := fun b u h1 h2 e => by
  rw [upd_ne (ne_of_none e h)]
  exact k b u h1 h2 e
theorem Paired.at {α β : Type} {F : α → β → Prop} : ∀ {l : List α} {m : List β} {i : Nat} {a : α}, Paired F l m → l[i]? = some a → ∃ b, m[i]? = some b ∧ F a b
  | _, _, _, _, .nil, e => by simp at e
  | _, _, 0, _, .cons r _, e => by simp at e; subst e; exact ⟨_, rfl, r⟩
  | _, _, i + 1, a, .cons _ t, e => by
    obtain ⟨u, h1, h2⟩ := Paired.at (i := i) (a := a) t (by simpa using e)
    exact ⟨u, by simpa using h1, h2⟩
theorem Paired.at' {α β : Type} {F : α → β → Prop} : ∀ {l : List α} {m : List β} {i : Nat} {b : β}, Paired F l m → m[i]? = some b → ∃ a, l[i]? = some a ∧ F a b
  | _, _, _, _, .nil, e => by simp at e
  | _, _, 0, _, .cons r _, e => by simp at e; subst e; exact ⟨_, rfl, r⟩
  | _, _, i + 1, b, .cons _ t, e => by
    obtain ⟨u, h1, h2⟩ := Paired.at' (i := i) (b := b) t (by simpa using e)
    exact ⟨u, by simpa using h1, h2⟩
theorem getI {α : Type} {xs : List α} {i : Int} (h0 : 0 ≤ i) (h1 : i < (xs.length : Int)) : ∃ v, atI xs i = some v ∧ xs[i.toNat]? = some v := by
  obtain ⟨j, rfl⟩ : ∃ j : Nat, i = (j : Int) := ⟨i.toNat, by omega⟩
  have h2 : j < xs.length := by omega
  exact ⟨xs[j], atI_nat (List.getElem?_eq_getElem h2), by rw [Int.toNat_natCast]; exact List.getElem?_eq_getElem h2⟩
theorem other_ne {n a b : Int} (h0 : 0 ≤ a) (h1 : a < n) (g0 : 0 ≤ b) (g1 : b < n - 1) : a ≠ (a + 1 + b) % n := by
  by_cases h : a + 1 + b < n
  · rw [Int.emod_eq_of_lt (by omega) h]
    omega
  · have e : a + 1 + b = (a + 1 + b - n) + 1 * n := by omega
    rw [e, Int.add_mul_emod_self_right, Int.emod_eq_of_lt (by omega) (by omega)]
    omega
theorem pick2 {α : Type} (a b : α) (k : Bool) : atI [a, b] (if k then 1 else 0) = some (if k then b else a) := by
  cases k <;> rfl
def spWeb : Sp := fun vs H Q _ => ∃ (d : Addr) (b : Nat), vs = [.ref d] ∧ Well H d b ∧ b < 2 ^ 50 ∧
  ∀ v n ts H', WebAt H' v n ts → WebOk n ts → Well H' d (b + 1000) → Kp d d H H' → Q v H'
theorem Kp.free {d c l : Addr} {H H' : Hp} (k : Kp d c H H') (h : H' l = none) (h1 : l ≠ d) (h2 : l ≠ c) : H l = none := by
  cases e : H l with
  | none => rfl
  | some o =>
    rw [k l o h1 h2 e] at h
    cases h
theorem atI_of {xs : List V} {i : Int} {v : V} (h0 : 0 ≤ i) (e : xs[i.toNat]? = some v) : atI xs i = some v := by
  obtain ⟨j, rfl⟩ : ∃ j : Nat, i = (j : Int) := ⟨i.toNat, by omega⟩
  exact atI_nat (by rw [Int.toNat_natCast] at e; exact e)
theorem atI_ints {xs : List Int} {i : Int} (h0 : 0 ≤ i) (h1 : i < xs.length) : ∃ x ∈ xs, xs[i.toNat]? = some x ∧ atI (xs.map V.int) i = some (.int x) := by
  have h : i.toNat < xs.length := by omega
  exact ⟨xs[i.toNat], List.getElem_mem h, List.getElem?_eq_getElem h, atI_of h0 (by rw [List.getElem?_map, List.getElem?_eq_getElem h]; rfl)⟩
theorem at0 {α : Type} (x : α) (xs : List α) : atI (x :: xs) 0 = some x := atI_nat (j := 0) rfl
theorem ix0 (n : Nat) : ixN (n + 1) 0 = some 0 := by
  unfold ixN
  rw [if_pos (by decide), if_pos (by omega)]
  rfl
/-! ### a draw -/
theorem ok_l_draw {f : Addr} {fd : FuncData} (F : Fun K "_law_draw" "_law_draw" s_l_draw f fd) : FnOk P w K mg base CX0 1 f fd ["_law_well_here", "_law_most"] spDraw := by
  refine F.ok sc_l_draw (fun vs H Q E h => ?_) (fun cdv A outer s H vs Q E hr h => ?_)
  · obtain ⟨d, b, m, rfl, _⟩ := h
    rfl
  · obtain ⟨d, b, m, rfl, hD, hB, hm, hb, q⟩ := h
    obtain ⟨g, st, n, hd, hn⟩ := hD
    refine ⟨_, (pss_cons (ps_if (pt_cmpR op_gt (pe_ix ix_list (pv 0) pe_int (fun _ _ => rfl)) pe_int (nomark _))
        (pss_cons (ps_set (i := 2) sc_l_draw.nd rfl (.inl rfl) (pe_op op_mod (pe_ix ix_list (pv 0) pe_int (fun _ _ => rfl)) (pv 1)))
        (pss_cons (ps_asg (pe_op op_fdivW (pe_ix ix_list (pv 0) pe_int (fun _ _ => rfl)) (pv 1)) (pg_sub (pv 0) pe_int set_list))
        (pss_one (ps_ret (pv 2)))))
        pss_nil)
      (pss_cons (ps_asg (pe_op op_add (pe_ix ix_list (pv 0) pe_int (fun _ _ => rfl)) pe_int) (pg_sub (pv 0) pe_int set_list))
      (Evl.pss_cut (ps_set (i := 3) sc_l_draw.nd rfl (.inl rfl) (pe_op op_mod (pe_op op_mul (pe_op op_add (pe_ix ix_list (pv 0) pe_int (fun _ _ => rfl)) (pe_op op_mul (pe_op op_mul pe_int (pe_ix ix_list (pv 0) pe_int (fun _ _ => rfl))) (pe_ix ix_list (pv 0) pe_int (fun _ _ => rfl)))) pe_int) pe_int))
      (Evl.pss_cut (ps_set (i := 3) sc_l_draw.nd rfl (.inl rfl) (pe_op op_mod (pe_op op_add (pe_op op_add (pe_op op_mul (pv 3) (pv 3)) (pe_op op_mul pe_int (pv 3))) pe_int) pe_int))
      (pss_one (ps_ret (pe_op op_mod (pe_op op_fdiv (pe_op op_mod (pe_op op_add (pe_op op_mul (pv 3) (pv 3)) pe_int) pe_int) pe_int) (pv 1)))))))), ?_⟩
    refine ⟨.ref d, rfl, d, _, 0, .int g, rfl, rfl, SqL.of hd, rfl, g, 0, rfl, rfl, _, rfl, ite2 (fun _ => ?_) (fun _ => ?_)⟩
    · refine ⟨.ref d, rfl, d, _, 0, .int g, rfl, rfl, SqL.of hd, rfl, .int m, rfl, g, m, rfl, rfl, hm, ?_⟩
      refine ⟨.ref d, rfl, d, _, 0, .int g, rfl, rfl, SqL.of hd, rfl, .int m, rfl, g, m, rfl, rfl, wide_div hm hb (by decide) (by decide), .ref d, rfl, d, _, 0, 0, rfl, rfl, hd, rfl, ?_⟩
      exact ⟨.int (g % m), rfl, q _ _ (mod_rng hm).1 (mod_rng hm).2 ⟨g / m, st, n, by rw [upd_same]; rfl, by omega⟩ Kp.at_d⟩
    · refine ⟨.ref d, rfl, d, _, 2, .int n, rfl, rfl, SqL.of hd, rfl, n, 1, rfl, rfl, .ref d, rfl, d, _, 2, 2, rfl, rfl, hd, rfl, ?_⟩
      have hd2 : (upd H d (.lst ([V.int g, V.int st, V.int n].set 2 (.int (n + 1))))) d = some (.lst [.int g, .int st, .int ((n + 1 : Nat) : Int)]) := by rw [upd_same]; rfl
      have k2 : Kp d d H (upd H d (.lst ([V.int g, V.int st, V.int n].set 2 (.int (n + 1))))) := Kp.at_d
      generalize upd H d (.lst ([V.int g, V.int st, V.int n].set 2 (.int (n + 1)))) = H2 at hd2 k2
      refine ⟨fun σ' H5 => ∃ N : Int, σ' = [some (.ref d), some (.int m), none, some (.int N)] ∧ 0 ≤ N ∧ N < 2147483647 ∧ H5 = H2, ?_, ?_⟩
      · exact ⟨.ref d, rfl, d, _, 1, .int st, rfl, rfl, SqL.of hd2, rfl, .ref d, rfl, d, _, 2, _, rfl, rfl, SqL.of hd2, rfl, 7919, _, rfl, rfl, .inl ⟨by decide, by decide⟩, .ref d, rfl, d, _, 2, _, rfl, rfl, SqL.of hd2, rfl, _, _, rfl, rfl, .inr ⟨by omega, by omega⟩, _, _, rfl, rfl, _, 48271, rfl, rfl, .inr ⟨by decide, by decide⟩, _, 2147483647, rfl, rfl, show (0 : Int) < 2147483647 by decide, _, rfl, (mod_rng (by decide)).1, (mod_rng (by decide)).2, rfl⟩
      rintro σ' H5 ⟨N, rfl, hN0, hN1, rfl⟩
      refine ⟨fun σ' H6 => ∃ M : Int, σ' = [some (.ref d), some (.int m), none, some (.int M)] ∧ 0 ≤ M ∧ M < 2147483629 ∧ H6 = H5, ?_, ?_⟩
      · exact ⟨.int N, rfl, .int N, rfl, N, N, rfl, rfl, .inl ⟨by omega, by omega⟩, .int N, rfl, 69621, N, rfl, rfl, .inl ⟨by decide, by decide⟩, _, _, rfl, rfl, _, 7, rfl, rfl, _, 2147483629, rfl, rfl, show (0 : Int) < 2147483629 by decide, _, rfl, (mod_rng (by decide)).1, (mod_rng (by decide)).2, rfl⟩
      rintro σ' H6 ⟨M, rfl, hM0, hM1, rfl⟩
      refine ⟨.int M, rfl, .int M, rfl, M, M, rfl, rfl, .inl ⟨by omega, by omega⟩, _, 16807, rfl, rfl, _, 2147483587, rfl, rfl, show (0 : Int) < 2147483587 by decide, _, 64, rfl, rfl, ⟨by decide, by decide⟩, .int m, rfl, _, m, rfl, rfl, hm, ?_⟩
      exact q _ _ (mod_rng hm).1 (mod_rng hm).2 ⟨g, st, n + 1, hd2, by omega⟩ k2
/-! ### the well is laid -/
theorem cutV_len (xs : List V) : (cutV xs none (some 63)).length ≤ xs.length := by
  unfold cutV
  rw [List.length_take, List.length_drop]
  omega
def spWell (K : PySem.W.Frag) : Sp := fun vs H Q _ => ∃ (a : Addr) (ns : List Int) (k : Nat), vs = [.ref a, .int k] ∧ SqL K H a (ns.map V.int) ∧ k < 1000 ∧
  ∀ d H', Same H H' → H d = none → Well H' d 3 → Q (.ref d) H'
theorem ok_l_well {f : Addr} {fd : FuncData} (F : Fun K "_law_well" "_law_well" s_l_well f fd) (M : Free mg) : FnOk P w K mg base CX0 1 f fd ["_law_script", "_law_k"] (spWell K) := by
  refine F.ok sc_l_well (fun vs H Q E h => ?_) (fun cdv A outer s H vs Q E hr h => ?_)
  · obtain ⟨a, ns, k, rfl, _⟩ := h
    rfl
  · obtain ⟨a, ns, k, rfl, hS, hk, q⟩ := h
    refine ⟨_, (pss_cons (ps_set (i := 2) sc_l_well.nd rfl (.inl rfl) pe_int)
      (Evl.pss_cut (ps_if (pt_cmpR op_lt (pv 1) (pe_callB call_len_seq (by rfl) M.len PySem.boot_len (pa_cons (pe_slice sl_list (pv 0) po_none (po_some pe_int)) pa_nil)) (nomark _))
        (pss_one (ps_set (i := 2) sc_l_well.nd rfl (.inl rfl) (pe_ix ix_list (pv 0) (pv 1) (fun _ _ => rfl))))
        pss_nil)
      (pss_cons (ps_set (i := 3) sc_l_well.nd rfl (.inl rfl) pe_int)
      (Evl.pss_cut (ps_if (pt_cmpR op_ge (pv 2) (pe_op op_pow pe_int pe_int) (nomark _))
        (pss_one (ps_set (i := 3) sc_l_well.nd rfl (.inl rfl) (pv 2)))
        pss_nil)
      (pss_one (ps_ret (pe_lst (pa_cons (pv 3) (pa_cons (pe_op op_mod (pe_op op_add (pe_op op_add (pv 2) (pe_op op_mul (pe_op op_mul pe_int (pv 1)) (pv 1))) pe_int) pe_int) (pa_cons pe_int pa_nil)))))))))), ?_⟩
    refine ⟨fun σ' H' => ∃ x : Int, σ' = [some (.ref a), some (.int k), some (.int x), none] ∧ Same H H', ?_, ?_⟩
    · refine ⟨.int k, rfl, .ref a, rfl, 63, rfl, a, _, rfl, hS, fun p np => ⟨p, _, rfl, .inl (SqL.of upd_same), k, _, rfl, rfl, _, rfl, ite2 (fun e => ?_) (fun e => ?_)⟩⟩
      · have hlt := of_decide_eq_true e
        have h2 := cutV_len (ns.map V.int)
        rw [List.length_map] at h2
        obtain ⟨x, _, _, hx⟩ := atI_ints (xs := ns) (i := k) (by omega) (by omega)
        exact ⟨.ref a, rfl, .int k, rfl, a, _, k, _, rfl, rfl, (same_new np).seq hS, hx, x, rfl, same_new np⟩
      · exact ⟨0, rfl, same_new np⟩
    rintro σ' H1 ⟨x, rfl, s1⟩
    refine ⟨fun σ' H' => ∃ y : Int, σ' = [some (.ref a), some (.int k), some (.int x), some (.int y)] ∧ H' = H1, ?_, ?_⟩
    · refine ⟨.int x, rfl, 10, 18, rfl, rfl, ⟨by decide, by decide, by decide⟩, x, _, rfl, rfl, _, rfl, ite2 (fun _ => ?_) (fun _ => ?_)⟩
      · exact ⟨.int x, rfl, x, rfl, rfl⟩
      · exact ⟨0, rfl, rfl⟩
    rintro σ' H2 ⟨y, rfl, rfl⟩
    refine ⟨.int y, rfl, .int x, rfl, .int k, rfl, 7919, k, rfl, rfl, .inl ⟨by decide, by decide⟩, .int k, rfl, _, k, rfl, rfl, .inr ⟨by omega, by omega⟩, _, _, rfl, rfl, _, 48271, rfl, rfl, _, 2147483629, rfl, rfl, show (0 : Int) < 2147483629 by decide, by show 3 ≤ sizeLine; decide, fun d nd => ?_⟩
    exact q d _ (s1.trans (same_new nd)) (s1.free nd) ⟨y, _, 3, upd_same, Nat.le_refl _⟩
theorem ok_l_web {f : Addr} {fd : FuncData} (F : Fun K "_law_web" "_law_web" s_l_web f fd) (M : Free mg) (Dd : Df P w K mg base 1 "_law_draw" ["_law_well_here", "_law_most"] spDraw) : FnOk P w K mg base CX0 2 f fd ["_law_well_here"] spWeb := by
  obtain ⟨fD, fdD, GD, gD, kD, bD⟩ := Dd
  refine F.ok sc_l_web (fun vs H Q E h => ?_) (fun cdv A outer s H vs Q E hr h => ?_)
  · obtain ⟨d, b, rfl, _⟩ := h
    rfl
  · obtain ⟨d, b, rfl, hD, hB, q⟩ := h
    refine ⟨_, (Evl.pss_cut (ps_set (i := 1) sc_l_web.nd rfl (.inl rfl) (pe_callTy call_int1 (by rfl) M.int (by decide +kernel) (pa_cons (pe_cmpR op_eq (pe_call GD hr (by rfl) gD kD bD .nil pass0 (pa_cons (pv 0) (pa_cons pe_int pa_nil))) pe_int (nomark _)) pa_nil)))
      (Evl.pss_cut (ps_set (i := 2) sc_l_web.nd rfl (.inl rfl) (pe_op op_add pe_int (pe_call GD hr (by rfl) gD kD bD .nil pass0 (pa_cons (pv 0) (pa_cons (pe_ix ix_list (pe_lst (pa_cons pe_int (pa_cons pe_int pa_nil))) (pv 1) (fun _ _ => rfl)) pa_nil)))))
      (pss_cons (ps_set (i := 3) sc_l_web.nd rfl (.inl rfl) (pe_lst pa_nil))
      (pss_cons (ps_for PassesOwn.never rfl (pi_range1 (by rfl) M.range (pa_cons (pe_op op_mul (pe_call GD hr (by rfl) gD kD bD .nil pass0 (pa_cons (pv 0) (pa_cons (pe_ix ix_list (pe_lst (pa_cons pe_int (pa_cons pe_int pa_nil))) (pv 1) (fun _ _ => rfl)) pa_nil))) (pe_callTy call_int1 (by rfl) M.int (by decide +kernel) (pa_cons (pe_cmpR op_gt (pv 2) pe_int (nomark _)) pa_nil))) pa_nil)) (pg_name (i := 4) sc_l_web.nd rfl (.inl rfl))
        (pss_cons (ps_set (i := 5) sc_l_web.nd rfl (.inl rfl) (pe_call GD hr (by rfl) gD kD bD .nil pass0 (pa_cons (pv 0) (pa_cons (pv 2) pa_nil))))
        (pss_cons (ps_set (i := 6) sc_l_web.nd rfl (.inl rfl) (pe_op op_mod (pe_op op_add (pe_op op_add (pv 5) pe_int) (pe_call GD hr (by rfl) gD kD bD .nil pass0 (pa_cons (pv 0) (pa_cons (pe_op op_sub (pv 2) pe_int) pa_nil)))) (pv 2)))
        (Evl.pss_cut (ps_if (PW.pt (pw_and (pt_cmpR (op_neE hr.units0) (pv 3) (pe_lst pa_nil) (nomark _)) (pw_and1 (pt_cmpR op_eq (pe_call GD hr (by rfl) gD kD bD .nil pass0 (pa_cons (pv 0) (pa_cons pe_int pa_nil))) pe_int (nomark _)))))
          (pss_cons (ps_asg (pe_ix ix_list (pv 3) (pe_call GD hr (by rfl) gD kD bD .nil pass0 (pa_cons (pv 0) (pa_cons (pe_callB call_len_seq (by rfl) M.len PySem.boot_len (pa_cons (pv 3) pa_nil)) pa_nil))) (fun _ _ => rfl)) (pg_tup rfl (pgs_cons (pg_name (i := 5) sc_l_web.nd rfl (.inl rfl)) (pgs_cons (pg_name (i := 6) sc_l_web.nd rfl (.inl rfl)) (pgs_cons (pg_name (i := 7) sc_l_web.nd rfl (.inl rfl)) pgs_nil)))))
          (pss_one (ps_if (pt_cmpR op_eq (pe_call GD hr (by rfl) gD kD bD .nil pass0 (pa_cons (pv 0) (pa_cons pe_int pa_nil))) pe_int (nomark _))
            (pss_one (ps_par (i := 5) (j := 6) rfl sc_l_web.nd rfl rfl (by decide) rfl rfl (pa_cons (pv 6) (pa_cons (pv 5) pa_nil)) rfl))
            pss_nil)))
          pss_nil)
        (pss_one (ps_expr (pe_bm PySem.F.plainAttrs_list PySem.F.slot_list_append PySem.F.type_list_append mt_append (pv 3) (pa_cons (pe_tup (pa_cons (pv 5) (pa_cons (pv 6) (pa_cons (pe_ix ix_list (pe_lst (pa_cons pe_str (pa_cons pe_str pa_nil))) (pe_call GD hr (by rfl) gD kD bD .nil pass0 (pa_cons (pv 0) (pa_cons pe_int pa_nil))) (fun _ _ => rfl)) pa_nil)))) pa_nil))))))))
      (pss_one (ps_ret (pe_tup (pa_cons (pv 2) (pa_cons (pe_callTy call_tuple_of (by rfl) M.tuple (by decide +kernel) (pa_cons (pv 3) pa_nil)) pa_nil))))))))), ?_⟩
    -- great
    refine ⟨fun σ' H' => ∃ g : Bool, σ' = [some (.ref d), some (.int (if g = true then 1 else 0)), none, none, none, none, none, none] ∧ Well H' d (b + 1) ∧ Kp d d H H', ⟨.ref d, rfl, d, b, 8, rfl, hD, by omega, by decide, by decide, fun v1 H1 a1 b1 D1 K1 => ⟨rfl, .inr ⟨_, rfl, _, rfl, D1, K1⟩⟩⟩, ?_⟩
    rintro σ' H1 ⟨g, rfl, D1, K1⟩
    -- many
    refine ⟨fun σ' H' => ∃ n : Int, σ' = [some (.ref d), some (.int (if g = true then 1 else 0)), some (.int n), none, none, none, none, none] ∧ 1 ≤ n ∧ n ≤ 40 ∧ Well H' d (b + 2) ∧ Kp d d H H', ?_, ?_⟩
    · refine ⟨.ref d, rfl, by show 2 ≤ sizeLine; decide, fun p np => ?_⟩
      cases g
      · exact ⟨.int 0, rfl, p, _, 0, .int 6, rfl, rfl, SqL.of upd_same, rfl, d, b + 1, 6, rfl, D1.new np, by omega, by decide, by decide, fun v H2 a b D2 K2 => ⟨1, v, rfl, rfl, _, rfl, by omega, by omega, D2, (K1.trans (Kp.new np)).trans K2⟩⟩
      · exact ⟨.int 1, rfl, p, _, 1, .int 40, rfl, rfl, SqL.of upd_same, rfl, d, b + 1, 40, rfl, D1.new np, by omega, by decide, by decide, fun v H2 a b D2 K2 => ⟨1, v, rfl, rfl, _, rfl, by omega, by omega, D2, (K1.trans (Kp.new np)).trans K2⟩⟩
    clear D1 K1 H1
    rintro σ' H1 ⟨n, rfl, hn1, hn2, D1, K1⟩
    obtain ⟨k, rfl⟩ : ∃ k : Nat, n = k := ⟨n.toNat, by omega⟩
    -- ties = []
    refine ⟨Nat.zero_le _, fun L nL => ?_⟩
    have hLd := D1.ned nL
    have nL0 := K1.free nL hLd hLd
    have s1 : Same H1 (upd H1 L (.lst [])) := same_new nL
    have hL1 : (upd H1 L (.lst [])) L = some (.lst []) := upd_same
    have K1' : Kp d d H (upd H1 L (.lst [])) := K1.trans (Kp.new nL)
    have D1' := D1.same s1
    generalize upd H1 L (.lst []) = H2 at s1 hL1 K1' D1'
    -- how many
    refine ⟨.ref d, rfl, by show 2 ≤ sizeLine; decide, fun p np => ?_⟩
    have cnt : ∃ m : Int, atI [V.int 13, V.int 121] (if g = true then 1 else 0) = some (.int m) ∧ 0 < m ∧ m ≤ 121 := by
      cases g
      · exact ⟨13, rfl, by decide, by decide⟩
      · exact ⟨121, rfl, by decide, by decide⟩
    obtain ⟨m, em, hm0, hm1⟩ := cnt
    refine ⟨_, rfl, p, _, _, _, rfl, rfl, SqL.of upd_same, em, d, b + 2, m, rfl, D1'.new np, by omega, hm0, by omega, fun v H3 a3 b3 D3 K3 => ?_⟩
    refine ⟨.int k, rfl, k, 1, rfl, rfl, .inr ⟨_, rfl, v, _, rfl, rfl, .inl ⟨by omega, by omega⟩, _, rfl, ?_, ?_, ?_⟩⟩
    · by_cases hb : decide ((1 : Int) < k) = true
      · rw [hb]
        show -(2 ^ 62) ≤ v * 1
        omega
      · rw [Bool.not_eq_true] at hb
        rw [hb]
        show -(2 ^ 62) ≤ v * 0
        omega
    · by_cases hb : decide ((1 : Int) < k) = true
      · rw [hb]
        show v * 1 < 2 ^ 62
        omega
      · rw [Bool.not_eq_true] at hb
        rw [hb]
        show v * 0 < 2 ^ 62
        omega
    generalize hN : (v * (if decide ((1 : Int) < k) = true then 1 else 0)).toNat = N
    have hN2 : N ≤ 120 ∧ (0 < N → (1 : Int) < k) := by
      by_cases hb : (1 : Int) < k
      · rw [if_pos (decide_eq_true hb)] at hN
        exact ⟨by omega, fun _ => hb⟩
      · rw [if_neg (by simpa using hb)] at hN
        exact ⟨by omega, fun z => by omega⟩
    have K3' : Kp d d H H3 := (K1'.trans (Kp.new np)).trans K3
    have hL3 : H3 L = some (.lst []) := K3 _ _ hLd hLd (same_new np _ _ hL1)
    refine for_range (lo := 0) (n := N) (fun i σ' H' => ∃ (y4 y5 y6 y7 : Option V) (vs : List V) (ts : List Tie), σ' = [some (.ref d), some (.int (if g = true then 1 else 0)), some (.int k), some (.ref L), y4, y5, y6, y7] ∧ H' L = some (.lst vs) ∧ Paired (TieV H') vs ts ∧ ts.length = i ∧ (∀ t ∈ ts, TieOk k t) ∧ Well H' d (b + 3 + 6 * i) ∧ Kp d d H H') ?_ ?_ ?_
    · exact ⟨none, none, none, none, [], [], rfl, hL3, .nil, rfl, fun t ht => by simp at ht, D3, K3'⟩
    · clear K3' hL3 D3 K3
      rintro i σ' H4 hi ⟨y4, y5, y6, y7, vs, ts, rfl, hL, hP, hlen, hok, D4, K4⟩
      have hn := hN2.2 (by omega)
      refine ⟨.ref d, rfl, .int k, rfl, d, b + 3 + 6 * i, k, rfl, D4, by omega, by omega, by omega, fun v1 H5 a1 b1 D5 K5 => ?_⟩
      refine ⟨.int v1, rfl, v1, 1, rfl, rfl, .ref d, rfl, .int k, rfl, k, 1, rfl, rfl, d, b + 3 + 6 * i + 1, k - 1, rfl, D5, by omega, by omega, by omega, fun v2 H6 a2 b2 D6 K6 => ⟨v1 + 1, v2, rfl, rfl, .int k, rfl, _, k, rfl, rfl, show (0 : Int) < k by omega, ?_⟩⟩
      have hL6 : H6 L = some (.lst vs) := K6 _ _ hLd hLd (K5 _ _ hLd hLd hL)
      have hP6 : Paired (TieV H6) vs ts := ties_tk ((K5.tk D4).trans (K6.tk D5)) hP
      have K46 : Kp d d H H6 := (K4.trans K5).trans K6
      -- as one ahead, either way about
      refine ⟨fun σ' H' => ∃ (y4 y7 : Option V) (t' : Tie), σ' = [some (.ref d), some (.int (if g = true then 1 else 0)), some (.int k), some (.ref L), y4, some (.int t'.one), some (.int t'.other), y7] ∧ TieOk k t' ∧ H' L = some (.lst vs) ∧ Paired (TieV H') vs ts ∧ Well H' d (b + 3 + 6 * i + 5) ∧ Kp d d H H', ?_, ?_⟩
      · have ok1 : TieOk k ⟨v1, (v1 + 1 + v2) % k, false⟩ := ⟨a1, b1, (mod_rng (by omega)).1, (mod_rng (by omega)).2, other_ne a1 b1 a2 b2⟩
        refine ⟨.ref L, rfl, Nat.zero_le _, fun p np => ⟨L, p, vs, rfl, rfl, SqL.of (same_new np _ _ hL6), SqL.of upd_same, _, rfl, ?_⟩⟩
        by_cases hvs : vs = []
        · subst hvs
          exact ⟨_, _, ⟨v1, (v1 + 1 + v2) % k, false⟩, rfl, ok1, same_new np _ _ hL6, ties_tk (Same.tk (same_new np)) hP6, (D6.new np).mono (by omega), K46.trans (Kp.new np)⟩
        · have hpos : 0 < vs.length := List.length_pos_iff.mpr hvs
          have hb : (!vs.isEmpty) = true := by
            cases vs with
            | nil => exact absurd rfl hvs
            | cons z zs => rfl
          rw [hb]
          refine ⟨.ref d, rfl, d, _, 4, rfl, D6.new np, by omega, by decide, by decide, fun v3 H7 a3 b3 D7 K7 => ⟨rfl, _, rfl, ?_⟩⟩
          have hL7 : H7 L = some (.lst vs) := K7 _ _ hLd hLd (same_new np _ _ hL6)
          have hP7 : Paired (TieV H7) vs ts := ties_tk (K7.tk (D6.new np)) (ties_tk (Same.tk (same_new np)) hP6)
          have K17 : Kp d d H H7 := (K46.trans (Kp.new np)).trans K7
          refine ite2 (fun _ => ?_) (fun _ => ?_)
          · have hlv : vs.length = ts.length := Paired.length hP7
            refine ⟨.ref L, rfl, .ref d, rfl, .ref L, rfl, L, vs, rfl, .inl (SqL.of hL7), d, _, vs.length, rfl, D7, by omega, by omega, by omega, fun v4 H8 a4 b4 D8 K8 => ?_⟩
            have hL8 : H8 L = some (.lst vs) := K8 _ _ hLd hLd hL7
            have hP8 : Paired (TieV H8) vs ts := ties_tk (K8.tk D7) hP7
            obtain ⟨v, e1, e2⟩ := getI a4 b4
            obtain ⟨t', e3, a, rfl, e4⟩ := Paired.at hP8 e2
            have okt : TieOk k t' := hok t' (List.mem_of_getElem? e3)
            refine ⟨L, vs, v4, _, rfl, rfl, SqL.of hL8, e1, a, _, rfl, SqT.of e4, rfl, _, _, rfl, _, _, rfl, _, _, rfl, rfl, ?_⟩
            refine ⟨.ref d, rfl, d, _, 2, rfl, D8, by omega, by decide, by decide, fun v5 H9 a5 b5 D9 K9 => ⟨rfl, _, rfl, ?_⟩⟩
            have hL9 : H9 L = some (.lst vs) := K9 _ _ hLd hLd hL8
            have hP9 : Paired (TieV H9) vs ts := ties_tk (K9.tk D8) hP8
            have K19 : Kp d d H H9 := (K17.trans K8).trans K9
            refine ite2 (fun _ => ?_) (fun _ => ?_)
            · exact ⟨.int t'.other, rfl, .int t'.one, rfl, _, _, rfl, _, _, ⟨t'.other, t'.one, false⟩, rfl, ⟨okt.2.2.1, okt.2.2.2.1, okt.1, okt.2.1, Ne.symm okt.2.2.2.2⟩, hL9, hP9, D9, K19⟩
            · exact ⟨_, _, t', rfl, okt, hL9, hP9, D9, K19⟩
          · exact ⟨_, _, ⟨v1, (v1 + 1 + v2) % k, false⟩, rfl, ok1, hL7, hP7, D7.mono (by omega), K17⟩
      clear hL6 hP6 K46 D6 K6 K5 D5
      rintro σ' H6 ⟨y4', y7', t', rfl, okt, hL6, hP6, D6, K6⟩
      -- append
      refine ⟨.ref L, rfl, .inl ⟨rfl, _, SqL.of hL6⟩, .int t'.one, rfl, .int t'.other, rfl, by show 2 ≤ sizeLine; decide, fun p np => ?_⟩
      refine ⟨.ref d, rfl, d, _, 2, rfl, D6.new np, by omega, by decide, by decide, fun v7 H7 a7 b7 D7 K7 => ?_⟩
      have hp : p ≠ d := D6.ned np
      have fo : ∃ fo : Bool, atI [V.str "friend", V.str "foe"] v7 = some (.str (kindS fo)) := by
        have h01 : v7 = 0 ∨ v7 = 1 := by omega
        rcases h01 with e | e <;> subst e
        · exact ⟨false, rfl⟩
        · exact ⟨true, rfl⟩
      obtain ⟨fo, e5⟩ := fo
      refine ⟨p, _, v7, _, rfl, rfl, SqL.of (K7 _ _ hp hp upd_same), e5, by show 3 ≤ sizeLine; decide, fun q2 nq => ?_⟩
      have hL7 := same_new (o := .tup [.int t'.one, .int t'.other, .str (kindS fo)]) nq _ _ (K7 _ _ hLd hLd (same_new np _ _ hL6))
      have hP7 := ties_tk (Same.tk (same_new (o := .tup [.int t'.one, .int t'.other, .str (kindS fo)]) nq)) (ties_tk (K7.tk (D6.new np)) (ties_tk (Same.tk (same_new (o := .lst [.str "friend", .str "foe"]) np)) hP6))
      have hlv : vs.length = ts.length := Paired.length hP6
      refine ⟨L, vs, _, rfl, rfl, hL7, small1000 (by omega), ?_⟩
      refine ⟨_, _, _, _, vs ++ [.ref q2], ts ++ [⟨t'.one, t'.other, fo⟩], rfl, upd_same, Paired.snoc (ties_tk (tk_lst hL7) hP7) ⟨q2, rfl, tk_lst hL7 _ _ upd_same⟩, by rw [List.length_append, hlen]; rfl, fun t2 ht => ?_, ((D7.new nq).mut hLd).mono (by omega), (((K6.trans (Kp.new np)).trans K7).trans (Kp.new nq)).mut nL0⟩
      rcases List.mem_append.mp ht with h | h
      · exact hok t2 h
      · rw [List.mem_singleton.mp h]
        exact okt
    · rintro σ' H4 ⟨y4, y5, y6, y7, vs, ts, rfl, hL, hP, hlen, hok, D4, K4⟩
      refine ⟨.int k, rfl, .ref L, rfl, L, vs, rfl, .inl ⟨SqL.of hL, fun b nb => ⟨by show 2 ≤ sizeLine; decide, fun a na => ?_⟩⟩⟩
      have s2 := (same_new (o := .tup vs) nb).trans (same_new (o := .tup [.int k, .ref b]) na)
      exact q _ k ts _ ⟨a, b, vs, rfl, upd_same, same_new na _ _ upd_same, ties_tk (Same.tk s2) hP⟩ ⟨hn1, hn2, by omega, hok⟩ ((D4.same s2).mono (by omega)) (K4.trans (Same.kp s2))
end
/-! ### tuples cut and put together -/
section
variable {X : Cx}
theorem cutV_whole {xs : List V} {lo hi : Option Int} (h : HT.sIx xs.length 0 lo = 0 ∧ HT.sIx xs.length xs.length hi = xs.length) : cutV xs lo hi = xs := by
  unfold cutV
  rw [h.1, h.2]
  simp
def rSlU : V → Option Int → Option Int → Hp → VK → Prop := fun x lo hi H Q => ∃ a xs, x = .ref a ∧ H a = some (.tup xs) ∧ ∀ r H', Same H H' → H' r = some (.tup (cutV xs lo hi)) → Q (.ref r) H'
theorem sl_tupU : SlR X rSlU := by
  intro pins s σ H x v vl vu lo hi sl Q I rx hs pl pu h
  obtain ⟨a, xs, rfl, hx, q⟩ := h
  refine sl_tupA pins s σ H _ v vl vu lo hi sl Q I rx hs pl pu ⟨a, xs, rfl, SqT.of hx, fun hw => ?_, fun _ p np => ?_⟩
  · exact q a H (Same.refl H) (by rw [cutV_whole hw]; exact hx)
  · exact q p _ (same_new np) upd_same
def rCatU : R2 := fun x y H Q => ∃ a b xs ys, x = .ref a ∧ y = .ref b ∧ H a = some (.tup xs) ∧ H b = some (.tup ys) ∧ xs.length + ys.length ≤ 100000 ∧ ∀ r H', Same H H' → H' r = some (.tup (xs ++ ys)) → Q (.ref r) H'
theorem op_catU : OpR X (binaryOp .Add) rCatU := by
  intro pins s σ H x y v u Q I rx ry h
  obtain ⟨a, b, xs, ys, rfl, rfl, ha, hb, hz, q⟩ := h
  refine op_catA pins s σ H _ _ v u Q I rx ry ⟨a, b, xs, ys, rfl, rfl, SqT.of ha, SqT.of hb, Evl.sz_of hz, fun e => ?_, fun _ e => ?_, fun _ _ p np => ?_⟩
  · subst e
    exact q b H (Same.refl H) hb
  · subst e
    exact q a H (Same.refl H) (by rw [List.append_nil]; exact ha)
  · exact q p _ (same_new np) upd_same
end
/-! ### things of any kind -/
def NoD (H : Hp) (p : Addr) (xs : List V) : Prop := ∃ o : Obj, o.dict = none ∧ H p = some (.frz o (.tup xs))
theorem NoD.same {H H' : Hp} {p : Addr} {xs : List V} (h : NoD H p xs) (s : Same H H') : NoD H' p xs := by
  obtain ⟨o, h1, h2⟩ := h
  exact ⟨o, h1, s _ _ h2⟩
theorem NoD.sq {K : PySem.W.Frag} {H : Hp} {p : Addr} {xs : List V} (h : NoD H p xs) : SqT K H p xs := by
  obtain ⟨o, h1, h2⟩ := h
  exact .inl (.inr ⟨o, h2⟩)
/-- a tuple -/
def TupA (H : Hp) (a : Addr) (xs : List V) : Prop := H a = some (.tup xs) ∨ NoD H a xs
theorem TupA.same {H H' : Hp} {p : Addr} {xs : List V} (h : TupA H p xs) (s : Same H H') : TupA H' p xs := h.elim (fun h => .inl (s _ _ h)) (fun h => .inr (h.same s))
theorem TupA.sq {K : PySem.W.Frag} {H : Hp} {p : Addr} {xs : List V} (h : TupA H p xs) : SqT K H p xs := h.elim SqT.of NoD.sq
theorem TupA.tyx {K : PySem.W.Frag} {H : Hp} {p : Addr} {xs : List V} (h : TupA H p xs) : TyX K H (.ref p) (.type "tuple") := by
  rcases h with h | ⟨o, _, h⟩
  · exact .base (.tup h)
  · exact .fTuple h
/-- its kind is known -/
def Kn (H : Hp) : V → Prop
  | .non => True
  | .bl _ => True
  | .int _ => True
  | .str _ => True
  | .ref a => (∃ xs, H a = some (.lst xs)) ∨ (∃ xs, TupA H a xs) ∨ ∃ kvs, H a = some (.dK kvs)
  | _ => False
def isI : V → Bool
  | .int _ => true
  | .bl _ => true
  | _ => false
def isB : V → Bool
  | .bl _ => true
  | _ => false
def isW : V → Bool
  | .int _ => true
  | _ => false
def isT (H : Hp) : V → Bool
  | .ref a => match H a with
    | some (.tup _) => true
    | some (.frz o (.tup _)) => o.dict.isNone
    | _ => false
  | _ => false
section
variable {K : PySem.W.Frag} {H : Hp}
theorem kn_int {v : V} (h : Kn H v) : ∃ t, TyX K H v t ∧ PySem.W.kitOne K t (.type "int") = some (isI v) := by
  cases v with
  | non => exact ⟨_, .base .non, kit_ty (r := false) (by decide +kernel)⟩
  | bl b => exact ⟨_, .base (.bl b), kit_ty (r := true) (by decide +kernel)⟩
  | int i => exact ⟨_, .base (.int i), kit_ty (r := true) (by decide +kernel)⟩
  | str x => exact ⟨_, .base (.str x), kit_ty (r := false) (by decide +kernel)⟩
  | ref a =>
    rcases h with ⟨xs, h⟩ | ⟨xs, h⟩ | ⟨xs, h⟩
    · exact ⟨_, .base (.lst h), kit_ty (r := false) (by decide +kernel)⟩
    · exact ⟨_, h.tyx, kit_ty (r := false) (by decide +kernel)⟩
    · exact ⟨_, .base (.dK h), kit_ty (r := false) (by decide +kernel)⟩
  | byt b => exact h.elim
  | flt b => exact h.elim
  | ty n => exact h.elim
theorem kn_bool {v : V} (h : Kn H v) : ∃ t, TyX K H v t ∧ PySem.W.kitOne K t (.type "bool") = some (isB v) := by
  cases v with
  | non => exact ⟨_, .base .non, kit_ty (r := false) (by decide +kernel)⟩
  | bl b => exact ⟨_, .base (.bl b), kit_ty (r := true) (by decide +kernel)⟩
  | int i => exact ⟨_, .base (.int i), kit_ty (r := false) (by decide +kernel)⟩
  | str x => exact ⟨_, .base (.str x), kit_ty (r := false) (by decide +kernel)⟩
  | ref a =>
    rcases h with ⟨xs, h⟩ | ⟨xs, h⟩ | ⟨xs, h⟩
    · exact ⟨_, .base (.lst h), kit_ty (r := false) (by decide +kernel)⟩
    · exact ⟨_, h.tyx, kit_ty (r := false) (by decide +kernel)⟩
    · exact ⟨_, .base (.dK h), kit_ty (r := false) (by decide +kernel)⟩
  | byt b => exact h.elim
  | flt b => exact h.elim
  | ty n => exact h.elim
theorem kn_tup {v : V} (h : Kn H v) : ∃ t, TyX K H v t ∧ PySem.W.kitOne K t (.type "tuple") = some (isT H v) := by
  cases v with
  | non => exact ⟨_, .base .non, kit_ty (r := false) (by decide +kernel)⟩
  | bl b => exact ⟨_, .base (.bl b), kit_ty (r := false) (by decide +kernel)⟩
  | int i => exact ⟨_, .base (.int i), kit_ty (r := false) (by decide +kernel)⟩
  | str x => exact ⟨_, .base (.str x), kit_ty (r := false) (by decide +kernel)⟩
  | ref a =>
    unfold isT
    rcases h with ⟨xs, h⟩ | ⟨xs, h⟩ | ⟨xs, h⟩
    · exact ⟨_, .base (.lst h), by simp only [h]; exact kit_ty (r := false) (by decide +kernel)⟩
    · rcases h with h | ⟨o, od, h⟩
      · exact ⟨_, .base (.tup h), by simp only [h]; exact kit_ty (r := true) (by decide +kernel)⟩
      · exact ⟨_, .fTuple h, by simp only [h, od, Option.isNone]; exact kit_ty (r := true) (by decide +kernel)⟩
    · exact ⟨_, .base (.dK h), by simp only [h]; exact kit_ty (r := false) (by decide +kernel)⟩
  | byt b => exact h.elim
  | flt b => exact h.elim
  | ty n => exact h.elim
theorem isT_at {v : V} (h : isT H v = true) : ∃ a xs, v = .ref a ∧ TupA H a xs := by
  cases v with
  | ref a =>
    unfold isT at h
    cases e : H a with
    | none => simp only [e] at h; cases h
    | some o =>
      cases o with
      | tup xs => exact ⟨a, xs, rfl, .inl e⟩
      | frz o u =>
        cases u with
        | tup xs =>
          simp only [e] at h
          cases od : o.dict with
          | none => exact ⟨a, xs, rfl, .inr ⟨o, od, e⟩⟩
          | some d => rw [od] at h; cases h
        | _ => simp only [e] at h; cases h
      | _ => simp only [e] at h; cases h
  | _ => cases h
theorem isT_of {a : Addr} {xs : List V} (h : TupA H a xs) : isT H (.ref a) = true := by
  unfold isT
  rcases h with h | ⟨o, od, h⟩
  · simp only [h]
  · simp only [h, od, Option.isNone]
end
section
variable {P : Program} {w : World} {K : PySem.W.Frag} {mg : Str → Option Value} {base : Heap}
def spWhole : Sp := fun vs H Q _ => ∃ v, vs = [v] ∧ Kn H v ∧ Q (.bl (isW v)) H
theorem and_whole {v : V} : (isI v && !isB v) = isW v := by cases v <;> rfl
/-! ### tuples cut and put together: those that are known to have no dict stay so -/
section
variable {X : Cx}
def rSlQ : V → Option Int → Option Int → Hp → VK → Prop := fun x lo hi H Q => ∃ a xs, x = .ref a ∧ TupA H a xs ∧ ∀ r H', Same H H' → TupA H' r (cutV xs lo hi) → (NoD H a xs → NoD H' r (cutV xs lo hi)) → Q (.ref r) H'
theorem sl_tupQ : SlR X rSlQ := by
  intro pins s σ H x v vl vu lo hi sl Q I rx hs pl pu h
  obtain ⟨a, xs, rfl, hx, q⟩ := h
  cases rx
  obtain ⟨its, r, ht, hz⟩ := I.tuple (hx.sq (K := X.K))
  have hlen : its.toArray.size = xs.length := by rw [List.size_toArray]; exact r.length.symm
  by_cases hw : HT.sIx xs.length 0 lo = 0 ∧ HT.sIx xs.length xs.length hi = xs.length
  · refine ⟨"tuple", _, PyProof.Rows.slot_tuple_getitem.lookup, ht.typeIs, ?_⟩
    have e := cutV_whole hw
    exact getItem_tuple_whole ht hs pl pu (by rw [hlen]; exact hw) ⟨.ref a, H, I, rfl, q a H (Same.refl H) (by rw [e]; exact hx) (fun z => by rw [e]; exact z)⟩
  · refine ⟨"tuple", _, PyProof.Rows.slot_tuple_getitem.lookup, ht.typeIs, ?_⟩
    refine HT.getItem_tuple_cut ht hs pl pu (by rw [hlen]; exact hw) ?_ (by rw [hlen]; exact hz)
    rw [hlen]
    refine ⟨.ref s.heap.objs.size, upd H s.heap.objs.size (.frz _ (.tup (cutV xs lo hi))), I.laid (t' := s.toks) (o := .frz _ (.tup (cutV xs lo hi))) (fun b ob q => Heap.get?_push_of_some _ q) (Nat.le_refl _) ⟨Heap.get?_push_size _ rfl, Nat.le_trans (cutV_length xs lo hi) hz, _, (r.drop (HT.sIx xs.length 0 lo)).take (HT.sIx xs.length xs.length hi - HT.sIx xs.length 0 lo), IsTup.new _ _⟩, rfl, q _ _ (same_new (I.hok.fresh (Nat.le_refl _))) (.inr ⟨_, ?_, upd_same⟩) (fun _ => ⟨_, ?_, upd_same⟩)⟩
    · rfl
    · rfl
def rCatQ : R2 := fun x y H Q => ∃ a b xs ys, x = .ref a ∧ y = .ref b ∧ TupA H a xs ∧ TupA H b ys ∧ xs.length + ys.length ≤ 100000 ∧ ∀ r H', Same H H' → TupA H' r (xs ++ ys) → (NoD H a xs → NoD H b ys → NoD H' r (xs ++ ys)) → Q (.ref r) H'
theorem op_catQ : OpR X (binaryOp .Add) rCatQ := by
  intro pins s σ H x y v u Q I rx ry h
  obtain ⟨a, b, xs, ys, rfl, rfl, ha, hb, hz, q⟩ := h
  cases rx
  cases ry
  have hz := Evl.sz_of hz
  obtain ⟨its, r1, p1, _⟩ := I.tuple (ha.sq (K := X.K))
  obtain ⟨its2, r2, p2, _⟩ := I.tuple (hb.sq (K := X.K))
  by_cases hx : xs = []
  · subst hx
    cases r1
    exact cat_tup0 p1 p2 ⟨.ref b, H, I, rfl, q b H (Same.refl H) hb (fun _ z => z)⟩
  · refine HT.cat_tup p1 p2 (fun z => hx (r1.nil_iff.mp z)) (fun z => ?_) (fun z => ?_) (by rw [← r1.length, ← r2.length]; exact hz)
    · obtain rfl := r2.nil_iff.mp z
      exact ⟨.ref a, H, I, rfl, q a H (Same.refl H) (by rw [List.append_nil]; exact ha) (fun z _ => by rw [List.append_nil]; exact z)⟩
    · refine ⟨.ref s.heap.objs.size, upd H s.heap.objs.size (.frz _ (.tup (xs ++ ys))), I.laid (t' := s.toks) (o := .frz _ (.tup (xs ++ ys))) (fun b ob q => Heap.get?_push_of_some _ q) (Nat.le_refl _) ⟨Heap.get?_push_size _ rfl, by rw [List.length_append]; exact hz, _, r1.append r2, IsTup.new _ _⟩, rfl, q _ _ (same_new (I.hok.fresh (Nat.le_refl _))) (.inr ⟨_, ?_, upd_same⟩) (fun _ _ => ⟨_, ?_, upd_same⟩)⟩
      · rfl
      · rfl
end
theorem ok_is_whole {f : Addr} {fd : FuncData} (F : Fun K "is_whole" "is_whole" s_is_whole f fd) (M : Free mg) : FnOk P w K mg base CX0 1 f fd ["thing"] spWhole := by
  refine F.ok sc_is_whole (fun vs H Q E h => ?_) (fun cdv A outer s H vs Q E hr h => ?_)
  · obtain ⟨v, rfl, _⟩ := h
    rfl
  · obtain ⟨v, rfl, hk, q⟩ := h
    refine ⟨_, (pss_one (ps_ret (pe_and (pe_callB call_isi (by rfl) M.isinstance (by decide +kernel) (pa_cons (pv 0) (pa_cons (pe_bltn (v := .ty "int") (by rfl) M.int (by decide +kernel) rfl) pa_nil))) (pe_one (pe_not (pe_callB call_isi (by rfl) M.isinstance (by decide +kernel) (pa_cons (pv 0) (pa_cons (pe_bltn (v := .ty "bool") (by rfl) M.bool (by decide +kernel) rfl) pa_nil)))))))), ?_⟩
    obtain ⟨t1, h1, e1⟩ := kn_int (K := K) hk
    obtain ⟨t2, h2, e2⟩ := kn_bool (K := K) hk
    refine ⟨v, rfl, v, _, t1, _, _, rfl, .ty "int", h1, e1, _, rfl, ?_⟩
    rw [← and_whole] at q
    cases hi : isI v with
    | false =>
      rw [hi] at q
      exact q
    | true =>
      rw [hi] at q
      exact ⟨v, rfl, v, _, t2, _, _, rfl, .ty "bool", h2, e2, _, rfl, q⟩
def wfrom (lo : Int) : V → Bool
  | .int i => decide (lo ≤ i)
  | _ => false
def parts (H : Hp) : V → Option (List V)
  | .ref a => match H a with
    | some (.tup xs) => some xs
    | some (.frz o (.tup xs)) => if o.dict.isNone then some xs else none
    | _ => none
  | _ => none
theorem parts_of' {H : Hp} {a : Addr} {xs : List V} (h : TupA H a xs) : parts H (.ref a) = some xs := by
  unfold parts
  rcases h with h | ⟨o, od, h⟩
  · simp only [h]
  · simp only [h, od, Option.isNone, if_true]
theorem parts_none {H : Hp} {v : V} (h : isT H v = false) : parts H v = none := by
  cases v with
  | ref a =>
    unfold isT at h
    unfold parts
    cases e : H a with
    | none => simp only [e]
    | some o =>
      cases o with
      | tup xs => simp only [e] at h; cases h
      | frz o u =>
        cases u with
        | tup xs =>
          simp only [e] at h ⊢
          rw [if_neg (by rw [h]; decide)]
        | _ => simp only [e]
      | _ => simp only [e]
  | _ => rfl
def lenIs (H : Hp) (v : V) (n : Int) : Bool := match parts H v with
  | some xs => decide ((xs.length : Int) = n)
  | none => false
def spTupleOf : Sp := fun vs H Q _ => ∃ n v, vs = [.int n, v] ∧ Kn H v ∧ Q (.bl (lenIs H v n)) H
theorem dec_int (a b : Int) : decide (V.int a = V.int b) = decide (a = b) := by
  by_cases h : a = b
  · rw [decide_eq_true h, h, decide_eq_true rfl]
  · rw [decide_eq_false h, decide_eq_false (fun z => h (V.int.inj z))]
theorem ok_is_tuple_of {f : Addr} {fd : FuncData} (F : Fun K "is_tuple_of" "is_tuple_of" s_is_tuple_of f fd) (M : Free mg) : FnOk P w K mg base CX0 1 f fd ["length", "thing"] spTupleOf := by
  refine F.ok sc_is_tuple_of (fun vs H Q E h => ?_) (fun cdv A outer s H vs Q E hr h => ?_)
  · obtain ⟨n, v, rfl, _⟩ := h
    rfl
  · obtain ⟨n, v, rfl, hk, q⟩ := h
    refine ⟨_, (pss_one (ps_ret (pe_and (pe_callB call_isi (by rfl) M.isinstance (by decide +kernel) (pa_cons (pv 1) (pa_cons (pe_bltn (v := .ty "tuple") (by rfl) M.tuple (by decide +kernel) rfl) pa_nil))) (pe_one (pe_cmpR op_eq (pe_callB call_len_seq (by rfl) M.len PySem.boot_len (pa_cons (pv 1) pa_nil)) (pv 0) (nomark _)))))), ?_⟩
    obtain ⟨t1, h1, e1⟩ := kn_tup (K := K) hk
    refine ⟨v, rfl, v, _, t1, _, _, rfl, .ty "tuple", h1, e1, _, rfl, ?_⟩
    unfold lenIs at q
    cases hi : isT H v with
    | false =>
      rw [parts_none hi] at q
      exact q
    | true =>
      obtain ⟨a, xs, rfl, e⟩ := isT_at hi
      rw [parts_of' e] at q
      refine ⟨.ref a, rfl, a, xs, rfl, .inr (e.sq), .int n, rfl, rfl, ?_⟩
      rw [dec_int]
      exact q
/-! ### a def whose code object stands at c: its own table is at Pt -/
structure FunC (K : PySem.W.Frag) (x qual : Str) (st : Stmt) (f : Addr) (fd : FuncData) (c : Addr) : Prop where
  ex : ∃ (oc : Value) (od : Option Addr) (kV doc pm : Value) (an : Option Addr) (ct : Value) (osl : Array (Option Value)),
    fd = PySem.W.fnOf x qual (defArgs st) (defBody st) (defScope st) .none kV doc pm an (.ref c) ct ∧ K.lookup f = some ⟨oc, od, .func fd, osl⟩ ∧ PySem.W.codeIn K (.ref c) qual = true
  kp : PySem.W.keepIn K (.ref f) = true
theorem FunC.ok {x qual : Str} {st : Stmt} {f c : Addr} {fd : FuncData} {N ps : List Str} {k : Nat} {sp : Sp} (F : FunC K x qual st f fd c) (S : FnScope N ps (defScope st)) (len : ∀ vs H Q E, sp vs H Q E → vs.length = ps.length)
    (hbody : ∀ (A : Around) (outer : List Env) (s : Shared) (H : Hp) (vs : List V) (Q : VK) (E : XK), Room k (A.deeper (envOfC qual (defScope st) s.heap.objs.size f (.ref c))) → sp vs H Q E →
      ∃ t, PSs (cxOf CX0 P w K mg base N qual (defScope st) f (.ref c) A outer s H E).nox (defBody st) t ∧ t { nx := fun _ H' => Q .non H', rt := Q } (start N vs) H) : FnOk P w K mg base CX0 (k + 1) f fd ps sp := by
  obtain ⟨oc, od, kV, doc, pm, an, ct, osl, rfl, lk, hcd⟩ := F.ex
  refine fn_of lk hcd S len fun A outer s H vs Q E hr hsp => ?_
  obtain ⟨t, h, q⟩ := hbody A outer s H vs Q E hr hsp
  exact ⟨t, h.nox, q⟩
theorem FunC.fn {x qual : Str} {st : Stmt} {f c : Addr} {fd : FuncData} (F : FunC K x qual st f fd c) : Fun K x qual st f fd := by
  obtain ⟨oc, od, kV, doc, pm, an, ct, osl, rfl, lk, hcd⟩ := F.ex
  exact ⟨⟨oc, od, kV, doc, pm, an, _, ct, osl, rfl, lk, hcd⟩, F.kp⟩
theorem parts_at {H : Hp} {v : V} {xs : List V} (h : parts H v = some xs) : ∃ a, v = .ref a ∧ TupA H a xs := by
  cases v with
  | ref a =>
    unfold parts at h
    cases e : H a with
    | none => simp only [e] at h; cases h
    | some o =>
      cases o with
      | tup ys => simp only [e] at h; cases h; exact ⟨a, rfl, .inl e⟩
      | frz o u =>
        cases u with
        | tup ys =>
          simp only [e] at h
          cases od : o.dict with
          | none => rw [od] at h; cases h; exact ⟨a, rfl, .inr ⟨o, od, e⟩⟩
          | some d => rw [od] at h; cases h
        | _ => simp only [e] at h; cases h
      | _ => simp only [e] at h; cases h
  | _ => cases h
end
/-! ### all but the tables is kept -/
structure Kt (Ps : List Addr) (H H' : Hp) : Prop where
  tab : ∀ P ∈ Ps, GxR.TabG H' P
  keep : ∀ b o, b ∉ Ps → H b = some o → H' b = some o
def Tabs (Ps : List Addr) (H : Hp) : Prop := ∀ P ∈ Ps, GxR.TabG H P
theorem Kt.refl {Ps : List Addr} {H : Hp} (h : Tabs Ps H) : Kt Ps H H := ⟨h, fun _ _ _ e => e⟩
theorem Kt.trans {Ps : List Addr} {H H1 H2 : Hp} (a : Kt Ps H H1) (b : Kt Ps H1 H2) : Kt Ps H H2 := ⟨b.tab, fun x o h e => b.keep x o h (a.keep x o h e)⟩
theorem Kt.same {Ps : List Addr} {H H' : Hp} (h : Tabs Ps H) (s : Same H H') : Kt Ps H H' := ⟨fun P hP => by obtain ⟨ps, e, t⟩ := h P hP; exact ⟨ps, s _ _ e, t⟩, fun b o _ e => s b o e⟩
theorem Kt.tabbed {Ps : List Addr} {P : Addr} {H H' : Hp} (h : Tabs Ps H) (hP : P ∈ Ps) (t : GxR.Tabbed P H H') : Kt Ps H H' := by
  refine ⟨fun Q hQ => ?_, fun b o hb e => ?_⟩
  · by_cases e : Q = P
    · rw [e]
      exact t.1
    · obtain ⟨ps, e1, t1⟩ := h Q hQ
      exact ⟨ps, by rw [t.2 Q e]; exact e1, t1⟩
  · rw [t.2 b (fun z => hb (by rw [z]; exact hP))]
    exact e
theorem Tabs.out {Ps : List Addr} {H : Hp} {a : Addr} {o : HO} (t : Tabs Ps H) (h : H a = some o) (no : ∀ ps, o ≠ .tbl ps) : a ∉ Ps := fun z => by
  obtain ⟨ps, e, _⟩ := t a z
  rw [e] at h
  cases h
  exact no _ rfl
theorem Kt.tup {Ps : List Addr} {a : Addr} {H H' : Hp} {xs : List V} (k : Kt Ps H H') (t : Tabs Ps H) (h : H a = some (.tup xs)) : H' a = some (.tup xs) := k.keep a _ (t.out h fun _ z => by cases z) h
theorem Kt.lst {Ps : List Addr} {a : Addr} {H H' : Hp} {xs : List V} (k : Kt Ps H H') (t : Tabs Ps H) (h : H a = some (.lst xs)) : H' a = some (.lst xs) := k.keep a _ (t.out h fun _ z => by cases z) h
theorem Kt.dct {Ps : List Addr} {a : Addr} {H H' : Hp} {xs : List (Key × V)} (k : Kt Ps H H') (t : Tabs Ps H) (h : H a = some (.dK xs)) : H' a = some (.dK xs) := k.keep a _ (t.out h fun _ z => by cases z) h
theorem Kt.tk {Ps : List Addr} {H H' : Hp} (k : Kt Ps H H') (t : Tabs Ps H) : Tk H H' := fun _ _ e => k.tup t e
theorem NoD.kt {Ps : List Addr} {H H' : Hp} {p : Addr} {xs : List V} (h : NoD H p xs) (k : Kt Ps H H') (t : Tabs Ps H) : NoD H' p xs := by
  obtain ⟨o, h1, h2⟩ := h
  exact ⟨o, h1, k.keep _ _ (t.out h2 fun _ z => by cases z) h2⟩
theorem TupA.kt {Ps : List Addr} {H H' : Hp} {p : Addr} {xs : List V} (h : TupA H p xs) (k : Kt Ps H H') (t : Tabs Ps H) : TupA H' p xs := h.elim (fun h => .inl (k.tup t h)) (fun h => .inr (h.kt k t))
theorem Kt.kn {Ps : List Addr} {H H' : Hp} (k : Kt Ps H H') (t : Tabs Ps H) {v : V} (h : Kn H v) : Kn H' v := by
  cases v with
  | ref a =>
    rcases h with ⟨xs, h⟩ | ⟨xs, h⟩ | ⟨xs, h⟩
    · exact .inl ⟨xs, k.lst t h⟩
    · exact .inr (.inl ⟨xs, h.kt k t⟩)
    · exact .inr (.inr ⟨xs, k.dct t h⟩)
  | _ => exact h
theorem Kt.well {Ps : List Addr} {d : Addr} {b : Nat} {H H' : Hp} (k : Kt Ps H H') (t : Tabs Ps H) (D : Well H d b) : Well H' d b := by
  obtain ⟨g, st, n, e1, e2⟩ := D
  exact ⟨g, st, n, k.lst t e1, e2⟩
theorem Tabs.kp {Ps : List Addr} {d : Addr} {b : Nat} {H H' : Hp} (t : Tabs Ps H) (k : Kp d d H H') (D : Well H d b) : Tabs Ps H' := fun P hP => by
  obtain ⟨ps, e, x⟩ := t P hP
  obtain ⟨g, st, n, e1, e2⟩ := D
  have ne : P ≠ d := ne_of e e1 (by intro z; cases z)
  exact ⟨ps, k _ _ ne ne e, x⟩
theorem Tabs.same {Ps : List Addr} {H H' : Hp} (t : Tabs Ps H) (s : Same H H') : Tabs Ps H' := (Kt.same t s).tab
theorem Tabs.new {Ps : List Addr} {H : Hp} {a : Addr} {o : HO} (t : Tabs Ps H) (h : H a = none) : Tabs Ps (upd H a o) := t.same (same_new h)
/-! ### x in t of data of any depth -/
def rInT (K : PySem.W.Frag) : R2 := fun x y H Q => ∃ d ds, Dp K H x d ∧ Dp K H y (.tuple ds) ∧ SeqAt.shaped d = true ∧ SeqAt.shaped (.tuple ds) = true ∧ Q (.bl (ds.any fun z => PyData.eqv z d)) H
theorem op_inTup {X : Cx} (hu : X.A.units + 65 < cLine) : OpR X (compareOp .In) (rInT X.K) := by
  intro pins s σ H x y v u Q I rx ry want
  obtain ⟨d, ds, hd, he, sd, se, q⟩ := want
  obtain ⟨as, r1⟩ := Dp.reads I d x v hd rx
  obtain ⟨bs, r2⟩ := Dp.reads I (.tuple ds) y u he ry
  have lay : PyData.canLayAll0 ds = true := by
    have z := SeqAt.canLay_of_shaped se
    rw [PyData.canLay0] at z
    exact z
  have deep := SeqAt.depth_of_shaped sd
  exact SeqAt.in_tuple_reads r2 r1 lay (SeqAt.canLay_of_shaped sd) (by omega) ⟨.bl _, H, I, rfl, q⟩
/-! ### ties, walks, parts: the mathematics -/
def Adj (ts : List Tie) (a b : Int) (foe : Bool) : Prop := ∃ t ∈ ts, t.foe = foe ∧ ((t.one = a ∧ t.other = b) ∨ (t.one = b ∧ t.other = a))
theorem Adj.symm {ts : List Tie} {a b : Int} {k : Bool} (h : Adj ts a b k) : Adj ts b a k := by
  obtain ⟨t, ht, e, h⟩ := h
  exact ⟨t, ht, e, h.symm⟩
/-- a walk with so many foes, even or odd -/
inductive RP (ts : List Tie) (a : Int) : Int → Bool → Prop
  | nil : RP ts a a false
  | step {b c : Int} {p k : Bool} : RP ts a b p → Adj ts b c k → RP ts a c (p ^^ k)
def Rch (ts : List Tie) (a b : Int) : Prop := ∃ p, RP ts a b p
theorem RP.trans {ts : List Tie} {a b c : Int} {p q : Bool} (h : RP ts a b p) (g : RP ts b c q) : RP ts a c (p ^^ q) := by
  induction g with
  | nil =>
    rw [Bool.xor_false]
    exact h
  | step _ k ih =>
    rw [← Bool.xor_assoc]
    exact ih.step k
theorem RP.one {ts : List Tie} {a b : Int} {k : Bool} (h : Adj ts a b k) : RP ts a b k := by
  have q := RP.nil.step h
  rw [Bool.false_xor] at q
  exact q
theorem RP.symm {ts : List Tie} {a b : Int} {p : Bool} (h : RP ts a b p) : RP ts b a p := by
  induction h with
  | nil => exact .nil
  | step _ k ih =>
    have q := (RP.one k.symm).trans ih
    rw [Bool.xor_comm] at q
    exact q
theorem Rch.refl {ts : List Tie} {a : Int} : Rch ts a a := ⟨_, .nil⟩
theorem Rch.symm {ts : List Tie} {a b : Int} (h : Rch ts a b) : Rch ts b a := by
  obtain ⟨p, h⟩ := h
  exact ⟨p, h.symm⟩
theorem Rch.trans {ts : List Tie} {a b c : Int} (h : Rch ts a b) (g : Rch ts b c) : Rch ts a c := by
  obtain ⟨p, h⟩ := h
  obtain ⟨q, g⟩ := g
  exact ⟨_, h.trans g⟩
theorem Rch.adj {ts : List Tie} {a b : Int} {k : Bool} (h : Adj ts a b k) : Rch ts a b := ⟨_, RP.one h⟩
theorem Rch.ind {ts : List Tie} {a b : Int} (C : Int → Prop) (h : Rch ts a b) (h0 : C a) (hs : ∀ x y k, C x → Adj ts x y k → C y) : C b := by
  obtain ⟨p, h⟩ := h
  induction h with
  | nil => exact h0
  | step _ k ih => exact hs _ _ _ ih k
theorem Adj.rng {ts : List Tie} {n a b : Int} {k : Bool} (ok : ∀ t ∈ ts, TieOk n t) (h : Adj ts a b k) : 0 ≤ b ∧ b < n := by
  obtain ⟨t, ht, _, h⟩ := h
  obtain ⟨h1, h2, h3, h4, _⟩ := ok t ht
  rcases h with ⟨e1, e2⟩ | ⟨e1, e2⟩
  · omega
  · omega
theorem Rch.rng {ts : List Tie} {n a b : Int} (ok : ∀ t ∈ ts, TieOk n t) (ha : 0 ≤ a ∧ a < n) (h : Rch ts a b) : 0 ≤ b ∧ b < n := h.ind (fun x => 0 ≤ x ∧ x < n) ha fun _ _ _ _ k => k.rng ok
def leader (ts : List Tie) (s : Int) : Prop := ∀ q, Rch ts s q → s ≤ q
/-- rising lists of the same numbers are one -/
theorem rising_ext : ∀ {xs ys : List Int}, xs.Pairwise (· < ·) → ys.Pairwise (· < ·) → (∀ z, z ∈ xs ↔ z ∈ ys) → xs = ys
  | [], [], _, _, _ => rfl
  | [], y :: ys, _, _, h => by have := (h y).mpr (by simp); simp at this
  | x :: xs, [], _, _, h => by have := (h x).mp (by simp); simp at this
  | x :: xs, y :: ys, hx, hy, h => by
    rw [List.pairwise_cons] at hx hy
    have e : x = y := by
      have h1 := (h x).mp (by simp)
      have h2 := (h y).mpr (by simp)
      rcases List.mem_cons.mp h1 with e | e
      · exact e
      · rcases List.mem_cons.mp h2 with e' | e'
        · exact e'.symm
        · have := hx.1 y e'
          have := hy.1 x e
          omega
    subst e
    rw [rising_ext hx.2 hy.2 fun z => ?_]
    constructor
    · intro hz
      rcases List.mem_cons.mp ((h z).mp (List.mem_cons_of_mem _ hz)) with e | e
      · have := hx.1 z hz
        omega
      · exact e
    · intro hz
      rcases List.mem_cons.mp ((h z).mpr (List.mem_cons_of_mem _ hz)) with e | e
      · have := hy.1 z hz
        omega
      · exact e
/-- 0, 1, .., n - 1 -/
def rng (n : Nat) : List Int := (List.range n).map fun (i : Nat) => (i : Int)
theorem mem_rng {n : Nat} {z : Int} : z ∈ rng n ↔ 0 ≤ z ∧ z < n := by
  unfold rng
  rw [List.mem_map]
  constructor
  · rintro ⟨i, hi, rfl⟩
    have := List.mem_range.mp hi
    omega
  · rintro ⟨h1, h2⟩
    exact ⟨z.toNat, List.mem_range.mpr (by omega), by omega⟩
theorem rng_rising (n : Nat) : (rng n).Pairwise (· < ·) := by
  unfold rng
  rw [List.pairwise_map]
  exact List.pairwise_lt_range.imp (by intro a b h; omega)
theorem rng_succ (n : Nat) : rng (n + 1) = rng n ++ [(n : Int)] := by
  unfold rng
  rw [List.range_succ, List.map_append]
  rfl
theorem rng_length (n : Nat) : (rng n).length = n := by
  unfold rng
  rw [List.length_map, List.length_range]
open Classical in
/-- the part of s -/
noncomputable def partOf (ts : List Tie) (n : Nat) (s : Int) : List Int := (rng n).filter fun p => decide (Rch ts s p)
open Classical in
/-- the parts by their first places, below i -/
noncomputable def partsTo (ts : List Tie) (n i : Nat) : List (List Int) := ((rng i).filter fun s => decide (leader ts s)).map (partOf ts n)
open Classical in
theorem partsTo_succ (ts : List Tie) (n i : Nat) : partsTo ts n (i + 1) = partsTo ts n i ++ (if leader ts i then [partOf ts n i] else []) := by
  unfold partsTo
  rw [rng_succ, List.filter_append, List.map_append]
  congr 1
  by_cases h : leader ts (i : Int)
  · rw [if_pos h, List.filter_cons, if_pos (decide_eq_true h)]
    rfl
  · rw [if_neg h, List.filter_cons, if_neg (by simpa using h)]
    rfl
theorem part_rising (ts : List Tie) (n : Nat) (s : Int) : (partOf ts n s).Pairwise (· < ·) := (rng_rising n).filter _
theorem mem_part {ts : List Tie} {n : Nat} {s z : Int} : z ∈ partOf ts n s ↔ (0 ≤ z ∧ z < n) ∧ Rch ts s z := by
  unfold partOf
  rw [List.mem_filter, mem_rng]
  simp
/-! ### the least place that each comes to, gone over again and again -/
def relax (f : Int → Int) (t : Tie) : Int → Int := fun x => if x = t.one ∨ x = t.other then min (f t.one) (f t.other) else f x
def rounds (ts : List Tie) : Nat → Int → Int
  | 0 => fun x => x
  | r + 1 => ts.foldl relax (rounds ts r)
theorem relax_le (f : Int → Int) (t : Tie) (x : Int) : relax f t x ≤ f x := by
  unfold relax
  split
  · rename_i h
    rcases h with rfl | rfl <;> omega
  · exact Int.le_refl _
theorem fold_le : ∀ (l : List Tie) (f : Int → Int) (x : Int), l.foldl relax f x ≤ f x
  | [], _, _ => Int.le_refl _
  | t :: l, f, x => Int.le_trans (fold_le l (relax f t) x) (relax_le f t x)
theorem fold_tie : ∀ (l : List Tie) (f : Int → Int) (t : Tie), t ∈ l → l.foldl relax f t.one ≤ min (f t.one) (f t.other) ∧ l.foldl relax f t.other ≤ min (f t.one) (f t.other)
  | t' :: l, f, t, h => by
    rcases List.mem_cons.mp h with e | e
    · subst e
      have h1 := fold_le l (relax f t) t.one
      have h2 := fold_le l (relax f t) t.other
      have e1 : relax f t t.one = min (f t.one) (f t.other) := by unfold relax; rw [if_pos (.inl rfl)]
      have e2 : relax f t t.other = min (f t.one) (f t.other) := by unfold relax; rw [if_pos (.inr rfl)]
      rw [e1] at h1
      rw [e2] at h2
      exact ⟨h1, h2⟩
    · have ih := fold_tie l (relax f t') t e
      have h1 := relax_le f t' t.one
      have h2 := relax_le f t' t.other
      exact ⟨Int.le_trans ih.1 (by omega), Int.le_trans ih.2 (by omega)⟩
theorem fold_rch {ts : List Tie} : ∀ (l : List Tie) (f : Int → Int), (∀ t ∈ l, t ∈ ts) → (∀ x, Rch ts x (f x)) → ∀ x, Rch ts x (l.foldl relax f x)
  | [], _, _, h => h
  | t :: l, f, hl, h => fold_rch l (relax f t) (fun t' ht => hl t' (List.mem_cons_of_mem _ ht)) fun x => by
    have ad : Rch ts t.one t.other := Rch.adj (k := t.foe) ⟨t, hl t (by simp), rfl, .inl ⟨rfl, rfl⟩⟩
    unfold relax
    split
    · rename_i hx
      have key : Rch ts x t.one ∧ Rch ts x t.other := by
        rcases hx with e | e <;> subst e
        · exact ⟨Rch.refl, ad⟩
        · exact ⟨ad.symm, Rch.refl⟩
      rcases Int.le_total (f t.one) (f t.other) with q | q
      · rw [Int.min_eq_left q]
        exact key.1.trans (h _)
      · rw [Int.min_eq_right q]
        exact key.2.trans (h _)
    · exact h x
theorem rounds_rch (ts : List Tie) : ∀ (r : Nat) (x : Int), Rch ts x (rounds ts r x)
  | 0, _ => Rch.refl
  | r + 1, x => fold_rch ts _ (fun _ h => h) (rounds_rch ts r) x
theorem filter_lt {p q : Int → Bool} : ∀ {l : List Int}, (∀ x ∈ l, q x = true → p x = true) → (∃ x ∈ l, p x = true ∧ q x = false) → (l.filter q).length < (l.filter p).length
  | [], _, ⟨x, hx, _⟩ => by simp at hx
  | y :: l, hi, ⟨x, hx, hp, hq⟩ => by
    have mono : (l.filter q).length ≤ (l.filter p).length := by
      have hi' : ∀ x ∈ l, q x = true → p x = true := fun x h => hi x (List.mem_cons_of_mem _ h)
      clear hi hx hp hq
      induction l with
      | nil => exact Nat.le_refl _
      | cons z l ih =>
        have ih := ih fun x h => hi' x (List.mem_cons_of_mem _ h)
        rw [List.filter_cons, List.filter_cons]
        have hz := hi' z (by simp)
        cases h1 : q z <;> cases h2 : p z <;> simp_all <;> omega
    rw [List.filter_cons, List.filter_cons]
    rcases List.mem_cons.mp hx with e | e
    · subst e
      rw [hq, hp]
      simp
      omega
    · have ih := filter_lt (l := l) (fun x h => hi x (List.mem_cons_of_mem _ h)) ⟨x, e, hp, hq⟩
      have hy := hi y (by simp)
      cases h1 : q y <;> cases h2 : p y <;> simp_all <;> omega
open Classical in
/-- behind as many rounds as there are places each has its part's least place -/
theorem rounds_least {ts : List Tie} {n : Nat} (ok : ∀ t ∈ ts, TieOk n t) {m p : Int} (hm : leader ts m) (h0 : 0 ≤ m ∧ m < n) (hp : Rch ts m p) : rounds ts n p = m := by
  have ge : ∀ r x, Rch ts m x → m ≤ rounds ts r x := fun r x hx => hm _ (hx.trans (rounds_rch ts r x))
  have mono : ∀ r x, rounds ts (r + 1) x ≤ rounds ts r x := fun r x => fold_le ts _ x
  have atm : ∀ r, rounds ts r m = m := fun r => by
    have h1 := ge r m Rch.refl
    have h2 : rounds ts r m ≤ m := by
      induction r with
      | zero => exact Int.le_refl _
      | succ r ih => exact Int.le_trans (mono r m) (ih (ge r m Rch.refl))
    omega
  have cnt : ∀ r, ((rng n).filter fun x => decide (Rch ts m x ∧ rounds ts r x ≠ m)).length ≤ n - r := fun r => by
    induction r with
    | zero =>
      refine Nat.le_trans (List.length_filter_le _ _) ?_
      rw [rng_length]
      omega
    | succ r ih =>
      by_cases hex : ∃ x, Rch ts m x ∧ rounds ts r x ≠ m
      · obtain ⟨x, hx, hne⟩ := hex
        -- an edge over which it comes
        have edge : ∃ a b k, Rch ts m a ∧ rounds ts r a = m ∧ Adj ts a b k ∧ rounds ts r b ≠ m := by
          by_cases hn : ∃ a b k, Rch ts m a ∧ rounds ts r a = m ∧ Adj ts a b k ∧ rounds ts r b ≠ m
          · exact hn
          · exfalso
            refine hne (hx.ind (fun y => Rch ts m y ∧ rounds ts r y = m) ⟨Rch.refl, atm r⟩ fun a b k ha k' => ⟨ha.1.trans (Rch.adj k'), ?_⟩).2
            by_cases hb : rounds ts r b = m
            · exact hb
            · exact absurd ⟨a, b, k, ha.1, ha.2, k', hb⟩ hn
        obtain ⟨a, b, k, ha, ha2, hab, hb⟩ := edge
        have hmb : Rch ts m b := ha.trans (Rch.adj hab)
        have hb' : rounds ts (r + 1) b = m := by
          have h1 := ge (r + 1) b hmb
          obtain ⟨t, ht, _, h⟩ := hab
          have ft := fold_tie ts (rounds ts r) t ht
          have h2 : rounds ts (r + 1) b ≤ m := by
            rcases h with ⟨e1, e2⟩ | ⟨e1, e2⟩
            · have q := ft.2
              rw [e1, e2, ha2] at q
              exact Int.le_trans q (by omega)
            · have q := ft.1
              rw [e1, e2, ha2] at q
              exact Int.le_trans q (by omega)
          omega
        have lt := filter_lt (p := fun x => decide (Rch ts m x ∧ rounds ts r x ≠ m)) (q := fun x => decide (Rch ts m x ∧ rounds ts (r + 1) x ≠ m)) (l := rng n) (fun x _ hq => by
          have hq := of_decide_eq_true hq
          refine decide_eq_true ⟨hq.1, fun z => hq.2 ?_⟩
          have h1 := ge (r + 1) x hq.1
          have h2 := mono r x
          omega) ⟨b, mem_rng.mpr (hmb.rng ok h0), decide_eq_true ⟨hmb, hb⟩, decide_eq_false fun z => z.2 hb'⟩
        omega
      · have e : (rng n).filter (fun x => decide (Rch ts m x ∧ rounds ts (r + 1) x ≠ m)) = [] := by
          rw [List.filter_eq_nil_iff]
          intro x _ hq
          have hq := of_decide_eq_true hq
          refine hex ⟨x, hq.1, fun z => hq.2 ?_⟩
          have h1 := ge (r + 1) x hq.1
          have h2 := mono r x
          omega
        rw [e]
        exact Nat.zero_le _
  have c := cnt n
  rw [Nat.sub_self] at c
  have e := List.eq_nil_of_length_eq_zero (Nat.le_zero.mp c)
  by_cases hne : rounds ts n p = m
  · exact hne
  · rw [List.filter_eq_nil_iff] at e
    exact absurd (decide_eq_true ⟨hp, hne⟩) (e p (mem_rng.mpr (hp.rng ok h0)))
open Classical in
/-- each has a least place -/
theorem has_leader {ts : List Tie} {n : Nat} (ok : ∀ t ∈ ts, TieOk n t) {p : Int} (h0 : 0 ≤ p ∧ p < n) : ∃ m, leader ts m ∧ (0 ≤ m ∧ m < n) ∧ Rch ts m p := by
  have key : ∀ (k : Nat) (x : Int), x = k → Rch ts p x → ∃ m, leader ts m ∧ (0 ≤ m ∧ m < n) ∧ Rch ts m p := by
    intro k
    induction k using Nat.strongRecOn with
    | ind k ih =>
      intro x hx hr
      have hxr := hr.rng ok h0
      by_cases hl : leader ts x
      · exact ⟨x, hl, hxr, hr.symm⟩
      · have hl' : ∃ q, Rch ts x q ∧ q < x := by
          by_cases h : ∃ q, Rch ts x q ∧ q < x
          · exact h
          · exfalso
            refine hl fun q hq => ?_
            by_cases h' : q < x
            · exact absurd ⟨q, hq, h'⟩ h
            · omega
        obtain ⟨q, hq, hlt⟩ := hl'
        have hqr := hq.rng ok hxr
        exact ih q.toNat (by omega) q (by omega) (hr.trans hq)
  exact key p.toNat p (by omega) Rch.refl
/-! ### tuples that are known to have no dict: their methods -/
theorem NoD.kp {H H' : Hp} {d p : Addr} {b : Nat} {xs : List V} (h : NoD H p xs) (k : Kp d d H H') (D : Well H d b) : NoD H' p xs := by
  obtain ⟨o, h1, h2⟩ := h
  obtain ⟨g, st, n, e1, _⟩ := D
  have ne : p ≠ d := ne_of h2 e1 (by intro z; cases z)
  exact ⟨o, h1, k _ _ ne ne h2⟩
section
variable {X : Cx}
theorem call_tuple_ofZ : CallR X (.type "tuple") (fun xs H Q => ∃ p ys, xs = [.ref p] ∧ SqL X.K H p ys ∧ ∀ l o, o.dict = none → H l = none → Q (.ref l) (upd H l (.frz o (.tup ys)))) := by
  intro pins s σ H xs us Q I r h
  obtain ⟨p, ys, rfl, hq, q⟩ := h
  obtain ⟨u, rfl, rx⟩ := vals1 r
  cases rx
  obtain ⟨its, r', pl, hz⟩ := I.list hq
  have hlen := r'.length
  refine call_tuple_list pl.isList (fun h' kp => ?_) (by simp only [List.size_toArray] <;> omega)
  have I1 : Inv X pins σ H { s with heap := h' } := I.kept (t' := s.toks) kp
  have I2 : Inv X pins σ (upd H h'.objs.size (.frz { cls := .type "tuple", data := .seq its.toArray } (.tup ys))) { s with heap := h'.push { cls := .type "tuple", data := .seq its.toArray } } :=
    I1.laid (t' := s.toks) (fun b o e => Heap.get?_push_of_some _ e) (Nat.le_refl _) (show ObjOk X.prog X.w _ _ _ (.frz { cls := .type "tuple", data := .seq its.toArray } (.tup ys)) from ⟨Heap.get?_push_size _ rfl, hz, its, r', IsTup.new _ _⟩)
  exact ⟨.ref h'.objs.size, _, I2, rfl, q _ _ rfl (I1.hok.fresh (Nat.le_refl _))⟩
def tTupRgZ (te : L2.St → Hp → (Int → Int → Hp → Prop) → Prop) : TE := fun σ H Q => te σ H fun a b H1 => RgOk a b ∧ ∀ q o, o.dict = none → H1 q = none → Q (.ref q) (upd H1 q (.frz o (.tup (rgV a b))))
theorem pe_tupRgZ {e : Expr} {te : L2.St → Hp → (Int → Int → Hp → Prop) → Prop} {p pos : Pos} (hc : X.calm = true) (hg : Gl X "tuple") (hm : X.mg "tuple" = none) (he : PRg X e te) (na : starEach [e] X.env = (false, eval e X.env) :: starEach [] X.env := by rfl) : PE X (.Call (.Name "tuple" p) [e] [] pos) (tTupRgZ te) := by
  refine ⟨fun pins s σ H Q I h => ?_⟩
  refine Call_ (ld_blt I hg hm boot_tuple (PyProof.Rows.callWith_type1 (args_cons (thn (he pins s σ H _ I h) fun x s1 ⟨r, a, b, t, u, v, H1, ex, hr, I1, ok, q⟩ => args_nil ?_) na) na))
  subst ex
  obtain ⟨b1, b2, b3, b4, b5⟩ := ok
  refine call_tuple_range (n := (b - a).toNat) (I1.ok.hd hc) hr (small_one b1 b2 b3 b4) (rangeSize_nat a b) b5 fun h' tk acc hk hi => ?_
  have I2 : Inv X pins σ H1 { s1 with heap := h', toks := tk } := I1.kept hk
  refine ⟨.ref h'.objs.size, upd H1 h'.objs.size (.frz { cls := .type "tuple", data := .seq acc } (.tup (rgV a b))), I2.laid (t' := tk) (fun c o e => Heap.get?_push_of_some _ e) (Nat.le_refl _) (show ObjOk X.prog X.w _ _ _ (.frz { cls := .type "tuple", data := .seq acc } (.tup (rgV a b))) from ⟨Heap.get?_push_size _ rfl, ?_, acc.toList, vals_rg hi, ?_⟩), rfl, q _ _ rfl (I2.hok.fresh (Nat.le_refl _))⟩
  · rw [rgV_length, sizeLine_eq]; omega
  · rw [Array.toArray_toList]; exact IsTup.new _ _
/-- a method of such a tuple -/
def tBMT (r : V → List V → Hp → VK → Prop) (to : TE) (t : TA) : TE := fun σ H Q => to σ H fun x H1 => (∃ p xs, x = .ref p ∧ NoD H1 p xs) ∧ t σ H1 fun xs H2 => r x xs H2 Q
theorem pe_bmT {o e : Expr} {es : List Expr} {to : TE} {t : TA} {name : Str} {apos cpos : Pos} {id : String} {r : V → List V → Hp → VK → Prop} (slot : Slot "tuple" name id) (hty : typeOf (.builtin id) = pure (.type "method_descriptor")) (hm : MtR X id r) (ho : PE X o to) (ha : PA X (e :: es) t)
    (hbase : attributeBase o name X.env (eval o X.env) = eval o X.env := by rfl)
    (hfew : ((backTo cpos (starEach (e :: es) X.env)).all (fun x => !x.1) && (backToKw cpos (keywordEach [] X.env)).all (fun x => x.1.isSome)
      && decide ((e :: es).length + ([] : List Keyword).length + (if ([] : List Keyword).isEmpty then 0 else 1) < 30)) = true := by rfl)
    (hline : (apos.endLine == cpos.line) = true := by rfl) (hs : starEach (e :: es) X.env = (false, eval e X.env) :: starEach es X.env := by rfl) (hplain : (backTo cpos (starEach es X.env)).any (·.1) = false := by rfl) :
    PE X (.Call (.Attribute o name apos) (e :: es) [] cpos) (tBMT r to t) := by
  refine ⟨fun pins s σ H Q I h => ?_⟩
  refine wpAny_Call_method_late hbase hfew hline rfl (thn (ho.run pins s σ H _ I h) fun v s1 ⟨x, H1, I1, r1, ⟨p, xs, ex, ob, od, hp⟩, q1⟩ => ?_)
  subst ex
  obtain rfl : v = Value.ref p := r1
  obtain ⟨e1, hz, its, rv, o2, e2, c2, n2, d2⟩ := (show ObjOk X.prog X.w H1 s1.heap p (.frz ob (.tup xs)) from I1.hok p _ hp)
  rw [e1] at e2
  cases e2
  refine ⟨"tuple", id, PySem.F.plainAttrs_tuple, slot, hty, ⟨ob, e1, c2⟩, fun a ea => ?_, ?_⟩
  · cases ea
    exact ⟨ob, e1, od⟩
  have hA := ha.run cpos pins s1 σ H1 _ I1 q1
  rw [hs] at hA ⊢
  refine Calls.callWith_builtin (by show (false || (backTo cpos (starEach es X.env)).any (·.1)) = false; rw [hplain] <;> rfl) (Calls.evalArgs_plain ?_)
  exact thn hA fun us s2 ⟨vs, H2, I2, r2, q2⟩ => hm pins s2 σ H2 (.ref p) vs (.ref p) us Q I2 rfl r2 q2
def rCntT (K : PySem.W.Frag) : V → List V → Hp → VK → Prop := fun x xs H Q => ∃ (p : Addr) (ns : List Int) (k : Int), x = .ref p ∧ xs = [.int k] ∧ SqT K H p (ns.map V.int) ∧ Q (.int (ns.count k : Nat)) H
theorem mt_tcount : MtR X "tuple.count" (rCntT X.K) := by
  intro pins s σ H x xs v us Q I rx rxs h
  obtain ⟨p, ns, k, rfl, rfl, hs, q⟩ := h
  cases rx
  obtain ⟨u, rfl, ru⟩ := rxs.one
  obtain ⟨t, rfl⟩ := ru
  obtain ⟨its, rv, ⟨⟨cls, dd, data, sl⟩, ho, hc, n, hd⟩, hlen⟩ := I.tuple hs
  simp only at hc hd
  subst hc hd
  have hi := ints_of_vals rv
  refine call_meets PySem.F.slot_tuple_count ⟨_, ho, rfl⟩ PySem.F.entry_tuple_count (PySem.F.args_tuple_count_2 _ _)
    (SeqAt.tuple_countAt p its.toArray n dd sl (.int k t) (eqk k)) ⟨ho, fun y hy => (eqk_gives hi y (by simpa using hy)).at _ _, ?_⟩
  have ec : its.toArray.toList.countP (eqk k) = ns.count k := eqk_count hi
  refine ⟨.int (ns.count k : Nat), H, I.tok _, ⟨s.toks, ?_⟩, q⟩
  show Value.int ((its.toArray.toList.countP (eqk k) : Nat) : Int) s.toks = Value.int ((ns.count k : Nat) : Int) s.toks
  rw [ec]
end
/-! ### zip of two tuples -/
theorem walk_zipT {K : PySem.W.Frag} {a b : Addr} {xs ys : List V} {n : Nat} (hn : n = min xs.length ys.length) : Walk (RZ.ItzT K a b) n (fun H => SqT K H a xs ∧ SqT K H b ys) (YPair (fun i => xs[i]?) (fun i => ys[i]?)) := by
  subst hn
  refine ⟨fun i _ hi q => ?_, fun _ q => ⟨xs, ys, q.1, q.2, by omega⟩, fun i H v H' _ q y => ?_⟩
  · have h1 : i < xs.length := by omega
    have h2 : i < ys.length := by omega
    exact ⟨xs, ys, xs[i], ys[i], q.1, q.2, by simp [h1], by simp [h2]⟩
  · obtain ⟨T, x, z, h1, h2, h3, h4, h5⟩ := y
    exact ⟨T, x, z, h1, h2, h3, h4 xs q.1, h5 ys q.2⟩
/-! ### rows of numbers as data -/
def IntsV (H : Hp) (v : V) (xs : List Int) : Prop := ∃ b, v = .ref b ∧ H b = some (.tup (xs.map V.int))
theorem IntsV.tk {H H' : Hp} (k : Tk H H') {v : V} {xs : List Int} (h : IntsV H v xs) : IntsV H' v xs := by
  obtain ⟨a, rfl, e⟩ := h
  exact ⟨a, rfl, k _ _ e⟩
def intsD (xs : List Int) : PyData := .tuple (xs.map PyData.int)
section
variable {K : PySem.W.Frag} {H : Hp}
theorem dp_ints : ∀ (xs : List Int), DpAll K H (xs.map V.int) (xs.map PyData.int)
  | [] => .nil
  | x :: xs => .cons (.int x) (dp_ints xs)
theorem IntsV.dp {v : V} {xs : List Int} (h : IntsV H v xs) : Dp K H v (intsD xs) := by
  obtain ⟨b, rfl, e⟩ := h
  exact .tup (SqT.of e) (dp_ints xs)
end
theorem lay_ints : ∀ xs : List Int, PyData.canLayAll0 (xs.map PyData.int) = true
  | [] => by simp [PyData.canLayAll0]
  | x :: xs => by simp [PyData.canLayAll0, PyData.canLay0, lay_ints xs]
theorem deep_ints : ∀ xs : List Int, PyData.depthAll (xs.map PyData.int) = 0
  | [] => by simp [PyData.depthAll]
  | x :: xs => by simp [PyData.depthAll, PyData.depth, deep_ints xs]
theorem lay_intsD (xs : List Int) : (intsD xs).canLay0 = true := by
  unfold intsD
  rw [PyData.canLay0]
  exact lay_ints xs
theorem deep_intsD (xs : List Int) : (intsD xs).depth = 1 := by
  unfold intsD
  rw [PyData.depth, deep_ints]
theorem shaped_intsD (xs : List Int) : SeqAt.shaped (intsD xs) = true := by
  unfold SeqAt.shaped
  rw [lay_intsD, deep_intsD]
  rfl
theorem eqv_nil (xs : List Int) : PyData.eqv (intsD xs) (intsD []) = xs.isEmpty := by
  unfold intsD
  rw [PyData.eqv]
  cases xs <;> rfl
/-! ### enumerate of a tuple -/
set_option maxHeartbeats 1000000 in
theorem meets_enumOne {v : Value} {o : Obj} {S : Heap → Prop} (B : Begins v o S) : Meets (Builtin.«enumerate.__new__» ⟨[.type "enumerate", v], []⟩) (fun _ R s => S s.heap ∧
      R (.ok (.ret (.ref (s.heap.push o).objs.size))) { s with heap := (s.heap.push o).push { cls := .type "enumerate", data := .fields #[.none, .bool false, .ref s.heap.objs.size, rawInt 0, .none, .none] } }) :=
  .of_wp fun prog w A R s h => by
    obtain ⟨hp, g, d, tk, os⟩ := s
    obtain ⟨h1, h⟩ := h
    have sub0 := sub_enumerate
    have begun : ∀ {A' : PySem.Around} {E : Value → Shared → Prop} {Q : Value → Shared → Prop}, Q (.ref hp.objs.size) ⟨hp.push o, g, d, tk, os⟩ → wpAny (model prog w) A' (pyIter v) Q E ⟨hp, g, d, tk, os⟩ := fun q => B.iter prog w _ _ ⟨hp, g, d, tk, os⟩ _ h1 q
    wp_walk using begun
    refine wpAny_stack_any fun st => wpAny_pure ?_
    split
    · rename_i c _ _ _ _ _
      cases (c == Value.type "enumerate")
      all_goals
        wp_walk using begun
        exact ⟨_, rfl, h⟩
    · wp_walk using begun
      exact ⟨_, rfl, h⟩
theorem call_enumT {P : Program} {w : World} {A : PySem.Around} {E : Value → Shared → Prop} {s : Shared} {t : Addr} {items : Array Value} {Q : Value → Shared → Prop} (ht : s.heap.IsTuple t items)
    (h : ∀ h', IsEnum h' (s.heap.objs.size + 1) s.heap.objs.size 0 .none → h'.IsTupleIter s.heap.objs.size t 0 → (∀ b o, s.heap.get? b = some o → h'.get? b = some o) → Q (.ref (s.heap.objs.size + 1)) { s with heap := h' }) : wpAny (model P w) A (call (.type "enumerate") [.ref t]) Q E s := by
  refine callType_new PySem.F.called_enumerate (by decide) (PySem.F.typeCall_enumerate_1 _) (PySem.F.newCall_enumerate_1 _) (fun ob => PySem.F.args_object_init_2 ob _) PySem.F.entry_enumerate_new (meets_enumOne (begins_tuple t items)) ⟨ht, ?_⟩
  have size1 := Heap.size_push s.heap { cls := .type "tuple_iterator", data := .fields #[.ref t, .int 0 0] }
  have en := Heap.get?_push_size (s.heap.push { cls := .type "tuple_iterator", data := .fields #[.ref t, .int 0 0] }) (o := { cls := .type "enumerate", data := .fields #[.none, .bool false, .ref s.heap.objs.size, rawInt 0, .none, .none] }) rfl
  rw [size1] at en
  show _ ∧ _
  rw [size1]
  exact ⟨⟨_, en, rfl⟩, h _ en ⟨_, Heap.get?_push_of_some _ (Heap.get?_push_size _ rfl), rfl, rfl⟩ fun b o e => Heap.get?_push_of_some _ (Heap.get?_push_of_some _ e)⟩
/-- the turns: a new pair each, of the number and the part -/
def ItN (K : PySem.W.Frag) (a : Addr) : It where
  go := fun i H => ∃ (xs : List V) (x : V), SqT K H a xs ∧ xs[i]? = some x
  yld := fun i H v H' => ∃ T x, v = .ref T ∧ H T = none ∧ H' = upd H T (.tup [.int (i : Nat), x]) ∧ ∀ xs, SqT K H a xs → xs[i]? = some x
  stop := fun i H => ∃ xs : List V, SqT K H a xs ∧ xs.length ≤ i
theorem turn_enumT {P : Program} {w : World} {K : PySem.W.Frag} {elts : List Expr} {kk : Nat} {tpos : Pos} (a e it : Addr) (n1 : e ≠ it) (n2 : a ≠ it) (n3 : e ≠ a) :
    Turn P w K (.Tuple elts kk tpos) (ItN K a) [e, it] e (fun i h => (∃ old, IsEnum h e it ((i : Nat) : Int) old) ∧ h.IsTupleIter it a i) where
  mem := List.mem_cons_self
  obj := by
    rintro i h ⟨⟨old, he⟩, o, ho, hc, hd⟩ b hb
    rcases List.mem_cons.mp hb with rfl | hb
    · exact ⟨_, he, fun v q => nomatch q⟩
    · rw [List.mem_singleton.mp hb]
      exact ⟨o, ho, fun v q => by rw [hd] at q; cases q⟩
  keep := by
    rintro i h h' ⟨⟨old, he⟩, hit⟩ kp
    exact ⟨⟨old, kp e (by simp) _ he⟩, hit.at fun o q => kp it (by simp) o q⟩
  item := by
    intro X hP hw hK hc i pins s σ H E I hf st hg
    subst hP hw hK
    obtain ⟨⟨old, he⟩, hit⟩ := st
    obtain ⟨xs, x, hq, hx⟩ := hg
    obtain ⟨its, rv, tup, _⟩ := I.tuple hq
    obtain ⟨u, hu, ru⟩ := rv.get hx
    have le := Heap.lt_size he
    have li : it < s.heap.objs.size := let ⟨_, q, _⟩ := hit; Heap.lt_size q
    have lt : i < its.toArray.size := by simpa using (List.getElem?_eq_some_iff.mp hu).1
    refine wpAny_pyNext_enum_itemD (Draws.tuple (A := X.A.in1) (I.ok.hd hc) it a n2 its.toArray) he ⟨hit, tup⟩ lt n1 (by simp [n1, n3]) fun x' h' tk ex out st' new _ kp => ?_
    obtain rfl : u = x' := Option.some.inj (((by simpa using hu) : its.toArray[i]? = some u).symm.trans ex)
    refine ⟨_, rfl, wpAny_letOwnedTupleGo_enum (s := { s with heap := h', toks := tk + 1 }) out fun h2 he2 sb => ?_⟩
    have new2 : h2.get? s.heap.objs.size = some { cls := .type "tuple", data := .seq #[.int i tk, u] } := (sb.2 _ (Nat.ne_of_gt le)).trans new
    have objT : ObjOk X.prog X.w (upd H s.heap.objs.size (.tup [.int (i : Nat), x])) h2 s.heap.objs.size (.tup [.int (i : Nat), x]) := ⟨by show 2 ≤ sizeLine; decide, [.int i tk, u], .cons ⟨_, rfl⟩ (.cons ru .nil), ⟨_, new2, rfl, _, rfl⟩⟩
    have J : Inv X pins σ (upd H s.heap.objs.size (.tup [.int (i : Nat), x])) { s with heap := h2, toks := tk + 1 } := I.turnedNew (ch := [e, it]) (fun b ob hb q => by
      simp only [List.mem_cons, List.not_mem_nil, or_false, not_or] at hb
      exact (sb.2 b hb.1).trans (kp b ob hb.1 hb.2 q)) hf (Nat.le_refl _) objT
    refine ⟨.ref s.heap.objs.size, _, J, rfl, ⟨_, x, rfl, I.hok.fresh (Nat.le_refl _), rfl, fun ys hy => by rw [I.tuple_inj hy hq]; exact hx⟩, ⟨⟨u, ?_⟩, st'.1.at fun o q => (sb.2 it (Ne.symm n1)).trans q⟩, fun b hb => ?_⟩
    · rw [show ((i + 1 : Nat) : Int) = (i : Int) + 1 from by omega]
      exact he2
    · have lb : b < s.heap.objs.size := by
        rcases List.mem_cons.mp hb with rfl | hb
        · exact le
        · rw [List.mem_singleton.mp hb]
          exact li
      rw [upd_ne (Nat.ne_of_lt lb)]
      exact (hf b hb).1
  done := by
    intro X hP hw hK hc i pins s σ H E I hf st hg
    subst hP hw hK
    obtain ⟨⟨old, he⟩, hit⟩ := st
    obtain ⟨xs, hq, hx⟩ := hg
    obtain ⟨its, rv, tup, _⟩ := I.tuple hq
    have hl := rv.length
    obtain ⟨f0, f1, f2, f3, f4, f5⟩ := hf it (by simp)
    have D : Draws X.prog X.w X.A.in1 it [it, a] i (fun _ _ => False) (fun j h => j = i ∧ h.IsTupleIter it a i ∧ h.IsTuple a its.toArray) := {
      live := fun j h z => let ⟨_, ⟨o, q, _⟩, _⟩ := z; ⟨o, q⟩
      frame := fun j h h' z kp => ⟨z.1, z.2.1.at fun o q => kp it (by simp) o q, z.2.2.at fun o q => kp a (by simp) o q⟩
      item := fun j s' Q E' hj z => absurd z.1 (Nat.ne_of_lt hj)
      done := fun s' Q E' z fin => wpAny_nextOf_tuple_end (I.ok.hd hc) z.2.1 z.2.2 (by simp; omega) fin }
    exact wpAny_pyNext_enum_endD D he ⟨rfl, hit, tup⟩ fun h' eb => ⟨rfl, I.turned (t' := s.toks) (fun b o hb q => eb b o hb q) f0 f1 f3 f4 f5⟩
  self := fun A i s Q E st h => let ⟨⟨_, he⟩, _⟩ := st; wpAny_pyIter_enum he h
def iEnT (K : PySem.W.Frag) (ta : TA) : TI := fun σ H R => ta σ H fun vs H1 => ∃ a xs, vs = [.ref a] ∧ SqT K H1 a xs ∧ R (ItN K a) H1
theorem pi_enumT {X : Cx} {e : Expr} {ta : TA} {p pos tpos : Pos} {elts : List Expr} {kk : Nat} (hg : Gl X "enumerate") (hm : X.mg "enumerate" = none) (ha : PA X [e] ta) (hs : starEach [e] X.env = [(false, eval e X.env)] := by rfl) :
    PI X (.Tuple elts kk tpos) (.Call (.Name "enumerate" p) [e] [] pos) (iEnT X.K ta) := by
  refine ⟨fun pins s σ H R I want => Call_ (ld_blt I hg hm boot_enumerate (PyProof.Rows.callWith_type1 (thn (ha.run pos pins s σ H _ I want) fun us s1 got => ?_) hs rfl))⟩
  obtain ⟨vs, H1, J, rel, a, xs, ex, hq, q⟩ := got
  subst ex
  obtain ⟨u, eu, r1⟩ := vals1 rel
  subst eu
  obtain rfl : u = Value.ref a := r1
  obtain ⟨its, rv, tup, _⟩ := J.tuple hq
  have la : a < s1.heap.objs.size := let ⟨_, q, _⟩ := tup; Heap.lt_size q
  refine call_enumT (items := its.toArray) tup fun h' he hit kp => wpAny_pyIter_enum he ?_
  have J2 : Inv X pins σ H1 { s1 with heap := h' } := J.kept (t' := s1.toks) kp
  refine ⟨s1.heap.objs.size + 1, [s1.heap.objs.size + 1, s1.heap.objs.size], _, _, H1, rfl, J2, turn_enumT a (s1.heap.objs.size + 1) s1.heap.objs.size (Nat.succ_ne_self _) (Nat.ne_of_lt la) (Nat.ne_of_gt (Nat.lt_succ_of_lt la)), ⟨⟨.none, he⟩, hit⟩, fun b hb => ?_, q⟩
  have lb : s1.heap.objs.size ≤ b := by
    rcases List.mem_cons.mp hb with rfl | hb
    · exact Nat.le_succ _
    · rw [List.mem_singleton.mp hb]
      exact Nat.le_refl _
  exact J.fpOk lb (J.hok.fresh lb)
theorem walk_enumT {K : PySem.W.Frag} {a : Addr} {xs : List V} : Walk (ItN K a) xs.length (fun H => SqT K H a xs) (YPair (fun i => some (.int (i : Nat))) (fun i => xs[i]?)) :=
  ⟨fun i H hi h => ⟨xs, xs[i], h, List.getElem?_eq_getElem hi⟩, fun H h => ⟨xs, h, Nat.le_refl _⟩, fun i H x H' hi h y => by
    obtain ⟨T, z, e1, e2, e3, e4⟩ := y
    exact ⟨T, _, z, e1, e2, e3, rfl, e4 xs h⟩⟩
/-! ### the law: the least place that each comes to -/
def lf (f : Int → Int) (n : Nat) : List V := (rng n).map fun i => V.int (f i)
theorem lf_len (f : Int → Int) (n : Nat) : (lf f n).length = n := by unfold lf; rw [List.length_map, rng_length]
theorem lf_get? (f : Int → Int) {n j : Nat} (h : j < n) : (lf f n)[j]? = some (.int (f j)) := by
  unfold lf rng
  rw [List.map_map, List.getElem?_map, List.getElem?_range h]
  rfl
theorem lf_at (f : Int → Int) {n : Nat} {i : Int} (h0 : 0 ≤ i) (h1 : i < n) : atI (lf f n) i = some (.int (f i)) := by
  have e : ((i.toNat : Nat) : Int) = i := by omega
  refine atI_of h0 ?_
  rw [lf_get? f (by omega), e]
theorem lf_set (f : Int → Int) {n : Nat} {i y : Int} (h0 : 0 ≤ i) (h1 : i < n) : (lf f n).set i.toNat (.int y) = lf (fun x => if x = i then y else f x) n := by
  refine List.ext_getElem? fun j => ?_
  rw [List.getElem?_set]
  by_cases hj : j < n
  · by_cases e : i.toNat = j
    · rw [if_pos e, if_pos (by rw [lf_len]; omega), lf_get? _ hj, if_pos (by omega)]
    · rw [if_neg e, lf_get? _ hj, lf_get? _ hj, if_neg (by omega)]
  · have e : i.toNat ≠ j := by omega
    rw [if_neg e, List.getElem?_eq_none (by rw [lf_len]; omega), List.getElem?_eq_none (by rw [lf_len]; omega)]
theorem ixN_of {n : Nat} {i : Int} (h0 : 0 ≤ i) (h1 : i < n) : ixN n i = some i.toNat := by
  unfold ixN
  rw [if_pos (by omega), if_pos (by omega)]
/-! ### stems (mathematics) -/
theorem Rch.mono {ts ts' : List Tie} (h : ∀ t ∈ ts, t ∈ ts') {a b : Int} (r : Rch ts a b) : Rch ts' a b :=
  r.ind (fun x => Rch ts' a x) .refl fun x y k hx ad => by
    obtain ⟨t, ht, e⟩ := ad
    exact hx.trans (Rch.adj (k := k) ⟨t, h t ht, e⟩)
theorem rch_pq {ts : List Tie} {t : Tie} {p q : Int} (h : (p = t.one ∧ q = t.other) ∨ (p = t.other ∧ q = t.one)) : Rch (ts ++ [t]) p q := by
  refine Rch.adj (k := t.foe) ⟨t, List.mem_append_right _ (by simp), rfl, ?_⟩
  rcases h with ⟨h1, h2⟩ | ⟨h1, h2⟩
  · exact .inl ⟨h1.symm, h2.symm⟩
  · exact .inr ⟨h2.symm, h1.symm⟩
theorem rch_snoc {ts : List Tie} {t : Tie} {p q : Int} (h : (p = t.one ∧ q = t.other) ∨ (p = t.other ∧ q = t.one)) {a b : Int} : Rch (ts ++ [t]) a b ↔ Rch ts a b ∨ (Rch ts a p ∧ Rch ts q b) ∨ (Rch ts a q ∧ Rch ts p b) := by
  have up : ∀ {x y : Int}, Rch ts x y → Rch (ts ++ [t]) x y := fun r => r.mono fun t ht => List.mem_append_left _ ht
  constructor
  · intro r
    refine r.ind (fun x => Rch ts a x ∨ (Rch ts a p ∧ Rch ts q x) ∨ (Rch ts a q ∧ Rch ts p x)) (.inl .refl) fun x y k hx ad => ?_
    obtain ⟨t', ht, e1, e2⟩ := ad
    rcases List.mem_append.mp ht with ht | ht
    · have st : Rch ts x y := Rch.adj (k := k) ⟨t', ht, e1, e2⟩
      rcases hx with h1 | ⟨h1, h2⟩ | ⟨h1, h2⟩
      · exact .inl (h1.trans st)
      · exact .inr (.inl ⟨h1, h2.trans st⟩)
      · exact .inr (.inr ⟨h1, h2.trans st⟩)
    · rw [List.mem_singleton] at ht
      subst ht
      have xy : (x = p ∧ y = q) ∨ (x = q ∧ y = p) := by
        rcases e2 with ⟨e2, e3⟩ | ⟨e2, e3⟩ <;> rcases h with ⟨h1, h2⟩ | ⟨h1, h2⟩
        · exact .inl ⟨by omega, by omega⟩
        · exact .inr ⟨by omega, by omega⟩
        · exact .inr ⟨by omega, by omega⟩
        · exact .inl ⟨by omega, by omega⟩
      rcases xy with ⟨rfl, rfl⟩ | ⟨rfl, rfl⟩
      · rcases hx with h1 | ⟨h1, h2⟩ | ⟨h1, h2⟩
        · exact .inr (.inl ⟨h1, .refl⟩)
        · exact .inr (.inl ⟨h1, .refl⟩)
        · exact .inl h1
      · rcases hx with h1 | ⟨h1, h2⟩ | ⟨h1, h2⟩
        · exact .inr (.inr ⟨h1, .refl⟩)
        · exact .inl h1
        · exact .inr (.inr ⟨h1, .refl⟩)
  · rintro (h1 | ⟨h1, h2⟩ | ⟨h1, h2⟩)
    · exact up h1
    · exact (up h1).trans ((rch_pq h).trans (up h2))
    · exact (up h1).trans ((rch_pq h).symm.trans (up h2))
theorem rch_nil {a b : Int} (h : Rch [] a b) : a = b := h.ind (fun x => a = x) rfl fun x y k _ ad => by
  obtain ⟨t, ht, _⟩ := ad
  simp at ht
def tieN (ts : List Tie) (k : Nat) : Tie := ts.getD k ⟨0, 0, false⟩
theorem tieN_of {ts : List Tie} {k : Nat} {t : Tie} (h : ts[k]? = some t) : tieN ts k = t := by
  unfold tieN
  rw [List.getD_eq_getElem?_getD, h]
  rfl
open Classical in
noncomputable def stemB (ts : List Tie) (k : Nat) : Bool := decide (¬ Rch (ts.take k) (tieN ts k).one (tieN ts k).other)
noncomputable def stemsTo (ts : List Tie) (k : Nat) : List Int := (rng k).filter fun i => stemB ts i.toNat
theorem stemsTo_succ (ts : List Tie) (k : Nat) : stemsTo ts (k + 1) = stemsTo ts k ++ (if stemB ts k = true then [(k : Int)] else []) := by
  unfold stemsTo
  rw [rng_succ, List.filter_append, List.filter_cons, Int.toNat_natCast]
  rfl
theorem stemsTo_len (ts : List Tie) (k : Nat) : (stemsTo ts k).length ≤ k := by
  unfold stemsTo
  have := List.length_filter_le (fun i => stemB ts i.toNat) (rng k)
  rw [rng_length] at this
  exact this
open Classical in
theorem stem_iff {ts : List Tie} {k : Nat} {t : Tie} (h : ts[k]? = some t) : stemB ts k = true ↔ ¬ Rch (ts.take k) t.one t.other := by
  unfold stemB
  rw [tieN_of h]
  exact decide_eq_true_iff
theorem take_snoc {α : Type} {ts : List α} {k : Nat} {t : α} (h : ts[k]? = some t) : ts.take (k + 1) = ts.take k ++ [t] := by
  rw [List.take_add_one, h]
  rfl
/-- labels: alike just where ties lead -/
def Lab (ts : List Tie) (n : Nat) (g : Int → Int) : Prop := ∀ i j : Int, 0 ≤ i → i < n → 0 ≤ j → j < n → (g i = g j ↔ Rch ts i j)
def mrg (g : Int → Int) (old new : Int) : Int → Int := fun x => if g x = old then new else g x
theorem lab_nil (n : Nat) : Lab [] n (fun i => i) := fun i j _ _ _ _ => ⟨fun h => by rw [show i = j from h]; exact .refl, fun h => rch_nil h⟩
theorem lab_same {ts : List Tie} {n : Nat} {g : Int → Int} {t : Tie} (h : Lab ts n g) (ok : TieOk n t) (e : g t.one = g t.other) : Lab (ts ++ [t]) n g := fun i j i0 i1 j0 j1 => by
  obtain ⟨o1, o2, o3, o4, _⟩ := ok
  have r : Rch ts t.one t.other := (h _ _ o1 o2 o3 o4).mp e
  rw [rch_snoc (.inl ⟨rfl, rfl⟩), h i j i0 i1 j0 j1]
  constructor
  · exact .inl
  · rintro (h1 | ⟨h1, h2⟩ | ⟨h1, h2⟩)
    · exact h1
    · exact h1.trans (r.trans h2)
    · exact h1.trans (r.symm.trans h2)
theorem lab_step {ts : List Tie} {n : Nat} {g : Int → Int} {t : Tie} {p q : Int} (h : Lab ts n g) (ok : TieOk n t) (e : (p = t.one ∧ q = t.other) ∨ (p = t.other ∧ q = t.one)) : Lab (ts ++ [t]) n (mrg g (g p) (g q)) := fun i j i0 i1 j0 j1 => by
  have pr : (0 ≤ p ∧ p < n) ∧ (0 ≤ q ∧ q < n) := by
    obtain ⟨o1, o2, o3, o4, _⟩ := ok
    rcases e with ⟨rfl, rfl⟩ | ⟨rfl, rfl⟩
    · exact ⟨⟨o1, o2⟩, o3, o4⟩
    · exact ⟨⟨o3, o4⟩, o1, o2⟩
  obtain ⟨⟨p0, p1⟩, q0, q1⟩ := pr
  rw [rch_snoc e]
  unfold mrg
  have ip := h i p i0 i1 p0 p1
  have jp := h j p j0 j1 p0 p1
  have iq := h i q i0 i1 q0 q1
  have jq := h j q j0 j1 q0 q1
  have ij := h i j i0 i1 j0 j1
  by_cases hi : g i = g p <;> by_cases hj : g j = g p
  · rw [if_pos hi, if_pos hj]
    exact ⟨fun _ => .inl (ij.mp (hi.trans hj.symm)), fun _ => rfl⟩
  · rw [if_pos hi, if_neg hj]
    constructor
    · intro z
      exact .inr (.inl ⟨ip.mp hi, (jq.mp z.symm).symm⟩)
    · rintro (z | ⟨_, z⟩ | ⟨_, z⟩)
      · exact absurd ((ij.mpr z).symm.trans hi) hj
      · exact (jq.mpr z.symm).symm
      · exact absurd (jp.mpr z.symm) hj
  · rw [if_neg hi, if_pos hj]
    constructor
    · intro z
      exact .inr (.inr ⟨iq.mp z, (jp.mp hj).symm⟩)
    · rintro (z | ⟨z, _⟩ | ⟨z, _⟩)
      · exact absurd ((ij.mpr z).trans hj) hi
      · exact absurd (ip.mpr z) hi
      · exact iq.mpr z
  · rw [if_neg hi, if_neg hj]
    constructor
    · intro z
      exact .inl (ij.mp z)
    · rintro (z | ⟨z, _⟩ | ⟨_, z⟩)
      · exact ij.mpr z
      · exact absurd (ip.mpr z) hi
      · exact absurd (jp.mpr z.symm) hj
/-- heads: labels that are places of their own; how many -/
structure Heads (ts : List Tie) (n i : Nat) (g : Int → Int) : Prop where
  lab : Lab (ts.take i) n g
  rng : ∀ x : Int, 0 ≤ x → x < n → 0 ≤ g x ∧ g x < n
  idem : ∀ x : Int, 0 ≤ x → x < n → g (g x) = g x
  cnt : ((FF.rng n).filter fun x => decide (g x = x)).length + (stemsTo ts i).length = n
theorem heads_nil (ts : List Tie) (n : Nat) : Heads ts n 0 (fun i => i) := by
  refine ⟨by rw [List.take_zero]; exact lab_nil n, fun x h0 h1 => ⟨h0, h1⟩, fun x _ _ => rfl, ?_⟩
  have e : ((FF.rng n).filter fun x => decide (x = x)) = FF.rng n := by
    rw [List.filter_eq_self]
    intro x _
    exact decide_eq_true rfl
  show ((FF.rng n).filter fun x => decide (x = x)).length + 0 = n
  rw [e, rng_length, Nat.add_zero]
theorem filter_drop {p q : Int → Bool} {h : Int} : ∀ {l : List Int}, l.Nodup → h ∈ l → p h = true → (∀ x ∈ l, q x = (p x && decide (x ≠ h))) → (l.filter q).length + 1 = (l.filter p).length
  | x :: l, nd, hm, hp, hq => by
    rw [List.nodup_cons] at nd
    have hx := hq x (by simp)
    rw [List.filter_cons, List.filter_cons, hx]
    by_cases e : x = h
    · subst e
      have same : l.filter q = l.filter p := List.filter_congr fun y hy => by
        rw [hq y (List.mem_cons_of_mem _ hy), decide_eq_true (show y ≠ x from fun z => nd.1 (by rw [← z]; exact hy)), Bool.and_true]
      rw [same, hp]
      simp
    · have hm' : h ∈ l := (List.mem_cons.mp hm).elim (fun z => absurd z.symm e) id
      have ih := filter_drop (l := l) nd.2 hm' hp fun y hy => hq y (List.mem_cons_of_mem _ hy)
      rw [decide_eq_true (show x ≠ h from e), Bool.and_true]
      cases p x
      · simpa using ih
      · simp
        omega
theorem heads_same {ts : List Tie} {n i : Nat} {g : Int → Int} {t : Tie} (h : Heads ts n i g) (et : ts[i]? = some t) (ok : TieOk n t) (e : g t.one = g t.other) : Heads ts n (i + 1) g := by
  refine ⟨by rw [take_snoc et]; exact lab_same h.lab ok e, h.rng, h.idem, ?_⟩
  have no : ¬ stemB ts i = true := fun z => (stem_iff et).mp z ((h.lab _ _ ok.1 ok.2.1 ok.2.2.1 ok.2.2.2.1).mp e)
  rw [stemsTo_succ, if_neg no, List.append_nil]
  exact h.cnt
theorem heads_step {ts : List Tie} {n i : Nat} {g : Int → Int} {t : Tie} {p q : Int} (h : Heads ts n i g) (et : ts[i]? = some t) (ok : TieOk n t) (e : (p = t.one ∧ q = t.other) ∨ (p = t.other ∧ q = t.one)) (ne : g p ≠ g q) : Heads ts n (i + 1) (mrg g (g p) (g q)) := by
  have pr : (0 ≤ p ∧ p < n) ∧ (0 ≤ q ∧ q < n) := by
    obtain ⟨o1, o2, o3, o4, _⟩ := ok
    rcases e with ⟨rfl, rfl⟩ | ⟨rfl, rfl⟩
    · exact ⟨⟨o1, o2⟩, o3, o4⟩
    · exact ⟨⟨o3, o4⟩, o1, o2⟩
  obtain ⟨⟨p0, p1⟩, q0, q1⟩ := pr
  have gp := h.rng p p0 p1
  have gq := h.rng q q0 q1
  have ip := h.idem p p0 p1
  have iq := h.idem q q0 q1
  refine ⟨by rw [take_snoc et]; exact lab_step h.lab ok e, fun x x0 x1 => ?_, fun x x0 x1 => ?_, ?_⟩
  · unfold mrg
    split
    · exact gq
    · exact h.rng x x0 x1
  · have ix := h.idem x x0 x1
    by_cases hx : g x = g p
    · have e1 : mrg g (g p) (g q) x = g q := if_pos hx
      rw [e1]
      show (if g (g q) = g p then g q else g (g q)) = g q
      rw [iq, if_neg (Ne.symm ne)]
    · have e1 : mrg g (g p) (g q) x = g x := if_neg hx
      rw [e1]
      show (if g (g x) = g p then g q else g (g x)) = g x
      rw [ix, if_neg hx]
  · have yes : stemB ts i = true := (stem_iff et).mpr fun z => by
      have hl := (h.lab _ _ ok.1 ok.2.1 ok.2.2.1 ok.2.2.2.1).mpr z
      rcases e with ⟨rfl, rfl⟩ | ⟨rfl, rfl⟩
      · exact ne hl
      · exact ne hl.symm
    have drop := filter_drop (p := fun x => decide (g x = x)) (q := fun x => decide (mrg g (g p) (g q) x = x)) (h := g p) (l := FF.rng n) ((rng_rising n).imp fun h => by omega) (mem_rng.mpr gp) (decide_eq_true ip) (fun x hx => ?_)
    · rw [stemsTo_succ, if_pos yes, List.length_append]
      have := h.cnt
      simp only [List.length_cons, List.length_nil]
      omega
    · have xr := mem_rng.mp hx
      rw [Bool.eq_iff_iff, Bool.and_eq_true, decide_eq_true_iff, decide_eq_true_iff, decide_eq_true_iff]
      show (if g x = g p then g q else g x) = x ↔ _
      by_cases hx : g x = g p
      · rw [if_pos hx]
        constructor
        · intro z
          exact absurd (by rw [← z, iq] at hx; exact hx.symm) ne
        · rintro ⟨z1, z2⟩
          exact absurd (z1.symm.trans hx) z2
      · rw [if_neg hx]
        exact ⟨fun z => ⟨z, fun y => hx (by rw [y]; exact ip)⟩, fun z => z.1⟩
/-- stems are told by the places of the ties alone -/
theorem rch_frames : ∀ {ts us : List Tie}, ts.length = us.length → (∀ (i : Nat) t u, ts[i]? = some t → us[i]? = some u → (u.one = t.one ∧ u.other = t.other) ∨ (u.one = t.other ∧ u.other = t.one)) → ∀ {a b : Int}, Rch ts a b → Rch us a b := by
  intro ts us hl h a b r
  refine r.ind (fun x => Rch us a x) .refl fun x y k hx ad => ?_
  obtain ⟨t, ht, _, e⟩ := ad
  obtain ⟨i, hi, rfl⟩ := List.getElem_of_mem ht
  have hu : us[i]? = some us[i] := List.getElem?_eq_getElem (by omega)
  have w := h i _ _ (List.getElem?_eq_getElem hi) hu
  refine hx.trans (Rch.adj (k := us[i].foe) ⟨us[i], List.getElem_mem _, rfl, ?_⟩)
  rcases w with ⟨w1, w2⟩ | ⟨w1, w2⟩ <;> rcases e with ⟨e1, e2⟩ | ⟨e1, e2⟩
  · exact .inl ⟨by omega, by omega⟩
  · exact .inr ⟨by omega, by omega⟩
  · exact .inr ⟨by omega, by omega⟩
  · exact .inl ⟨by omega, by omega⟩
def Framed (ts us : List Tie) : Prop := ts.length = us.length ∧ ∀ (i : Nat) t u, ts[i]? = some t → us[i]? = some u → (u.one = t.one ∧ u.other = t.other) ∨ (u.one = t.other ∧ u.other = t.one)
theorem Framed.symm {ts us : List Tie} (h : Framed ts us) : Framed us ts := ⟨h.1.symm, fun i u t e1 e2 => by
  rcases h.2 i t u e2 e1 with ⟨w1, w2⟩ | ⟨w1, w2⟩
  · exact .inl ⟨w1.symm, w2.symm⟩
  · exact .inr ⟨w2.symm, w1.symm⟩⟩
theorem Framed.take {ts us : List Tie} (h : Framed ts us) (k : Nat) : Framed (ts.take k) (us.take k) := by
  refine ⟨by rw [List.length_take, List.length_take, h.1], fun i t u e1 e2 => ?_⟩
  by_cases hk : i < k
  · rw [List.getElem?_take_of_lt hk] at e1 e2
    exact h.2 i t u e1 e2
  · rw [List.getElem?_take] at e1
    rw [if_neg hk] at e1
    cases e1
theorem Framed.map {ts : List Tie} {f : Tie → Tie} (h : ∀ t ∈ ts, ((f t).one = t.one ∧ (f t).other = t.other) ∨ ((f t).one = t.other ∧ (f t).other = t.one)) : Framed ts (ts.map f) := by
  refine ⟨by rw [List.length_map], fun i t u e1 e2 => ?_⟩
  rw [List.getElem?_map, e1] at e2
  cases e2
  exact h t (List.mem_of_getElem? e1)
theorem stems_framed {ts us : List Tie} (h : Framed ts us) : stemsTo us us.length = stemsTo ts ts.length := by
  unfold stemsTo
  rw [← h.1]
  refine List.filter_congr fun i hi => ?_
  have ir := mem_rng.mp hi
  have e1 : ts[i.toNat]? = some ts[i.toNat] := List.getElem?_eq_getElem (by omega)
  have l := h.1
  have e2 : us[i.toNat]? = some us[i.toNat] := List.getElem?_eq_getElem (by omega)
  have ht := h.take i.toNat
  rw [Bool.eq_iff_iff, stem_iff e1, stem_iff e2]
  have both : ∀ a b : Int, Rch (ts.take i.toNat) a b ↔ Rch (us.take i.toNat) a b := fun a b => ⟨fun r => rch_frames ht.1 ht.2 r, fun r => rch_frames ht.symm.1 ht.symm.2 r⟩
  rcases h.2 _ _ _ e1 e2 with ⟨w1, w2⟩ | ⟨w1, w2⟩
  · rw [w1, w2, both]
  · rw [w1, w2, both]
    exact ⟨fun z y => z y.symm, fun z y => z y.symm⟩
theorem stemsTo_rising (ts : List Tie) (k : Nat) : (stemsTo ts k).Pairwise (· < ·) := (rng_rising k).filter _
theorem stemsTo_mem {ts : List Tie} {k : Nat} {i : Int} : i ∈ stemsTo ts k ↔ (0 ≤ i ∧ i < k) ∧ stemB ts i.toNat = true := by
  unfold stemsTo
  rw [List.mem_filter, mem_rng]
theorem stems_own (ts : List Tie) : stemsTo ((stemsTo ts ts.length).map fun i => tieN ts i.toNat) (stemsTo ts ts.length).length = rng (stemsTo ts ts.length).length := by
  generalize hS : stemsTo ts ts.length = S
  unfold stemsTo
  rw [List.filter_eq_self]
  intro j hj
  have jr := mem_rng.mp hj
  have hjl : j.toNat < S.length := by omega
  have ej : (S.map fun i => tieN ts i.toNat)[j.toNat]? = some (tieN ts S[j.toNat].toNat) := by
    rw [List.getElem?_map, List.getElem?_eq_getElem hjl]
    rfl
  have hm : S[j.toNat] ∈ stemsTo ts ts.length := by rw [hS]; exact List.getElem_mem _
  obtain ⟨⟨m0, m1⟩, mb⟩ := stemsTo_mem.mp hm
  have et : ts[S[j.toNat].toNat]? = some (tieN ts S[j.toNat].toNat) := by
    have h : S[j.toNat].toNat < ts.length := by omega
    rw [List.getElem?_eq_getElem h, tieN_of (List.getElem?_eq_getElem h)]
  rw [stem_iff ej]
  rw [stem_iff et] at mb
  refine fun r => mb (r.mono fun t ht => ?_)
  rw [← List.map_take, List.mem_map] at ht
  obtain ⟨x, hx, rfl⟩ := ht
  obtain ⟨a, ha, rfl⟩ := List.getElem_of_mem hx
  rw [List.length_take] at ha
  rw [List.getElem_take]
  have hx' : S[a] ∈ stemsTo ts ts.length := by rw [hS]; exact List.getElem_mem _
  obtain ⟨⟨x0, x1⟩, _⟩ := stemsTo_mem.mp hx'
  have rise : S.Pairwise (· < ·) := by rw [← hS]; exact stemsTo_rising _ _
  have lt : S[a] < S[j.toNat] := List.pairwise_iff_getElem.mp rise a j.toNat (by omega) hjl (by omega)
  have h : S[a].toNat < ts.length := by omega
  rw [tieN_of (List.getElem?_eq_getElem h)]
  rw [List.mem_iff_getElem]
  exact ⟨S[a].toNat, by rw [List.length_take]; omega, by rw [List.getElem_take]⟩
/-! ### ties that sides break -/
def sd (ss : List Int) (i : Int) : Int := ss.getD i.toNat 0
def tieAt (ts : List Tie) (i : Int) : Tie := ts.getD i.toNat ⟨0, 0, false⟩
def brk (ss : List Int) (t : Tie) : Bool := decide (sd ss t.one = sd ss t.other) == t.foe
def badTo (ss : List Int) (ts : List Tie) (k : Nat) : List Int := (rng k).filter fun i => brk ss (tieAt ts i)
def bad (ss : List Int) (ts : List Tie) : List Int := badTo ss ts ts.length
theorem badTo_succ (ss : List Int) (ts : List Tie) (k : Nat) : badTo ss ts (k + 1) = badTo ss ts k ++ (if brk ss (tieAt ts k) = true then [(k : Int)] else []) := by
  unfold badTo
  rw [rng_succ, List.filter_append, List.filter_cons]
  rfl
theorem badTo_len (ss : List Int) (ts : List Tie) (k : Nat) : (badTo ss ts k).length ≤ k := by
  unfold badTo
  have := List.length_filter_le (fun i => brk ss (tieAt ts i)) (rng k)
  rw [rng_length] at this
  exact this
theorem atI_sd {ss : List Int} {i : Int} (h0 : 0 ≤ i) (h1 : i < ss.length) : atI (ss.map V.int) i = some (.int (sd ss i)) := by
  have h : i.toNat < ss.length := by omega
  refine atI_of h0 ?_
  unfold sd
  rw [List.getElem?_map, List.getElem?_eq_getElem h, List.getD_eq_getElem?_getD, List.getElem?_eq_getElem h]
  rfl
theorem tieAt_of {ts : List Tie} {i : Nat} {t : Tie} (h : ts[i]? = some t) : tieAt ts i = t := by
  unfold tieAt
  rw [Int.toNat_natCast, List.getD_eq_getElem?_getD, h]
  rfl
theorem eq_brk (x y : Int) (f : Bool) : decide (V.bl (decide (V.int x = V.int y)) = V.bl (decide (V.str (kindS f) = V.str "foe"))) = (decide (x = y) == f) := by
  have e : decide (V.int x = V.int y) = decide (x = y) := by
    by_cases h : x = y
    · rw [decide_eq_true h, decide_eq_true (by rw [h])]
    · rw [decide_eq_false h, decide_eq_false (fun z => h (V.int.inj z))]
  rw [e]
  cases decide (x = y) <;> cases f <;> rfl
theorem ne_brk (x y : Int) (f : Bool) : (!decide (V.bl (!decide (V.int x = V.int y)) = V.bl (decide (V.str (kindS f) = V.str "foe")))) = (decide (x = y) == f) := by
  have e : decide (V.int x = V.int y) = decide (x = y) := by
    by_cases h : x = y
    · rw [decide_eq_true h, decide_eq_true (by rw [h])]
    · rw [decide_eq_false h, decide_eq_false (fun z => h (V.int.inj z))]
  rw [e]
  cases decide (x = y) <;> cases f <;> rfl
def spBreaks : Sp := fun vs H Q _ => ∃ (a b : Addr) (ss : List Int) (t : Tie), vs = [.ref a, .ref b] ∧ H a = some (.tup (ss.map V.int)) ∧ H b = some (.tup [.int t.one, .int t.other, .str (kindS t.foe)]) ∧ TieOk ss.length t ∧ Q (.bl (brk ss t)) H
def spBroken : Sp := fun vs H Q _ => ∃ (v : V) (a : Addr) (n : Int) (ts : List Tie) (ss : List Int), vs = [v, .ref a] ∧ WebAt H v n ts ∧ WebOk n ts ∧ H a = some (.tup (ss.map V.int)) ∧ (ss.length : Int) = n ∧
  ∀ r H', Same H H' → H' r = some (.tup ((bad ss ts).map V.int)) → Q (.ref r) H'
section
variable {P : Program} {w : World} {K : PySem.W.Frag} {mg : Str → Option Value} {base : Heap}
end
/-! ### sides put over -/
def Bin (ss : List Int) : Prop := ∀ x ∈ ss, x = 0 ∨ x = 1
theorem sd_get {ss : List Int} {i : Int} (h0 : 0 ≤ i) (h1 : i < ss.length) : ∃ h : i.toNat < ss.length, sd ss i = ss[i.toNat] := by
  have h : i.toNat < ss.length := by omega
  refine ⟨h, ?_⟩
  unfold sd
  rw [List.getD_eq_getElem?_getD, List.getElem?_eq_getElem h]
  rfl
theorem sd_bin {ss : List Int} (b : Bin ss) {i : Int} (h0 : 0 ≤ i) (h1 : i < ss.length) : sd ss i = 0 ∨ sd ss i = 1 := by
  obtain ⟨h, e⟩ := sd_get h0 h1
  rw [e]
  exact b _ (List.getElem_mem h)
def over (ss : List Int) : List Int := ss.map fun s => 1 - s
theorem sd_over {ss : List Int} {i : Int} (h0 : 0 ≤ i) (h1 : i < ss.length) : sd (over ss) i = 1 - sd ss i := by
  obtain ⟨h, e⟩ := sd_get h0 h1
  obtain ⟨h', e'⟩ := sd_get (ss := over ss) h0 (by unfold over; rw [List.length_map]; exact h1)
  rw [e, e']
  simp [over]
theorem brk_over {ss : List Int} {t : Tie} (ok : TieOk ss.length t) : brk (over ss) t = brk ss t := by
  unfold brk
  rw [sd_over ok.1 ok.2.1, sd_over ok.2.2.1 ok.2.2.2.1]
  congr 1
  rw [decide_eq_decide]
  omega
theorem tieAt_mem {ts : List Tie} {i : Int} (h : i ∈ rng ts.length) : tieAt ts i ∈ ts := by
  rw [mem_rng] at h
  have h' : i.toNat < ts.length := by omega
  unfold tieAt
  rw [List.getD_eq_getElem?_getD, List.getElem?_eq_getElem h']
  exact List.getElem_mem h'
theorem bad_over {ss : List Int} {ts : List Tie} (ok : ∀ t ∈ ts, TieOk ss.length t) : bad (over ss) ts = bad ss ts := by
  unfold bad badTo
  exact List.filter_congr fun i hi => brk_over (ok _ (tieAt_mem hi))
def moved (ss : List Int) (p : Int) : List Int := ss.set p.toNat (1 - sd ss p)
theorem moved_len (ss : List Int) (p : Int) : (moved ss p).length = ss.length := by unfold moved; rw [List.length_set]
theorem sd_moved {ss : List Int} {p i : Int} (p0 : 0 ≤ p) (p1 : p < ss.length) (h0 : 0 ≤ i) (h1 : i < ss.length) : sd (moved ss p) i = if i = p then 1 - sd ss p else sd ss i := by
  show (ss.set p.toNat (1 - sd ss p)).getD i.toNat 0 = _
  rw [List.getD_eq_getElem?_getD, List.getElem?_set]
  by_cases hp : i = p
  · subst hp
    rw [if_pos rfl, if_pos (by omega), if_pos rfl]
    rfl
  · rw [if_neg (by omega), if_neg hp]
    unfold sd
    rw [List.getD_eq_getElem?_getD]
theorem brk_moved {ss : List Int} (b : Bin ss) {t : Tie} {p : Int} (ok : TieOk ss.length t) (p0 : 0 ≤ p) (p1 : p < ss.length) : brk (moved ss p) t = (brk ss t != (t.one == p || t.other == p)) := by
  unfold brk
  rw [sd_moved p0 p1 ok.1 ok.2.1, sd_moved p0 p1 ok.2.2.1 ok.2.2.2.1]
  have b1 := sd_bin b ok.1 ok.2.1
  have b2 := sd_bin b ok.2.2.1 ok.2.2.2.1
  have ne := ok.2.2.2.2
  by_cases h1 : t.one = p
  · have h2 : t.other ≠ p := fun z => ne (h1.trans z.symm)
    rw [if_pos h1, if_neg h2, ← h1]
    have e1 : (t.one == t.one) = true := by simp
    rw [e1, Bool.true_or]
    rcases b1 with e | e <;> rcases b2 with e' | e' <;> rw [e, e'] <;> cases t.foe <;> rfl
  · rw [if_neg h1]
    have e1 : (t.one == p) = false := by simp [h1]
    rw [e1, Bool.false_or]
    by_cases h2 : t.other = p
    · rw [if_pos h2, ← h2]
      have e2 : (t.other == t.other) = true := by simp
      rw [e2]
      rcases b1 with e | e <;> rcases b2 with e' | e' <;> rw [e, e'] <;> cases t.foe <;> rfl
    · rw [if_neg h2]
      have e2 : (t.other == p) = false := by simp [h2]
      rw [e2, Bool.bne_false]
theorem moved_cut {ss : List Int} {p : Int} (p0 : 0 ≤ p) (p1 : p < ss.length) : cutV (ss.map V.int) none (some p) ++ [V.int (1 - sd ss p)] ++ cutV (ss.map V.int) (some (p + 1)) none = (moved ss p).map V.int := by
  obtain ⟨k, rfl⟩ : ∃ k : Nat, p = k := ⟨p.toNat, by omega⟩
  have hk : k < ss.length := by omega
  have e1 : cutV (ss.map V.int) none (some (k : Int)) = (ss.take k).map V.int := by
    unfold cutV
    rw [HT.sIx_none, HT.sIx_nat, List.length_map, Nat.min_eq_left (by omega), List.drop_zero, List.map_take]
    rfl
  have e2 : cutV (ss.map V.int) (some ((k : Int) + 1)) none = (ss.drop (k + 1)).map V.int := by
    unfold cutV
    rw [HT.sIx_none, show ((k : Int) + 1) = ((k + 1 : Nat) : Int) from by omega, HT.sIx_nat, List.length_map, Nat.min_eq_left (by omega), List.map_drop]
    exact List.take_of_length_le (by rw [List.length_drop, List.length_map]; omega)
  rw [e1, e2]
  unfold moved
  rw [Int.toNat_natCast, List.set_eq_take_append_cons_drop, if_pos hk]
  simp
theorem in_bad {ss : List Int} {ts : List Tie} {i : Nat} (hi : i < ts.length) : inV (.int (i : Int)) ((bad ss ts).map V.int) = brk ss (tieAt ts i) := by
  rw [Bool.eq_iff_iff]
  unfold inV
  rw [List.any_map, List.any_eq_true]
  unfold bad badTo
  constructor
  · rintro ⟨x, hx, e⟩
    have e' : (x == (i : Int)) = true := e
    rw [beq_iff_eq] at e'
    subst e'
    exact (List.mem_filter.mp hx).2
  · intro h
    exact ⟨i, List.mem_filter.mpr ⟨mem_rng.mpr (by omega), h⟩, by show ((i : Int) == (i : Int)) = true; simp⟩
theorem flat_ints (xs : List Int) : (xs.map V.int).all flatV = true := by
  rw [List.all_map, List.all_eq_true]
  intro x _
  rfl
theorem in_two (p x y : Int) : inV (.int p) [.int x, .int y] = (x == p || y == p) := by
  show ((x == p) || ((y == p) || false)) = _
  rw [Bool.or_false]
theorem ne_bl (a b : Bool) : (!decide (V.bl a = V.bl b)) = (a != b) := by cases a <;> cases b <;> rfl
/-! ### the fixed choice: the mathematics -/
def Cons (ss : List Int) (ts : List Tie) : Prop := ∀ t ∈ ts, brk ss t = false
def Odd (ts : List Tie) (n : Nat) : Prop := ∃ x : Int, (0 ≤ x ∧ x < n) ∧ RP ts x x true
def one? (ss : List Int) (i : Int) : Bool := decide (sd ss i = 1)
structure Told (ts : List Tie) (n : Nat) (ss : List Int) : Prop where
  len : ss.length = n
  bin : Bin ss
  each : ∀ i : Int, 0 ≤ i → i < n → ∃ m, leader ts m ∧ RP ts m i (one? ss i)
theorem brk_one {ss : List Int} (b : Bin ss) {t : Tie} (ok : TieOk ss.length t) : brk ss t = ((one? ss t.one ^^ one? ss t.other) ^^ t.foe) := by
  unfold brk one?
  have b1 := sd_bin b ok.1 ok.2.1
  have b2 := sd_bin b ok.2.2.1 ok.2.2.2.1
  rcases b1 with e | e <;> rcases b2 with e' | e' <;> rw [e, e'] <;> cases t.foe <;> decide
theorem cons_adj {ss : List Int} {ts : List Tie} (b : Bin ss) (ok : ∀ t ∈ ts, TieOk ss.length t) (h : Cons ss ts) {x y : Int} {k : Bool} (ad : Adj ts x y k) : (one? ss x ^^ one? ss y) = k := by
  obtain ⟨t, ht, rfl, h1⟩ := ad
  have e := h t ht
  rw [brk_one b (ok t ht)] at e
  rcases h1 with ⟨rfl, rfl⟩ | ⟨rfl, rfl⟩
  · revert e
    cases one? ss t.one <;> cases one? ss t.other <;> cases t.foe <;> simp
  · revert e
    cases one? ss t.one <;> cases one? ss t.other <;> cases t.foe <;> simp
theorem cons_walk {ss : List Int} {ts : List Tie} (b : Bin ss) (ok : ∀ t ∈ ts, TieOk ss.length t) (h : Cons ss ts) {x y : Int} {p : Bool} (r : RP ts x y p) : (one? ss x ^^ one? ss y) = p := by
  induction r with
  | nil => rw [Bool.xor_self]
  | step _ ad ih =>
    rw [← ih, ← cons_adj b ok h ad]
    rename_i u v p k _
    cases one? ss x <;> cases one? ss u <;> cases one? ss v <;> rfl
theorem cons_no_odd {ss : List Int} {ts : List Tie} {n : Nat} (b : Bin ss) (ok : ∀ t ∈ ts, TieOk ss.length t) (h : Cons ss ts) : ¬ Odd ts n := by
  rintro ⟨x, _, r⟩
  have := cons_walk b ok h r
  rw [Bool.xor_self] at this
  cases this
theorem leader_one {ts : List Tie} {m m' i : Int} (h : leader ts m) (h' : leader ts m') (r : Rch ts m i) (r' : Rch ts m' i) : m = m' := by
  have h1 := h m' (r.trans r'.symm)
  have h2 := h' m (r'.trans r.symm)
  omega
theorem told_unique {ts : List Tie} {n : Nat} {ss zs : List Int} (ok : ∀ t ∈ ts, TieOk n t) (h : Told ts n ss) (g : Told ts n zs) (c : Cons ss ts) : ss = zs := by
  refine List.ext_getElem? fun j => ?_
  by_cases hj : j < n
  · obtain ⟨m, l1, r1⟩ := h.each j (by omega) (by omega)
    obtain ⟨m', l2, r2⟩ := g.each j (by omega) (by omega)
    obtain rfl := leader_one l1 l2 ⟨_, r1⟩ ⟨_, r2⟩
    have w := cons_walk h.bin (by rw [h.len]; exact ok) c (r1.trans r2.symm)
    rw [Bool.xor_self] at w
    have e : one? ss j = one? zs j := by
      revert w
      cases one? ss (j : Int) <;> cases one? zs (j : Int) <;> simp
    have b1 := sd_bin h.bin (i := j) (by omega) (by rw [h.len]; omega)
    have b2 := sd_bin g.bin (i := j) (by omega) (by rw [g.len]; omega)
    obtain ⟨h1, e1⟩ := sd_get (ss := ss) (i := j) (by omega) (by rw [h.len]; omega)
    obtain ⟨h2, e2⟩ := sd_get (ss := zs) (i := j) (by omega) (by rw [g.len]; omega)
    have es : sd ss j = sd zs j := by
      unfold one? at e
      rcases b1 with x | x <;> rcases b2 with y | y <;> rw [x, y] at e ⊢ <;> revert e <;> decide
    rw [Int.toNat_natCast] at h1 h2
    rw [List.getElem?_eq_getElem h1, List.getElem?_eq_getElem h2]
    have : ss[j] = zs[j] := by
      have q1 : sd ss j = ss[j] := e1
      have q2 : sd zs j = zs[j] := e2
      rw [← q1, ← q2, es]
    rw [this]
  · rw [List.getElem?_eq_none (by rw [h.len]; omega), List.getElem?_eq_none (by rw [g.len]; omega)]
theorem told_odd {ts : List Tie} {n : Nat} {ss : List Int} (ok : ∀ t ∈ ts, TieOk n t) (h : Told ts n ss) {t : Tie} (ht : t ∈ ts) (hb : brk ss t = true) : Odd ts n := by
  have okt := ok t ht
  obtain ⟨m, l1, r1⟩ := h.each t.one okt.1 okt.2.1
  obtain ⟨m', l2, r2⟩ := h.each t.other okt.2.2.1 okt.2.2.2.1
  have ad : Adj ts t.one t.other t.foe := ⟨t, ht, rfl, .inl ⟨rfl, rfl⟩⟩
  obtain rfl := leader_one l1 l2 (Rch.trans ⟨_, r1⟩ (Rch.adj ad)) ⟨_, r2⟩
  have w := (r1.step ad).trans r2.symm
  refine ⟨m, Rch.rng ok ⟨okt.1, okt.2.1⟩ ⟨_, r1.symm⟩, ?_⟩
  have e : ((one? ss t.one ^^ t.foe) ^^ one? ss t.other) = true := by
    rw [brk_one h.bin (by rw [h.len]; exact okt)] at hb
    revert hb
    cases one? ss t.one <;> cases one? ss t.other <;> cases t.foe <;> simp
  rw [← e]
  exact w
theorem bad_nil {ss : List Int} {ts : List Tie} : bad ss ts = [] ↔ Cons ss ts := by
  unfold bad badTo Cons
  rw [List.filter_eq_nil_iff]
  constructor
  · intro h t ht
    obtain ⟨j, hj⟩ := List.getElem?_of_mem ht
    have hl := (List.getElem?_eq_some_iff.mp hj).1
    have := h j (mem_rng.mpr (by omega))
    rw [tieAt_of hj] at this
    simpa using this
  · intro h i hi
    rw [h _ (tieAt_mem hi)]
    decide
/-! ### groups by their least places, sides along the ties -/
theorem RP.mono {ts ts' : List Tie} (h : ∀ t ∈ ts, t ∈ ts') {a b : Int} {p : Bool} (r : RP ts a b p) : RP ts' a b p := by
  induction r with
  | nil => exact .nil
  | step _ ad ih =>
    obtain ⟨t, ht, e, q⟩ := ad
    exact ih.step ⟨t, h t ht, e, q⟩
def bit (x : Int) : Bool := decide (x = 1)
structure GS (ts : List Tie) (n : Nat) (g s : Int → Int) (good : Bool) : Prop where
  rp : ∀ i : Int, 0 ≤ i → i < n → RP ts (g i) i (bit (s i))
  le : ∀ i : Int, 0 ≤ i → i < n → 0 ≤ g i ∧ g i ≤ i
  bn : ∀ i : Int, 0 ≤ i → i < n → s i = 0 ∨ s i = 1
  eq : ∀ t ∈ ts, g t.one = g t.other
  yes : good = true → ∀ t ∈ ts, (bit (s t.one) ^^ bit (s t.other)) = t.foe
  no : good = false → Odd ts n
theorem GS.nil (n : Nat) : GS [] n (fun i => i) (fun _ => 0) true :=
  ⟨fun i _ _ => .nil, fun i h _ => ⟨h, Int.le_refl _⟩, fun _ _ _ => .inl rfl, fun t h => by simp at h, fun _ t h => by simp at h, fun h => by cases h⟩
theorem GS.same {ts : List Tie} {n : Nat} {g s : Int → Int} {good : Bool} (h : GS ts n g s good) {a b : Int} (r : Rch ts a b) : g a = g b :=
  r.ind (fun x => g a = g x) rfl fun x y k e ad => by
    obtain ⟨t, ht, _, q⟩ := ad
    have := h.eq t ht
    rcases q with ⟨rfl, rfl⟩ | ⟨rfl, rfl⟩
    · rw [e, this]
    · rw [e, this]
theorem GS.lead {ts : List Tie} {n : Nat} {g s : Int → Int} {good : Bool} (ok : ∀ t ∈ ts, TieOk n t) (h : GS ts n g s good) {i : Int} (h0 : 0 ≤ i) (h1 : i < n) : leader ts (g i) := fun q hq => by
  have e1 := h.same hq
  have e2 := h.same (⟨_, h.rp i h0 h1⟩ : Rch ts (g i) i)
  have r := hq.rng ok ⟨(h.le i h0 h1).1, by have := (h.le i h0 h1).2; omega⟩
  have := (h.le q r.1 r.2).2
  omega
def gNew (g : Int → Int) (low high : Int) : Int → Int := fun x => if low < high ∧ g x = high then low else g x
def sNew (g s : Int → Int) (low high turn : Int) : Int → Int := fun x => if low < high ∧ g x = high then (s x + turn) % 2 else s x
theorem bit_add {a b : Int} (ha : a = 0 ∨ a = 1) (hb : b = 0 ∨ b = 1) : bit ((a + b) % 2) = (bit a ^^ bit b) ∧ ((a + b) % 2 = 0 ∨ (a + b) % 2 = 1) := by
  rcases ha with rfl | rfl <;> rcases hb with rfl | rfl <;> decide
theorem GS.step {ts : List Tie} {n : Nat} {g s : Int → Int} {good : Bool} (h : GS ts n g s good) (okts : ∀ t ∈ ts, TieOk n t) {t : Tie} (ok : TieOk n t) {low high turn : Int} (hlow : low = min (g t.one) (g t.other)) (hhigh : high = max (g t.one) (g t.other)) (ht : turn = (s t.one + s t.other + (if t.foe = true then 1 else 0)) % 2) :
    GS (ts ++ [t]) n (gNew g low high) (sNew g s low high turn) (if low = high then good && decide (turn = 0) else good) := by
  have mono : ∀ x ∈ ts, x ∈ ts ++ [t] := fun x hx => List.mem_append_left _ hx
  have ad : Adj (ts ++ [t]) t.one t.other t.foe := ⟨t, by simp, rfl, .inl ⟨rfl, rfl⟩⟩
  have r1 := (h.rp t.one ok.1 ok.2.1).mono mono
  have r2 := (h.rp t.other ok.2.2.1 ok.2.2.2.1).mono mono
  have b1 := h.bn t.one ok.1 ok.2.1
  have b2 := h.bn t.other ok.2.2.1 ok.2.2.2.1
  have bt : bit turn = ((bit (s t.one) ^^ bit (s t.other)) ^^ t.foe) ∧ (turn = 0 ∨ turn = 1) := by
    rw [ht]
    rcases b1 with e | e <;> rcases b2 with e' | e' <;> rw [e, e'] <;> cases t.foe <;> decide
  have cross : low < high → RP (ts ++ [t]) low high (bit turn) := fun hl => by
    by_cases hc : g t.one ≤ g t.other
    · have e1 : low = g t.one := by omega
      have e2 : high = g t.other := by omega
      have w := (r1.step ad).trans r2.symm
      rw [e1, e2, bt.1]
      rw [show ((bit (s t.one) ^^ bit (s t.other)) ^^ t.foe) = ((bit (s t.one) ^^ t.foe) ^^ bit (s t.other)) from by cases bit (s t.one) <;> cases bit (s t.other) <;> cases t.foe <;> rfl]
      exact w
    · have e1 : low = g t.other := by omega
      have e2 : high = g t.one := by omega
      have w := (r2.step ad.symm).trans r1.symm
      rw [e1, e2, bt.1]
      rw [show ((bit (s t.one) ^^ bit (s t.other)) ^^ t.foe) = ((bit (s t.other) ^^ t.foe) ^^ bit (s t.one)) from by cases bit (s t.one) <;> cases bit (s t.other) <;> cases t.foe <;> rfl]
      exact w
  refine ⟨fun i h0 h1 => ?_, fun i h0 h1 => ?_, fun i h0 h1 => ?_, fun x hx => ?_, fun hg x hx => ?_, fun hg => ?_⟩
  · unfold gNew sNew
    by_cases hc : low < high ∧ g i = high
    · rw [if_pos hc, if_pos hc, (bit_add (h.bn i h0 h1) bt.2).1, Bool.xor_comm]
      have w := (h.rp i h0 h1).mono mono
      rw [hc.2] at w
      exact (cross hc.1).trans w
    · rw [if_neg hc, if_neg hc]
      exact (h.rp i h0 h1).mono mono
  · unfold gNew
    have l := h.le i h0 h1
    have l1 := h.le t.one ok.1 ok.2.1
    have l2 := h.le t.other ok.2.2.1 ok.2.2.2.1
    split
    · omega
    · exact l
  · unfold sNew
    split
    · exact (bit_add (h.bn i h0 h1) bt.2).2
    · exact h.bn i h0 h1
  · unfold gNew
    rcases List.mem_append.mp hx with hx | hx
    · rw [h.eq x hx]
    · rw [List.mem_singleton.mp hx]
      split <;> split <;> omega
  · rcases List.mem_append.mp hx with hx | hx
    · have hgood : good = true := by
        by_cases e : low = high
        · rw [if_pos e] at hg
          revert hg
          cases good <;> simp
        · rw [if_neg e] at hg
          exact hg
      have q := h.yes hgood x hx
      have e := h.eq x hx
      unfold sNew
      by_cases hc : low < high ∧ g x.one = high
      · have hc' : low < high ∧ g x.other = high := ⟨hc.1, by rw [← e]; exact hc.2⟩
        have okx := okts x hx
        rw [if_pos hc, if_pos hc', (bit_add (h.bn x.one okx.1 okx.2.1) bt.2).1, (bit_add (h.bn x.other okx.2.2.1 okx.2.2.2.1) bt.2).1, ← q]
        cases bit (s x.one) <;> cases bit (s x.other) <;> cases bit turn <;> rfl
      · have hc' : ¬ (low < high ∧ g x.other = high) := fun z => hc ⟨z.1, by rw [e]; exact z.2⟩
        rw [if_neg hc, if_neg hc']
        exact q
    · rw [List.mem_singleton.mp hx]
      unfold sNew
      by_cases e : low = high
      · rw [if_pos e] at hg
        have h0 : turn = 0 := by
          revert hg
          cases good <;> simp
        rw [if_neg (by omega), if_neg (by omega)]
        have z := bt.1
        rw [h0] at z
        revert z
        cases bit (s t.one) <;> cases bit (s t.other) <;> cases t.foe <;> decide
      · have hlt : low < high := by omega
        by_cases hc : g t.one ≤ g t.other
        · rw [if_neg (by omega), if_pos ⟨hlt, by omega⟩, (bit_add b2 bt.2).1, bt.1]
          cases bit (s t.one) <;> cases bit (s t.other) <;> cases t.foe <;> rfl
        · rw [if_pos ⟨hlt, by omega⟩, if_neg (by omega), (bit_add b1 bt.2).1, bt.1]
          cases bit (s t.one) <;> cases bit (s t.other) <;> cases t.foe <;> rfl
  · have old : good = false → Odd (ts ++ [t]) n := fun e => by
      obtain ⟨x, hx, r⟩ := h.no e
      exact ⟨x, hx, r.mono mono⟩
    by_cases e : low = high
    · rw [if_pos e] at hg
      cases hgood : good
      · exact old hgood
      · rw [hgood] at hg
        have h1 : turn = 1 := by
          rcases bt.2 with z | z
          · rw [z] at hg
            cases hg
          · exact z
        have eg : g t.one = g t.other := by omega
        have w := (r1.step ad).trans (eg ▸ r2).symm
        refine ⟨g t.one, ?_, ?_⟩
        · have := h.le t.one ok.1 ok.2.1
          have := ok.2.1
          omega
        · have z := bt.1
          rw [h1] at z
          rw [show ((bit (s t.one) ^^ t.foe) ^^ bit (s t.other)) = true from by
            revert z
            cases bit (s t.one) <;> cases bit (s t.other) <;> cases t.foe <;> decide] at w
          exact w
    · rw [if_neg e] at hg
      exact old hg
/-! ### d.update(e) -/
def rUpdate : V → List V → Hp → VK → Prop := fun x vs H Q => ∃ (a b : Addr) (kvs more : List (Key × V)), x = .ref a ∧ vs = [.ref b] ∧ H a = some (.dK kvs) ∧ H b = some (.dK more) ∧ a ≠ b ∧ kvs.length + more.length ≤ sizeLine ∧ Q .non (upd H a (.dK (mergeK kvs more)))
theorem mt_update {X : Cx} : MtR X "dict.update" rUpdate := by
  intro pins s σ H x vs v us Q I rx rv h
  obtain ⟨a, b, kvs, more, ex, ev, e1, e2, ne, hl, q⟩ := h
  subst ex
  subst ev
  obtain rfl : v = Value.ref a := rx
  obtain ⟨u, eu, r1⟩ := vals1 rv
  subst eu
  obtain rfl : u = Value.ref b := r1
  obtain ⟨z1, hd1, vs1, rel1, dd1⟩ := dk_of I.hok e1
  obtain ⟨z2, hd2, vs2, rel2, dd2⟩ := dk_of I.hok e2
  refine call_meetsIn PySem.F.slot_dict_update dd1.typeIs PySem.F.entry_dict_update (PySem.F.args_dict_update_2 _ _) (meets_dict_update (mixKind X.prog X.w) a b ne hd2) ⟨vs1, vs2, dd1, dd2, by rw [← rel1.length, ← rel2.length]; exact hl, fun h' dd' _ hs => ⟨.non, _, ?_, rfl, q⟩⟩
  have he : ∃ q, h'.get? a = some q := let ⟨q, _, _, hq, _⟩ := dd'; ⟨q, hq⟩
  exact d_write (t' := s.toks) I (by rw [e1]; exact True.intro) hs he (dk_new (Nat.le_trans (length_mergeK more kvs) hl) hd1 (rel2.merge rel1) dd')
/-! ### for each place its ties -/
theorem Same.mut {H H' : Hp} {a : Addr} {o : HO} (s : Same H H') (h : H a = none) : Same H (upd H' a o) := fun b x e => by
  rw [upd_ne (ne_of_none e h)]
  exact s b x e
abbrev Nb := Int × Bool
def NbV (H : Hp) (v : V) (p : Nb) : Prop := ∃ a, v = .ref a ∧ H a = some (.tup [.int p.1, .str (kindS p.2)])
theorem NbV.tk {H H' : Hp} (k : Tk H H') {v : V} {p : Nb} (h : NbV H v p) : NbV H' v p := by
  obtain ⟨a, rfl, e⟩ := h
  exact ⟨a, rfl, k _ _ e⟩
structure Around (H : Hp) (L : Addr) (As : List Addr) (N : Nat → List Nb) : Prop where
  at' : H L = some (.lst (As.map V.ref))
  nd : As.Nodup
  each : ∀ j a, As[j]? = some a → ∃ vs, H a = some (.lst vs) ∧ Paired (NbV H) vs (N j)
  out : L ∉ As
theorem Around.same {H H' : Hp} {L : Addr} {As : List Addr} {N : Nat → List Nb} (h : Around H L As N) (s : Same H H') : Around H' L As N :=
  ⟨s _ _ h.at', h.nd, fun j a e => by
    obtain ⟨vs, h1, h2⟩ := h.each j a e
    exact ⟨vs, s _ _ h1, Paired.mono (fun _ _ x => x.tk (Same.tk s)) h2⟩, h.out⟩
theorem Around.put {H : Hp} {L q : Addr} {As : List Addr} {N : Nat → List Nb} (h : Around H L As N) {j : Nat} {a : Addr} {vs : List V} {p : Nb} (ea : As[j]? = some a) (ev : H a = some (.lst vs)) (eq : NbV H (.ref q) p) :
    Around (upd H a (.lst (vs ++ [.ref q]))) L As (fun i => N i ++ if i = j then [p] else []) := by
  have k : Tk H (upd H a (.lst (vs ++ [.ref q]))) := tk_lst ev
  refine ⟨?_, h.nd, fun i b e => ?_, h.out⟩
  · have ne : L ≠ a := fun z => h.out (by rw [z]; exact List.mem_of_getElem? ea)
    rw [upd_ne ne]
    exact h.at'
  · obtain ⟨ws, h1, h2⟩ := h.each i b e
    by_cases hij : i = j
    · subst hij
      rw [ea] at e
      cases e
      rw [ev] at h1
      cases h1
      refine ⟨_, upd_same, ?_⟩
      rw [if_pos rfl]
      exact Paired.snoc (Paired.mono (fun _ _ x => x.tk k) h2) (eq.tk k)
    · have ne : b ≠ a := fun z => hij (by
        subst z
        exact (List.getElem?_inj (List.getElem?_eq_some_iff.mp e).1 h.nd).mp (e.trans ea.symm))
      refine ⟨ws, by rw [upd_ne ne]; exact h1, ?_⟩
      rw [if_neg hij, List.append_nil]
      exact Paired.mono (fun _ _ x => x.tk k) h2
def nb1 (t : Tie) (i : Int) : List Nb := (if i = t.one then [(t.other, t.foe)] else []) ++ (if i = t.other then [(t.one, t.foe)] else [])
def nbs (ts : List Tie) (i : Int) : List Nb := ts.flatMap fun t => nb1 t i
theorem nbs_snoc (ts : List Tie) (t : Tie) (i : Int) : nbs (ts ++ [t]) i = nbs ts i ++ nb1 t i := by
  unfold nbs
  rw [List.flatMap_append]
  simp
theorem nb1_len (t : Tie) (i : Int) : (nb1 t i).length ≤ 2 := by
  unfold nb1
  rw [List.length_append]
  split <;> split <;> simp
theorem nbs_len (ts : List Tie) (i : Int) : (nbs ts i).length ≤ 2 * ts.length := by
  induction ts with
  | nil => simp [nbs]
  | cons t ts ih =>
    have h := nb1_len t i
    unfold nbs at ih ⊢
    rw [List.flatMap_cons, List.length_append, List.length_cons]
    omega
theorem mem_nbs {ts : List Tie} {i : Int} {p : Nb} : p ∈ nbs ts i ↔ Adj ts i p.1 p.2 := by
  unfold nbs Adj nb1
  rw [List.mem_flatMap]
  constructor
  · rintro ⟨t, ht, h⟩
    refine ⟨t, ht, ?_⟩
    rcases List.mem_append.mp h with h | h
    · split at h
      · rename_i e
        rw [List.mem_singleton] at h
        subst h
        exact ⟨rfl, .inl ⟨e.symm, rfl⟩⟩
      · simp at h
    · split at h
      · rename_i e
        rw [List.mem_singleton] at h
        subst h
        exact ⟨rfl, .inr ⟨rfl, e.symm⟩⟩
      · simp at h
  · rintro ⟨t, ht, e, h⟩
    refine ⟨t, ht, List.mem_append.mpr ?_⟩
    obtain ⟨p1, p2⟩ := p
    simp only at e h
    rcases h with ⟨h1, h2⟩ | ⟨h1, h2⟩
    · left
      rw [if_pos h1.symm, List.mem_singleton, ← e, ← h2]
    · right
      rw [if_pos h2.symm, List.mem_singleton, ← e, ← h1]
/-- the list that neighbours tells -/
def AroundAt (H : Hp) (v : V) (n : Int) (ts : List Tie) : Prop := ∃ L As, v = .ref L ∧ (As.length : Int) = n ∧ Around H L As (fun j => nbs ts j)
theorem AroundAt.same {H H' : Hp} {v : V} {n : Int} {ts : List Tie} (h : AroundAt H v n ts) (s : Same H H') : AroundAt H' v n ts := by
  obtain ⟨L, As, rfl, h1, h2⟩ := h
  exact ⟨L, As, rfl, h1, h2.same s⟩
def spNeighbours : Sp := fun vs H Q _ => ∃ (v : V) (n : Int) (ts : List Tie), vs = [v] ∧ WebAt H v n ts ∧ WebOk n ts ∧
  ∀ v' H', AroundAt H' v' n ts → Same H H' → Q v' H'
section
variable {P : Program} {w : World} {K : PySem.W.Frag} {mg : Str → Option Value} {base : Heap}
end
/-! ### the places that ties lead to -/
def sideI (b : Bool) : Int := if b then 1 else 0
def kvOf (ks : List Nb) : List (Key × V) := ks.map fun p => (Sum.inl p.1, V.int (sideI p.2))
theorem kvOf_none {z : Int} : ∀ {ks : List Nb}, z ∉ ks.map (·.1) → valV (kvOf ks) (Sum.inl z) = none
  | [], _ => rfl
  | p :: ks, h => by
    rw [List.map_cons, List.mem_cons, not_or] at h
    have e := kvOf_none (ks := ks) h.2
    have h1 := h.1
    unfold kvOf at e ⊢
    rw [List.map_cons, valV_neg (fun z => h1 (Sum.inl.inj z).symm)]
    exact e
theorem kvOf_some {z : Int} {b : Bool} : ∀ {ks : List Nb}, (ks.map (·.1)).Nodup → (z, b) ∈ ks → valV (kvOf ks) (Sum.inl z) = some (.int (sideI b))
  | p :: ks, nd, h => by
    rw [List.map_cons, List.nodup_cons] at nd
    rcases List.mem_cons.mp h with e | e
    · subst e
      unfold kvOf
      rw [List.map_cons, valV_pos rfl]
    · have q := kvOf_some (ks := ks) nd.2 e
      have ne : p.1 ≠ z := fun y => nd.1 (by rw [y]; exact List.mem_map.mpr ⟨_, e, rfl⟩)
      unfold kvOf at q ⊢
      rw [List.map_cons, valV_neg (fun y => ne (Sum.inl.inj y))]
      exact q
theorem kvOf_put {ks : List Nb} {z : Int} {b : Bool} (h : z ∉ ks.map (·.1)) : putK (kvOf ks) (Sum.inl z) (.int (sideI b)) = kvOf (ks ++ [(z, b)]) := by
  unfold putK
  rw [if_neg]
  · unfold kvOf
    rw [List.map_append]
    rfl
  · intro g
    rw [List.any_eq_true] at g
    obtain ⟨kv, h1, h2⟩ := g
    unfold kvOf at h1
    rw [List.mem_map] at h1
    obtain ⟨p, hp, rfl⟩ := h1
    exact h (List.mem_map.mpr ⟨p, hp, Sum.inl.inj (of_decide_eq_true h2)⟩)
theorem kvOf_len (ks : List Nb) : (kvOf ks).length = ks.length := by unfold kvOf; rw [List.length_map]
theorem pigeon : ∀ (n : Nat) (xs : List Int), xs.Nodup → (∀ x ∈ xs, 0 ≤ x ∧ x < n) → xs.length ≤ n
  | 0, xs, _, h => by
    cases xs with
    | nil => simp
    | cons x r =>
      have := h x (by simp)
      omega
  | n + 1, xs, nd, h => by
    have q := pigeon n (xs.erase (n : Int)) (nd.erase _) fun x hx => by
      have h1 := h x (List.mem_of_mem_erase hx)
      have h2 : x ≠ n := (List.Nodup.mem_erase_iff nd).mp hx |>.1
      omega
    have l := List.length_erase (a := (n : Int)) (l := xs)
    split at l
    · omega
    · omega
structure SF (ts : List Tie) (s : Int) (ks : List Nb) (wl ex : List Int) : Prop where
  nd : (ks.map (·.1)).Nodup
  rp : ∀ p ∈ ks, RP ts s p.1 p.2
  st : s ∈ ks.map (·.1)
  sub : ∀ x ∈ wl, x ∈ ks.map (·.1)
  le : wl.length ≤ ks.length
  cl : ∀ x ∈ ks.map (·.1), x ∉ wl → x ∉ ex → ∀ y k, Adj ts x y k → y ∈ ks.map (·.1)
theorem SF.keys {ts : List Tie} {s : Int} {ks : List Nb} {wl ex : List Int} (h : SF ts s ks wl ex) {x : Int} (hx : x ∈ ks.map (·.1)) : ∃ b, (x, b) ∈ ks ∧ RP ts s x b := by
  obtain ⟨p, hp, rfl⟩ := List.mem_map.mp hx
  exact ⟨p.2, hp, h.rp p hp⟩
theorem SF.few {ts : List Tie} {n : Nat} {s : Int} {ks : List Nb} {wl ex : List Int} (h : SF ts s ks wl ex) (ok : ∀ t ∈ ts, TieOk n t) (hs : 0 ≤ s ∧ s < n) : ks.length ≤ n := by
  have q := pigeon n (ks.map (·.1)) h.nd fun x hx => by
    obtain ⟨b, _, hb⟩ := h.keys hx
    exact Rch.rng ok hs ⟨b, hb⟩
  rw [List.length_map] at q
  exact q
theorem SF.all {ts : List Tie} {s : Int} {ks : List Nb} (h : SF ts s ks [] []) (z : Int) : z ∈ ks.map (·.1) ↔ Rch ts s z := by
  constructor
  · intro hz
    obtain ⟨b, _, hb⟩ := h.keys hz
    exact ⟨b, hb⟩
  · intro hz
    exact hz.ind (fun x => x ∈ ks.map (·.1)) h.st fun x y k hx ad => h.cl x hx (by simp) (by simp) y k ad
theorem SF.pop {ts : List Tie} {s p : Int} {ks : List Nb} {wl : List Int} (h : SF ts s ks (wl ++ [p]) []) : SF ts s ks wl [p] :=
  ⟨h.nd, h.rp, h.st, fun x hx => h.sub x (List.mem_append_left _ hx), by have := h.le; rw [List.length_append] at this; omega, fun x hx h1 h2 => h.cl x hx (fun z => by
    rcases List.mem_append.mp z with z | z
    · exact h1 z
    · exact h2 z) (by simp)⟩
theorem SF.push {ts : List Tie} {s p y : Int} {b f : Bool} {ks : List Nb} {wl : List Int} (h : SF ts s ks wl [p]) (hp : RP ts s p b) (ad : Adj ts p y f) (hy : y ∉ ks.map (·.1)) : SF ts s (ks ++ [(y, b ^^ f)]) (wl ++ [y]) [p] := by
  have em : (ks ++ [(y, b ^^ f)]).map (·.1) = ks.map (·.1) ++ [y] := by rw [List.map_append]; rfl
  refine ⟨?_, fun q hq => ?_, ?_, fun x hx => ?_, ?_, fun x hx h1 h2 z k hz => ?_⟩
  · rw [em, List.nodup_append]
    refine ⟨h.nd, by simp, fun x hx z hz e => ?_⟩
    rw [List.mem_singleton] at hz
    subst hz
    subst e
    exact hy hx
  · rcases List.mem_append.mp hq with q1 | q1
    · exact h.rp q q1
    · rw [List.mem_singleton] at q1
      subst q1
      exact hp.step ad
  · rw [em]
    exact List.mem_append_left _ h.st
  · rw [em]
    rcases List.mem_append.mp hx with q1 | q1
    · exact List.mem_append_left _ (h.sub x q1)
    · exact List.mem_append_right _ q1
  · rw [List.length_append, List.length_append]
    have := h.le
    simp
    omega
  · rw [em] at hx ⊢
    rcases List.mem_append.mp hx with q1 | q1
    · exact List.mem_append_left _ (h.cl x q1 (fun q2 => h1 (List.mem_append_left _ q2)) h2 z k hz)
    · exact absurd (List.mem_append_right _ q1) h1
theorem SF.done {ts : List Tie} {s p : Int} {ks : List Nb} {wl : List Int} (h : SF ts s ks wl [p]) (hp : ∀ q ∈ nbs ts p, q.1 ∈ ks.map (·.1)) : SF ts s ks wl [] :=
  ⟨h.nd, h.rp, h.st, h.sub, h.le, fun x hx h1 _ y k ad => by
    by_cases e : x = p
    · subst e
      exact hp (y, k) (mem_nbs.mpr ad)
    · exact h.cl x hx h1 (fun z => e (List.mem_singleton.mp z)) y k ad⟩
theorem side_xor (b f : Bool) : (if decide (V.str (kindS f) = V.str "friend") = true then sideI b else 1 - sideI b) = sideI (b ^^ f) := by
  cases f
  · cases b <;> rfl
  · cases b <;> rfl
theorem room1 {k : Nat} {A : PySem.Around} (r : Room k A) : A.units + 1 < cLine := by have := r.un; omega
structure SidesOf (ts : List Tie) (s : Int) (ks : List Nb) : Prop where
  nd : (ks.map (·.1)).Nodup
  rp : ∀ p ∈ ks, RP ts s p.1 p.2
  all : ∀ z, z ∈ ks.map (·.1) ↔ Rch ts s z
def spSidesFrom : Sp := fun vs H Q _ => ∃ (v : V) (n : Int) (s : Int) (ts : List Tie), vs = [.int s, v] ∧ AroundAt H v n ts ∧ WebOk n ts ∧ 0 ≤ s ∧ s < n ∧
  ∀ d ks H', H d = none → H' d = some (.dK (kvOf ks)) → Same H H' → SidesOf ts s ks → Q (.ref d) H'
section
variable {P : Program} {w : World} {K : PySem.W.Frag} {mg : Str → Option Value} {base : Heap}
end
theorem mem_putK {k z : Key} {v : V} {kvs : List (Key × V)} : z ∈ (putK kvs k v).map (·.1) ↔ z ∈ kvs.map (·.1) ∨ z = k := by
  unfold putK
  split
  · rename_i h
    rw [List.any_eq_true] at h
    obtain ⟨kv, h1, h2⟩ := h
    have h3 := of_decide_eq_true h2
    rw [List.map_map]
    have e : (Prod.fst ∘ fun kv : Key × V => if kv.1 = k then (kv.1, v) else kv) = Prod.fst := by
      funext p
      show (if p.1 = k then (p.1, v) else p).1 = p.1
      split <;> rfl
    rw [show ((fun x : Key × V => x.1) ∘ fun kv : Key × V => if kv.1 = k then (kv.1, v) else kv) = Prod.fst from e]
    constructor
    · exact .inl
    · rintro (h | h)
      · exact h
      · rw [h, ← h3]
        exact List.mem_map.mpr ⟨kv, h1, rfl⟩
  · rw [List.map_append, List.mem_append]
    simp
theorem mem_mergeK {z : Key} : ∀ {more kvs : List (Key × V)}, z ∈ (mergeK kvs more).map (·.1) ↔ z ∈ kvs.map (·.1) ∨ z ∈ more.map (·.1)
  | [], kvs => by
    show z ∈ kvs.map (·.1) ↔ _
    simp
  | p :: r, kvs => by
    have q := mem_mergeK (z := z) (more := r) (kvs := putK kvs p.1 p.2)
    rw [mem_putK] at q
    show z ∈ (mergeK (putK kvs p.1 p.2) r).map (·.1) ↔ _
    rw [q, List.map_cons, List.mem_cons, or_assoc]
theorem valV_isSome {k : Key} : ∀ {kvs : List (Key × V)}, (valV kvs k).isSome = true ↔ k ∈ kvs.map (·.1)
  | [] => by simp [valV_nil]
  | p :: r => by
    by_cases h : p.1 = k
    · rw [valV_pos h, List.map_cons, List.mem_cons]
      simp [h]
    · rw [valV_neg h, List.map_cons, List.mem_cons, valV_isSome]
      constructor
      · exact .inr
      · rintro (e | e)
        · exact absurd e.symm h
        · exact e
theorem kvOf_keys (ks : List Nb) : (kvOf ks).map (·.1) = (ks.map (·.1)).map Sum.inl := by
  unfold kvOf
  rw [List.map_map, List.map_map]
  rfl
theorem lead_iff {ts : List Tie} {n : Nat} (ok : ∀ t ∈ ts, TieOk n t) {i : Int} (h0 : 0 ≤ i ∧ i < n) : leader ts i ↔ ¬ ∃ x, 0 ≤ x ∧ x < i ∧ Rch ts x i := by
  constructor
  · rintro h ⟨x, h1, h2, h3⟩
    have := h x h3.symm
    omega
  · intro h q hq
    rcases Int.lt_or_le q i with l | l
    · exact absurd ⟨q, (hq.rng ok h0).1, l, hq.symm⟩ h
    · exact l
/-! ### the fixed choice, as it is told -/
def spFixed : Sp := fun vs H Q _ => ∃ (v : V) (n : Nat) (ts : List Tie), vs = [v] ∧ WebAt H v n ts ∧ WebOk n ts ∧
  (∀ ss r H', Told ts n ss → Cons ss ts → Same H H' → H' r = some (.tup (ss.map V.int)) → Q (.ref r) H') ∧ ∀ H', Odd ts n → Same H H' → Q .non H'
theorem valV_merge : ∀ {more kvs : List (Key × V)} {k : Key} {v : V}, valV (mergeK kvs more) k = some v → valV kvs k = some v ∨ (k, v) ∈ more
  | [], _, _, _, h => .inl h
  | p :: r, kvs, k, v, h => by
    have q := valV_merge (more := r) (kvs := putK kvs p.1 p.2) (k := k) (v := v) h
    rcases q with q | q
    · rw [valV_put] at q
      by_cases e : k = p.1
      · rw [if_pos e] at q
        obtain rfl := Option.some.inj q
        exact .inr (by rw [e]; simp)
      · rw [if_neg e] at q
        exact .inl q
    · exact .inr (List.mem_cons_of_mem _ q)
theorem told_of {ts : List Tie} {n : Nat} {ss : List Int} (hl : ss.length = n) (h : ∀ (i : Nat) (x : Int), ss[i]? = some x → ∃ m b, leader ts m ∧ RP ts m i b ∧ x = sideI b) : Told ts n ss := by
  refine ⟨hl, fun x hx => ?_, fun i h0 h1 => ?_⟩
  · obtain ⟨i, hi⟩ := List.getElem?_of_mem hx
    obtain ⟨m, b, _, _, rfl⟩ := h i x hi
    cases b
    · exact .inl rfl
    · exact .inr rfl
  · obtain ⟨h', e⟩ := sd_get (ss := ss) h0 (by rw [hl]; exact h1)
    obtain ⟨m, b, l, r, ex⟩ := h i.toNat _ (List.getElem?_eq_getElem h')
    refine ⟨m, l, ?_⟩
    have e2 : one? ss i = b := by
      unfold one?
      rw [e, ex]
      cases b <;> rfl
    rw [e2]
    rw [show ((i.toNat : Nat) : Int) = i from by omega] at r
    exact r
section
variable {P : Program} {w : World} {K : PySem.W.Frag} {mg : Str → Option Value} {base : Heap}
end
/-! ### zip of three tuples of one length -/
def ItZ (K : PySem.W.Frag) (a b c : Addr) : It where
  go := fun i H => ∃ (xs ys zs : List V), (SqT K H a xs ∧ SqT K H b ys ∧ SqT K H c zs) ∧ i < xs.length ∧ ys.length = xs.length ∧ zs.length = xs.length
  yld := fun i H v H' => ∃ T x y z, v = .ref T ∧ H T = none ∧ H' = upd H T (.tup [x, y, z]) ∧ (∀ xs, SqT K H a xs → xs[i]? = some x) ∧ (∀ ys, SqT K H b ys → ys[i]? = some y) ∧ ∀ zs, SqT K H c zs → zs[i]? = some z
  stop := fun i H => ∃ (xs ys zs : List V), (SqT K H a xs ∧ SqT K H b ys ∧ SqT K H c zs) ∧ xs.length = i ∧ ys.length = i ∧ zs.length = i
theorem turn_zip3 {P : Program} {w : World} {K : PySem.W.Frag} {elts : List Expr} {kk : Nat} {tpos : Pos} {a b c z TI TO i1 i2 i3 : Addr} (S : ZipSep3 z TI TO i1 i2 i3 [i1, a] [i2, b] [i3, c]) (n1 : a ≠ i1) (n2 : b ≠ i2) (n3 : c ≠ i3) :
    Turn P w K (.Tuple elts kk tpos) (ItZ K a b c) [z, TI, TO, i1, i2, i3] z (fun i h => IsZip h z TI TO .none ∧ IsTupOf3 h TI (.ref i1) (.ref i2) (.ref i3) ∧ (∃ a1 a2 a3, IsTupOf3 h TO a1 a2 a3) ∧ h.IsTupleIter i1 a i ∧ h.IsTupleIter i2 b i ∧ h.IsTupleIter i3 c i) where
  mem := List.mem_cons_self
  obj := by
    rintro i h ⟨hz, hTI, ⟨a1, a2, a3, hTO⟩, ⟨o1, e1, _, d1⟩, ⟨o2, e2, _, d2⟩, ⟨o3, e3, _, d3⟩⟩ q hq
    simp only [List.mem_cons, List.not_mem_nil, or_false] at hq
    rcases hq with rfl | rfl | rfl | rfl | rfl | rfl
    · exact ⟨_, hz, fun v y => nomatch y⟩
    · exact ⟨_, hTI, fun v y => nomatch y⟩
    · exact ⟨_, hTO, fun v y => nomatch y⟩
    · exact ⟨o1, e1, fun v y => by rw [d1] at y; cases y⟩
    · exact ⟨o2, e2, fun v y => by rw [d2] at y; cases y⟩
    · exact ⟨o3, e3, fun v y => by rw [d3] at y; cases y⟩
  keep := by
    rintro i h h' ⟨hz, hTI, ⟨a1, a2, a3, hTO⟩, t1, t2, t3⟩ kp
    exact ⟨kp z (by simp) _ hz, kp TI (by simp) _ hTI, ⟨a1, a2, a3, kp TO (by simp) _ hTO⟩, t1.at fun o q => kp i1 (by simp) o q, t2.at fun o q => kp i2 (by simp) o q, t3.at fun o q => kp i3 (by simp) o q⟩
  item := by
    intro X hP hw hK hc i pins s σ H E I hf st hg
    subst hP hw hK
    obtain ⟨hz, hTI, hTO, t1, t2, t3⟩ := st
    obtain ⟨xs, ys, zs, ⟨qx, qy, qz⟩, hi, ly, lz⟩ := hg
    obtain ⟨us, ru, tu, _⟩ := I.tuple qx
    obtain ⟨vs, rv, tv, _⟩ := I.tuple qy
    obtain ⟨ws, rw', tw, _⟩ := I.tuple qz
    have lu := ru.length
    have lv := rv.length
    have lw := rw'.length
    obtain ⟨u, hu, eu⟩ := ru.get (List.getElem?_eq_getElem hi)
    obtain ⟨v, hv, ev⟩ := rv.get (List.getElem?_eq_getElem (show i < ys.length by omega))
    obtain ⟨w', hw, ew⟩ := rw'.get (List.getElem?_eq_getElem (show i < zs.length by omega))
    have W := WalksT.zipD3 (A := X.A) S (Draws.tuple (prog := X.prog) (w := X.w) (A := X.A.in1) (I.ok.hd hc) i1 a n1 us.toArray) (Draws.tuple (prog := X.prog) (w := X.w) (A := X.A.in1) (I.ok.hd hc) i2 b n2 vs.toArray) (Draws.tuple (prog := X.prog) (w := X.w) (A := X.A.in1) (I.ok.hd hc) i3 c n3 ws.toArray)
    refine W.item i s _ _ (by simp only [List.size_toArray]; omega) ⟨hz, hTI, hTO, ⟨t1, tu⟩, ⟨t2, tv⟩, ⟨t3, tw⟩⟩ fun T vals h' tk hp newT isT mid kp => ?_
    obtain ⟨y1, y2, y3, p1, p2, p3, rfl⟩ := hp
    have apart := W.apart i T h' mid
    obtain rfl : u = y1 := Option.some.inj (((by simpa using hu) : us.toArray[i]? = some u).symm.trans p1)
    obtain rfl : v = y2 := Option.some.inj (((by simpa using hv) : vs.toArray[i]? = some v).symm.trans p2)
    obtain rfl : w' = y3 := Option.some.inj (((by simpa using hw) : ws.toArray[i]? = some w').symm.trans p3)
    refine ⟨_, rfl, W.go elts kk tpos i T { s with heap := h', toks := tk } _ _ mid fun h2 st2 kp2 => ?_⟩
    obtain ⟨g1, g2, g3, ⟨g4, _⟩, ⟨g5, _⟩, ⟨g6, _⟩⟩ := st2
    have objT : ObjOk X.prog X.w (upd H T (.tup [xs[i], ys[i], zs[i]])) h2 T (.tup [xs[i], ys[i], zs[i]]) := by
      obtain ⟨ot, et, ct, nt, dt⟩ := isT
      exact ⟨by show 3 ≤ sizeLine; decide, [u, v, w'], .cons eu (.cons ev (.cons ew .nil)), ⟨ot, kp2 _ _ apart et, ct, nt, dt⟩⟩
    have J : Inv X pins σ (upd H T (.tup [xs[i], ys[i], zs[i]])) { s with heap := h2, toks := tk } := I.turnedNew (ch := [z, TI, TO, i1, i2, i3]) (fun q ob hq e => by
      simp only [List.mem_cons, List.not_mem_nil, or_false, not_or] at hq
      have nw : q ∉ [z, TO, i1, i2, i3] := by simp [hq]
      exact kp2 q ob nw (kp q ob nw e)) hf newT objT
    refine ⟨.ref T, _, J, rfl, ⟨T, _, _, _, rfl, I.hok.fresh newT, rfl, fun l hl => by rw [I.tuple_inj hl qx]; exact List.getElem?_eq_getElem hi, fun l hl => by rw [I.tuple_inj hl qy]; exact List.getElem?_eq_getElem _, fun l hl => by rw [I.tuple_inj hl qz]; exact List.getElem?_eq_getElem _⟩, ⟨g1, g2, g3, g4, g5, g6⟩, fun q hq => ?_⟩
    have lq : q < s.heap.objs.size := by
      obtain ⟨_, _, ⟨a1, a2, a3, hTO⟩⟩ := (⟨hz, hTI, hTO⟩ : _ ∧ _ ∧ _)
      obtain ⟨o1, e1, _⟩ := t1
      obtain ⟨o2, e2, _⟩ := t2
      obtain ⟨o3, e3, _⟩ := t3
      simp only [List.mem_cons, List.not_mem_nil, or_false] at hq
      rcases hq with rfl | rfl | rfl | rfl | rfl | rfl
      · exact Heap.lt_size hz
      · exact Heap.lt_size hTI
      · exact Heap.lt_size hTO
      · exact Heap.lt_size e1
      · exact Heap.lt_size e2
      · exact Heap.lt_size e3
    rw [upd_ne (Nat.ne_of_lt (Nat.lt_of_lt_of_le lq newT))]
    exact (hf q hq).1
  done := by
    intro X hP hw hK hc i pins s σ H E I hf st hg
    subst hP hw hK
    obtain ⟨hz, hTI, hTO, t1, t2, t3⟩ := st
    obtain ⟨xs, ys, zs, ⟨qx, qy, qz⟩, lx, ly, lz⟩ := hg
    obtain ⟨us, ru, tu, _⟩ := I.tuple qx
    obtain ⟨vs, rv, tv, _⟩ := I.tuple qy
    obtain ⟨ws, rw', tw, _⟩ := I.tuple qz
    have lu := ru.length
    have lv := rv.length
    have lw := rw'.length
    have W := WalksT.zipD3 (A := X.A) S (Draws.tuple (prog := X.prog) (w := X.w) (A := X.A.in1) (I.ok.hd hc) i1 a n1 us.toArray) (Draws.tuple (prog := X.prog) (w := X.w) (A := X.A.in1) (I.ok.hd hc) i2 b n2 vs.toArray) (Draws.tuple (prog := X.prog) (w := X.w) (A := X.A.in1) (I.ok.hd hc) i3 c n3 ws.toArray)
    have en : min (min us.toArray.size vs.toArray.size) ws.toArray.size = i := by simp only [List.size_toArray]; omega
    refine W.done s _ _ ?_ fun h' tk kp => ⟨rfl, ?_⟩
    · rw [en]
      exact ⟨hz, hTI, hTO, ⟨t1, tu⟩, ⟨t2, tv⟩, ⟨t3, tw⟩⟩
    · refine I.turnedL (ch := [z, TI, TO, i1, i2, i3]) (fun q ob hq e => ?_) hf
      simp only [List.mem_cons, List.not_mem_nil, or_false, not_or] at hq
      exact kp q ob (by simp [hq]) e
  self := by
    rintro A i s Q E ⟨hz, _⟩ h
    exact wpAny_pyIter_zip hz h
def iZip3 (K : PySem.W.Frag) (ta : TA) : TI := fun σ H R => ta σ H fun vs H1 => ∃ a b c xs ys zs, vs = [.ref a, .ref b, .ref c] ∧ SqT K H1 a xs ∧ SqT K H1 b ys ∧ SqT K H1 c zs ∧ R (ItZ K a b c) H1
theorem pi_zip3 {X : Cx} {e e2 e3 : Expr} {ta : TA} {p pos tpos : Pos} {elts : List Expr} {kk : Nat} (hg : Gl X "zip") (hm : X.mg "zip" = none) (ha : PA X [e, e2, e3] ta) (hs : starEach [e, e2, e3] X.env = (false, eval e X.env) :: starEach [e2, e3] X.env := by rfl)
    (hpl : (backTo pos (starEach [e2, e3] X.env)).any (·.1) = false := by rfl) : PI X (.Tuple elts kk tpos) (.Call (.Name "zip" p) [e, e2, e3] [] pos) (iZip3 X.K ta) := by
  refine ⟨fun pins s σ H R I want => Call_ (ld_blt I hg hm PyProof.Rows.boot_zip (PyProof.Rows.callWith_type1 (thn (ha.run pos pins s σ H _ I want) fun us s1 got => ?_) hs hpl))⟩
  obtain ⟨vs, H1, J, rel, a, b, c, xs, ys, zs, ex, qa, qb, qc, q⟩ := got
  subst ex
  cases rel with
  | cons r1 rel =>
    cases rel with
    | cons r2 rel =>
      cases rel with
      | cons r3 rel =>
        cases rel
        cases r1
        cases r2
        cases r3
        obtain ⟨u1, _, t1, _⟩ := J.tuple qa
        obtain ⟨u2, _, t2, _⟩ := J.tuple qb
        obtain ⟨u3, _, t3, _⟩ := J.tuple qc
        have la : a < s1.heap.objs.size := let ⟨_, y, _⟩ := t1; Heap.lt_size y
        have lb : b < s1.heap.objs.size := let ⟨_, y, _⟩ := t2; Heap.lt_size y
        have lc : c < s1.heap.objs.size := let ⟨_, y, _⟩ := t3; Heap.lt_size y
        refine zip_begins3 (begins_tuple a u1.toArray) (begins_tuple b u2.toArray) (begins_tuple c u3.toArray) t1 t2 t3 fun h' hz hTI hTO g1 g2 g3 _ kp => wpAny_pyIter_zip hz ?_
        have J2 : Inv X pins σ H1 { s1 with heap := h' } := J.kept (t' := s1.toks) kp
        have S := zip_sep3 (N := s1.heap.objs.size) (fp1 := [a]) (fp2 := [b]) (fp3 := [c]) (fun y hy => by rw [List.mem_singleton.mp hy]; exact la) (fun y hy => by rw [List.mem_singleton.mp hy]; exact lb) (fun y hy => by rw [List.mem_singleton.mp hy]; exact lc)
        refine ⟨s1.heap.objs.size + 5, [s1.heap.objs.size + 5, s1.heap.objs.size + 3, s1.heap.objs.size + 4, s1.heap.objs.size, s1.heap.objs.size + 1, s1.heap.objs.size + 2], _, _, H1, rfl, J2, turn_zip3 S (Nat.ne_of_lt la) (Nat.ne_of_lt (Nat.lt_succ_of_lt lb)) (Nat.ne_of_lt (Nat.lt_succ_of_lt (Nat.lt_succ_of_lt lc))), ⟨hz, hTI, ⟨_, _, _, hTO⟩, ⟨_, g1, rfl, rfl⟩, ⟨_, g2, rfl, rfl⟩, ⟨_, g3, rfl, rfl⟩⟩, fun y hy => ?_, q⟩
        have ly : s1.heap.objs.size ≤ y := by
          simp only [List.mem_cons, List.not_mem_nil, or_false] at hy
          rcases hy with rfl | rfl | rfl | rfl | rfl | rfl
          · exact Nat.le_add_right _ _
          · exact Nat.le_add_right _ _
          · exact Nat.le_add_right _ _
          · exact Nat.le_refl _
          · exact Nat.le_add_right _ _
          · exact Nat.le_add_right _ _
        exact J.fpOk ly (J.hok.fresh ly)
/-! ### t[::-1] of a tuple -/
theorem fm_congr {α β : Type} {f g : α → Option β} : ∀ {l : List α}, (∀ x ∈ l, f x = g x) → l.filterMap f = l.filterMap g
  | [], _ => rfl
  | x :: l, h => by
    rw [List.filterMap_cons, List.filterMap_cons, h x (by simp), fm_congr (l := l) fun y hy => h y (List.mem_cons_of_mem _ hy)]
theorem back_pick (items : Array Value) : ((List.range items.size).filterMap fun (k : Nat) => items[((items.size : Int) - 1 + (k : Int) * (-1)).toNat]?).toArray = items.toList.reverse.toArray := by
  have e : (List.range items.size).filterMap (fun (k : Nat) => items[((items.size : Int) - 1 + (k : Int) * (-1)).toNat]?) = ((List.range items.size).map fun k => items.size - 1 - k).filterMap (items[·]?) := by
    rw [List.filterMap_map]
    refine fm_congr fun k hk => ?_
    have := List.mem_range.mp hk
    show _ = items[items.size - 1 - k]?
    congr 1
    omega
  rw [e, PySem.W.krv_range, List.filterMap_reverse, PySem.W.krv_all]
section
variable {P : Program} {w : World} {A : PySem.Around} {E : Value → Shared → Prop} {s : Shared}
theorem applied_back {sl : Addr} {vk : Value} {n : Nat} {Q : Int × Int × Nat → Shared → Prop} (hs : s.heap.IsSliceOf sl .none .none vk) (pk : IsPart vk (some (-1))) (h : Q ((n : Int) - 1, -1, n) s) : wpAny (model P w) A (Builtin.Slice.sliceApplied (.ref sl) (pure (n : Int))) Q E s := by
  obtain ⟨os, look, _, flds⟩ := id hs
  unfold Builtin.Slice.sliceApplied Builtin.Slice.sliceFields
  refine wpAny_bind (wpAny_bind (wpAny_field look flds (x := .none) rfl (wpAny_bind (wpAny_field look flds (x := .none) rfl (wpAny_bind (wpAny_field look flds (x := vk) rfl (wpAny_pure ?_)))))))
  refine wpAny_bind (HT.slicePart_ pk ?_)
  show wpAny _ _ (if ((-1 : Int) == 0) = true then _ else _) _ _ s
  rw [if_neg (by decide)]
  refine wpAny_bind (HT.slicePart_ .none (wpAny_bind (HT.slicePart_ .none (wpAny_bind (wpAny_pure ?_)))))
  have pl : Builtin.Slice.slicePlaces ((n : Int) - 1) (-1) (-1) = n := by
    unfold Builtin.Slice.slicePlaces
    rw [if_neg (by decide)]
    by_cases z : (n : Int) - 1 > -1
    · rw [if_pos z, show (-(-1) : Int) = 1 from by decide, Int.ediv_one]
      omega
    · rw [if_neg z]
      omega
  show wpAny _ _ (pure ((n : Int) - 1, (-1 : Int), Builtin.Slice.slicePlaces ((n : Int) - 1) (-1) (-1))) _ _ s
  rw [pl]
  exact wpAny_pure h
theorem getItem_back {t sl : Addr} {items : Array Value} {vk : Value} {Q : Value → Shared → Prop} (ht : IsTup s.heap t items) (hs : s.heap.IsSliceOf sl .none .none vk) (pk : IsPart vk (some (-1))) (hsz : items.size ≤ sizeLine)
    (h : Q (.ref s.heap.objs.size) { s with heap := s.heap.push { cls := .type "tuple", data := .seq items.toList.reverse.toArray } }) : wpAny (model P w) A (getItem (.ref t) (.ref sl)) Q E s := by
  have small : sizeOk (.seq items.toList.reverse.toArray) := by
    show items.toList.reverse.toArray.size ≤ sizeLine
    rw [List.size_toArray, List.length_reverse, Array.length_toList]
    exact hsz
  obtain ⟨os, look, kind, _⟩ := id hs
  have isSl : s.TypeIs (.ref sl) "slice" := ⟨os, look, kind⟩
  unfold getItem
  try with_reducible refine wpAny_holding ?_
  first | refine wpAny_bind (wpAny_pure ?_) | skip
  refine wpAny_bind (wpAny_sequenceKey ht.typeIs (by decide) ?_)
  refine wpAny_bind (wpAny_callSpecial?_slot (name := Str.ofString "__getitem__") ht.typeIs PyProof.Rows.slot_tuple_getitem (wpAny_call_entry PyProof.Rows.slot_tuple_getitem ht.typeIs PySem.F.entry_tuple_getitem ?_ (PySem.F.args_tuple_getitem_2 _ _)))
  show wpAny _ _ (Builtin.Tuple.tupleItemsOf (.ref t) >>= _) _ _ s
  refine wpAny_bind (tupleItemsOf_ ht ?_)
  refine wpAny_bind (wpAny_typeOf isSl ?_)
  rw [if_pos (by decide)]
  refine wpAny_bind (applied_back hs pk ?_)
  have no : ¬ (((items.size : Int) - 1 == 0 && (-1 : Int) == 1 && items.size == items.size) = true) := by
    intro z
    rw [Bool.and_eq_true, Bool.and_eq_true] at z
    exact absurd z.1.2 (by decide)
  show wpAny _ _ (if ((items.size : Int) - 1 == 0 && (-1 : Int) == 1 && items.size == items.size) = true then _ else _) _ _ s
  rw [if_neg no, back_pick]
  first
    | exact wpAny_bind (m := Builtin.Tuple.tupleExact _) (wpAny_newObj_type (wpAny_pure ⟨_, rfl, wpAny_pure h⟩) small)
    | exact wpAny_bind (wpAny_bind (m := Builtin.Tuple.tupleExact _) (wpAny_newObj_type (wpAny_pure (wpAny_pure ⟨_, rfl, wpAny_pure h⟩)) small))
    | exact wpAny_bind (m := Builtin.Tuple.tupleExact _) (wpAny_newObj_type (wpAny_bind (wpAny_pure (wpAny_pure ⟨_, rfl, wpAny_pure h⟩))) small)
end
def tRevT (K : PySem.W.Frag) (te : TE) : TE := fun σ H Q => te σ H fun x H1 => ∃ a xs, x = .ref a ∧ SqT K H1 a xs ∧ ∀ p, H1 p = none → Q (.ref p) (upd H1 p (.tup xs.reverse))
theorem pe_revT {X : Cx} {e : Expr} {te : TE} {k : Nat} {p1 p2 p3 pos : Pos} (he : PE X e te) : PE X (.Subscript e (.Slice none none (some (.UnaryOp .USub (.Constant (.int 1) k p1) p2)) p3) pos) (tRevT X.K te) := by
  refine ⟨fun pins s σ H Q I want => Subscript_ (thn (he.run pins s σ H _ I want) fun v s1 got => ?_)⟩
  obtain ⟨x, H1, I1, r1, a, xs, ex, hx, q⟩ := got
  subst ex
  obtain rfl : v = Value.ref a := r1
  have step : PO X (some (.UnaryOp .USub (.Constant (.int 1) k p1) p2)) (tPart (tUn (rU fun i => .int (-i)) (tC (.int 1)))) := po_some (pe_un un_neg pe_int)
  refine wpAny_Slice (thn (po_none.run pins s1 σ H1 (fun o H2 => o = none ∧ H2 = H1) I1 ⟨rfl, rfl⟩) fun vl s2 got2 => ?_)
  obtain ⟨_, _, I2, pl, rfl, rfl⟩ := got2
  refine thn (po_none.run pins s2 σ _ (fun o H3 => o = none ∧ H3 = _) I2 ⟨rfl, rfl⟩) fun vu s3 got3 => ?_
  obtain ⟨_, _, I3, pu, rfl, rfl⟩ := got3
  refine thn (step.run pins s3 σ _ (fun o H4 => o = some (-1) ∧ H4 = _) I3 ⟨1, rfl, -1, rfl, rfl, rfl⟩) fun vk s4 got4 => ?_
  obtain ⟨_, H4, I4, pk, rfl, rfl⟩ := got4
  cases pl
  cases pu
  have I5 : Inv X pins σ H4 { s4 with heap := s4.heap.push { cls := .type "slice", data := .fields #[.none, .none, vk] } } := I4.kept (t' := s4.toks) fun b ob z => Heap.get?_push_of_some _ z
  obtain ⟨its, rel, tup, small⟩ := I5.tuple hx
  have hlen := rel.length
  show wpAny (model X.prog X.w) X.A (subscriptTail e (.Slice none none (some (.UnaryOp .USub (.Constant (.int 1) k p1) p2)) p3) (.ref a) (.ref s4.heap.objs.size)) (EP X pins σ Q) X.xe _
  refine tail_any (ops := [.ref a, .ref s4.heap.objs.size]) tup.typeIs PyProof.Rows.slot_tuple_getitem.lookup ?_ (by with_unfolding_all rfl)
  refine getItem_back tup (Heap.IsSliceOf.new _ .none .none vk) pk (by rw [List.size_toArray]; omega) ?_
  refine ⟨.ref _, _, I5.laid (t' := s4.toks) (o := .tup xs.reverse) (fun b ob z => Heap.get?_push_of_some _ z) (Nat.le_refl _) ?_, rfl, q _ (I5.hok.fresh (Nat.le_refl _))⟩
  exact ⟨by rw [List.length_reverse]; exact small, _, rel.reverse, IsTup.new _ _⟩
/-! ### len(set(t)) of a tuple of ints -/
theorem sub_len : ∀ {ks ns : List Int}, ks.Nodup → (∀ x ∈ ks, x ∈ ns) → ks.length ≤ ns.length
  | [], _, _, _ => Nat.zero_le _
  | k :: ks, ns, nd, h => by
    rw [List.nodup_cons] at nd
    have hk := h k (by simp)
    have q := sub_len (ks := ks) (ns := ns.erase k) nd.2 fun x hx => (List.mem_erase_of_ne (fun z => nd.1 (by rw [← z]; exact hx))).mpr (h x (List.mem_cons_of_mem _ hx))
    rw [List.length_erase_of_mem hk] at q
    have : 0 < ns.length := List.length_pos_of_mem hk
    rw [List.length_cons]
    omega
theorem twice : ∀ {ns : List Int}, ¬ ns.Nodup → ∃ x, x ∈ ns ∧ x ∈ ns.erase x
  | [], h => absurd List.nodup_nil h
  | y :: l, h => by
    by_cases hy : y ∈ l
    · exact ⟨y, by simp, by rw [List.erase_cons_head]; exact hy⟩
    · have hl : ¬ l.Nodup := fun z => h (List.nodup_cons.mpr ⟨hy, z⟩)
      obtain ⟨x, h1, h2⟩ := twice hl
      refine ⟨x, List.mem_cons_of_mem _ h1, ?_⟩
      have ne : y ≠ x := fun z => hy (by rw [z]; exact h1)
      rw [List.erase_cons_tail (by simpa using ne)]
      exact List.mem_cons_of_mem _ h2
theorem many_iff {ks ns : List Int} (nd : ks.Nodup) (h : ∀ x, x ∈ ns ↔ x ∈ ks) : ks.length = ns.length ↔ ns.Nodup := by
  constructor
  · intro e
    by_cases hn : ns.Nodup
    · exact hn
    · obtain ⟨x, h1, h2⟩ := twice hn
      have q := sub_len (ns := ns.erase x) nd fun y hy => by
        by_cases e2 : y = x
        · rw [e2]
          exact h2
        · exact (List.mem_erase_of_ne e2).mpr ((h y).mpr hy)
      rw [List.length_erase_of_mem h1] at q
      have : 0 < ns.length := List.length_pos_of_mem h1
      omega
  · intro hn
    have q1 := sub_len nd fun y hy => (h y).mpr hy
    have q2 := sub_len hn fun y hy => (h y).mp hy
    omega
def tLenSet (K : PySem.W.Frag) (ta : TE) : TE := fun σ H Q => ta σ H fun x H1 => ∃ (l : Addr) (ns : List Int), x = .ref l ∧ SqT K H1 l (ns.map V.int) ∧ ns.length ≤ 4000 ∧ ∀ c : Nat, (c = ns.length ↔ ns.Nodup) → Q (.int c) H1
theorem pe_lenSetT {X : Cx} {a : Expr} {ta : TE} {p p2 q pos : Pos} (hg : Gl X "len") (hm : X.mg "len" = none) (hg2 : Gl X "set") (hm2 : X.mg "set" = none) (ha : PE X a ta) (hc : X.calm = true := by rfl)
    (na : starEach [a] X.env = (false, eval a X.env) :: starEach [] X.env := by rfl) : PE X (.Call (.Name "len" p) [.Call (.Name "set" p2) [a] [] q] [] pos) (tLenSet X.K ta) := by
  refine ⟨fun pins s σ H Q I want => Call_ (ld_blt I hg hm PySem.boot_len (PyProof.Rows.callWith_builtin1 (PyProof.Rows.args_cons (Call_ (ld_blt I hg2 hm2 PyProof.Rows.boot_set (PyProof.Rows.callWith_type1 (PyProof.Rows.args_cons (thn (ha.run pins s σ H _ I want) fun v s1 got => PyProof.Rows.args_nil ?_) na) na rfl))) rfl) rfl rfl))⟩
  obtain ⟨x, H1, J, r1, l, ns, ex, hq, hl, q1⟩ := got
  subst ex
  obtain rfl : v = Value.ref l := r1
  obtain ⟨its, rel, tup, _⟩ := J.tuple hq
  refine call_set_tupI ns (J.ok.hd hc) tup (by simpa using rel.ints) (by unfold scanBound; omega) fun h' tk c hS hcl kp => PyProof.Rows.args_nil ?_
  obtain ⟨o, es, ep, t, ho, hex, hd, _, nd, mem, _, hf, hn, _⟩ := hS
  have J2 : Inv X pins σ H1 { s1 with heap := h', toks := tk } := J.kept kp
  have len : (es.toList.map keyOf).length = c := by rw [List.length_map, Array.length_toList, hn]
  have key : c = ns.length ↔ ns.Nodup := by
    rw [← len]
    refine many_iff nd fun y => ?_
    rw [← mem y, decide_eq_true_iff]
  exact call_len_set ho hex hd hf (by omega) ⟨.int c, H1, J2.tok _, ⟨_, by rw [hn]⟩, q1 c key⟩
/-! ### what is asked of rings -/
def wbelow (lim : Int) : V → Bool
  | .int i => decide (0 ≤ i) && decide (i < lim)
  | _ => false
def unl (lim : Int) : Option (List V) → Bool
  | some xs => xs.all (wbelow lim) && decide xs.Nodup
  | none => false
theorem ints_of {lim : Int} : ∀ {xs : List V}, xs.all (wbelow lim) = true → ∃ ns : List Int, xs = ns.map V.int ∧ ∀ n ∈ ns, 0 ≤ n ∧ n < lim
  | [], _ => ⟨[], rfl, fun n hn => by simp at hn⟩
  | x :: xs, h => by
    rw [List.all_cons, Bool.and_eq_true] at h
    obtain ⟨ns, e, h2⟩ := ints_of h.2
    cases x with
    | int i =>
      have h1 : (decide (0 ≤ i) && decide (i < lim)) = true := h.1
      rw [Bool.and_eq_true, decide_eq_true_iff, decide_eq_true_iff] at h1
      refine ⟨i :: ns, by rw [e]; rfl, fun n hn => ?_⟩
      rcases List.mem_cons.mp hn with z | z
      · rw [z]
        exact h1
      · exact h2 n z
    | _ => exact absurd (show false = true from h.1) Bool.false_ne_true
theorem nodup_ints {ns : List Int} : (ns.map V.int).Nodup ↔ ns.Nodup := by
  unfold List.Nodup
  rw [List.pairwise_map]
  exact ⟨fun h => h.imp fun {a b} g z => g (by rw [z]), fun h => h.imp fun {a b} g z => g (V.int.inj z)⟩
theorem room65 {k : Nat} {A : PySem.Around} (r : Room k A) : A.units + 65 < cLine := by have := r.un; omega
theorem eqv_two (x y u v : Int) : PyData.eqv (intsD [x, y]) (intsD [u, v]) = (decide (u = x) && decide (v = y)) := by
  show PyData.eqv (.tuple [.int x, .int y]) (.tuple [.int u, .int v]) = _
  rw [PyData.eqv, PyData.eqvAll, PyData.eqv, PyData.eqvAll, PyData.eqv, PyData.eqvAll, Bool.and_true]
  rw [Bool.eq_iff_iff, Bool.and_eq_true, Bool.and_eq_true, beq_iff_eq, beq_iff_eq, decide_eq_true_iff, decide_eq_true_iff]
  exact ⟨fun h => ⟨h.1.symm, h.2.symm⟩, fun h => ⟨h.1.symm, h.2.symm⟩⟩
def spBelow : Sp := fun vs H Q _ => ∃ lim v, vs = [.int lim, v] ∧ Kn H v ∧ Q (.bl (wbelow lim v)) H
def spUnlike (Ps : List Addr) : Sp := fun vs H Q _ => ∃ lim v, vs = [.int lim, v] ∧ Kn H v ∧ (∀ xs, parts H v = some xs → (∀ x ∈ xs, Kn H x) ∧ xs.length ≤ 1000) ∧ Tabs Ps H ∧ ∀ H', Kt Ps H H' → Q (.bl (unl lim (parts H v))) H'
def joinB (t : Tie) (a b : Int) : Bool := (decide (t.one = a) && decide (t.other = b)) || (decide (t.one = b) && decide (t.other = a))
def spJoins : Sp := fun vs H Q _ => ∃ (c : Addr) (a b : Int) (t : Tie), vs = [.ref c, .int a, .int b] ∧ H c = some (.tup [.int t.one, .int t.other, .str (kindS t.foe)]) ∧ ∀ H', Same H H' → Q (.bl (joinB t a b)) H'
section
variable {P : Program} {w : World} {K : PySem.W.Frag} {mg : Str → Option Value} {base : Heap}
theorem ok_is_whole_below {f : Addr} {fd : FuncData} (F : Fun K "is_whole_below" "is_whole_below" s_is_whole_below f fd) (D1 : Df P w K mg base 1 "is_whole" ["thing"] spWhole) : FnOk P w K mg base CX0 2 f fd ["limit", "thing"] spBelow := by
  obtain ⟨f1, fd1, G1, g1, k1, b1⟩ := D1
  refine F.ok sc_is_whole_below (fun vs H Q E h => ?_) (fun cdv A outer s H vs Q E hr h => ?_)
  · obtain ⟨lim, v, rfl, _⟩ := h
    rfl
  · obtain ⟨lim, v, rfl, hk, q⟩ := h
    refine ⟨_, (pss_one (ps_ret (pe_and (pe_call G1 hr (by rfl) g1 k1 b1 .nil pass0 (pa_cons (pv 1) pa_nil)) (pe_one (pe_chain op_le op_lt pe_int (pv 1) (pv 0)))))), ?_⟩
    refine ⟨v, rfl, v, rfl, hk, _, rfl, ?_⟩
    cases v with
    | int i =>
      refine ⟨.int i, rfl, 0, i, rfl, rfl, _, rfl, ?_⟩
      have e : wbelow lim (.int i) = (decide (0 ≤ i) && decide (i < lim)) := rfl
      rw [e] at q
      by_cases h0 : (0 : Int) ≤ i
      · rw [decide_eq_true h0] at q ⊢
        rw [Bool.true_and] at q
        exact ⟨.int lim, rfl, i, lim, rfl, rfl, q⟩
      · rw [decide_eq_false h0] at q ⊢
        exact q
    | _ => exact q
theorem ok_are_unlike {f c Pt : Addr} {fd : FuncData} {Ps : List Addr} (F : FunC K "are_unlike_below" "are_unlike_below" s_are_unlike_below f fd c) (TB : GxR.TabB base mg c Pt) (hPt : Pt ∈ Ps) (M : Free mg) (hall : mg "all" = none) (hset : mg "set" = none) (D1 : Df P w K mg base 2 "is_whole_below" ["limit", "thing"] spBelow) : FnOk P w K mg base CX0 4 f fd ["limit", "thing"] (spUnlike Ps) := by
  obtain ⟨f1, fd1, G1, g1, k1, b1⟩ := D1
  refine F.ok sc_are_unlike_below (fun vs H Q E h => ?_) (fun A outer s H vs Q E hr h => ?_)
  · obtain ⟨lim, v, rfl, _⟩ := h
    rfl
  · obtain ⟨lim, v, rfl, hk, hsub, hT, q⟩ := h
    refine ⟨_, (pss_cons (ps_if (pt_not (pt_val (pe_callB call_isi (by rfl) M.isinstance (by decide +kernel) (pa_cons (pv 1) (pa_cons (pe_bltn (v := .ty "tuple") (by rfl) M.tuple (by decide +kernel) rfl) pa_nil)))))
        (pss_one (ps_ret pe_bl))
        pss_nil)
      (pss_one (ps_ret (pe_and (pe_all (k := 2) (own := [("number", 2)]) (g := gName 2) hr TB rfl rfl sc_are_unlike_below.nd (by rfl) hall (pi_tup (pv 1)) (blkOk_by (N := N_are_unlike_below) (sc := defScope s_are_unlike_below) (own := [("number", 2)]) (by decide +kernel)) ⟨rfl, by decide +kernel, by decide +kernel⟩ (show (".0" : Str) ∉ N_are_unlike_below by decide +kernel)
        (fun _ _ _ _ _ _ _ => pg_name (i := 2) sc_are_unlike_below.nd rfl (.inl rfl)) (fun _ _ _ _ _ _ _ hr' => pe_call G1 hr' (by rfl) g1 k1 b1 .nil pass0 (pa_cons (pv 0) (pa_cons (pv 2) pa_nil)))) (pe_one (pe_cmpR op_eq (pe_lenSetT (by rfl) M.len (by rfl) hset (pv 1)) (pe_callB call_len_seq (by rfl) M.len PySem.boot_len (pa_cons (pv 1) pa_nil)) (nomark _))))))), ?_⟩
    obtain ⟨t1, h1, e1⟩ := kn_tup (K := K) hk
    refine ⟨v, rfl, v, _, t1, _, _, rfl, .ty "tuple", h1, e1, _, rfl, ?_⟩
    cases hi : isT H v with
    | false =>
      rw [parts_none hi] at q
      exact q _ (Kt.refl hT)
    | true =>
      obtain ⟨a, xs, rfl, ea⟩ := isT_at hi
      rw [parts_of' ea] at q
      obtain ⟨kn, few⟩ := hsub xs (parts_of' ea)
      refine ⟨.ref a, rfl, a, rfl, ⟨_, ea.sq⟩, hT Pt hPt, fun i m H' => i + m = xs.length ∧ Kt Ps H H' ∧ (xs.take i).all (wbelow lim) = true, fun H2 hH2 => ⟨xs.length, by omega, Kt.tabbed hT hPt hH2, rfl⟩, fun i m H' hw => ?_⟩
      obtain ⟨em, kt, hal⟩ := hw
      have ea' := ea.kt kt hT
      by_cases hi : i < xs.length
      · refine .inr ⟨⟨_, _, ea'.sq, List.getElem?_eq_getElem hi⟩, fun H3 => Kt Ps H H3 ∧ (xs.take (i + 1)).all (wbelow lim) = true, fun H3 n3 => ⟨m - 1, by omega, by omega, n3.1, n3.2⟩, fun x H3 hy => ?_⟩
        obtain ⟨rfl, fy⟩ := hy
        have ex : xs[i]? = some x := fy _ (ea'.sq)
        refine ⟨rfl, .int lim, rfl, x, rfl, lim, x, rfl, kt.kn hT (kn x (List.mem_of_getElem? ex)), _, rfl, ?_⟩
        have step : (xs.take (i + 1)).all (wbelow lim) = wbelow lim x := by
          rw [List.take_add_one, ex, List.all_append, hal]
          simp
        cases hb : wbelow lim x with
        | true => exact ⟨kt, step.trans hb⟩
        | false =>
          have no : xs.all (wbelow lim) = false := by
            rw [Bool.eq_false_iff]
            intro z
            rw [List.all_eq_true] at z
            rw [z x (List.mem_of_getElem? ex)] at hb
            cases hb
          refine ⟨_, rfl, ?_⟩
          have e : unl lim (some xs) = false := by
            show (xs.all (wbelow lim) && decide xs.Nodup) = false
            rw [no, Bool.false_and]
          rw [e] at q
          exact q _ kt
      · refine .inl ⟨⟨_, ea'.sq, by omega⟩, _, rfl, ?_⟩
        rw [List.take_of_length_le (by omega)] at hal
        obtain ⟨ns, rfl, _⟩ := ints_of hal
        refine ⟨.ref a, rfl, a, ns, rfl, ea'.sq, by rw [List.length_map] at few; omega, fun cnt hc => ⟨.ref a, rfl, a, _, rfl, .inr (ea'.sq), rfl, ?_⟩⟩
        have e : unl lim (some (ns.map V.int)) = decide (V.int (cnt : Int) = V.int ((ns.map V.int).length : Int)) := by
          show ((ns.map V.int).all (wbelow lim) && decide (ns.map V.int).Nodup) = _
          rw [hal, Bool.true_and, decide_eq_decide, nodup_ints, ← hc, List.length_map]
          constructor
          · intro z
            rw [z]
          · intro z
            have := V.int.inj z
            omega
        rw [← e]
        exact q _ kt
theorem ok_joins {f : Addr} {fd : FuncData} (F : Fun K "joins" "joins" s_joins f fd) : FnOk P w K mg base CX0 1 f fd ["tie", "one", "other"] spJoins := by
  refine F.ok sc_joins (fun vs H Q E h => ?_) (fun cdv A outer s H vs Q E hr h => ?_)
  · obtain ⟨c, a, b, t, rfl, _⟩ := h
    rfl
  · obtain ⟨c, a, b, t, rfl, hc, q⟩ := h
    have hu := room65 hr
    refine ⟨_, (pss_one (ps_ret (pe_cmpR (op_inTup hu) (pe_tup (pa_cons (pe_ix ix_tup (pv 0) pe_int (fun _ _ => rfl)) (pa_cons (pe_ix ix_tup (pv 0) pe_int (fun _ _ => rfl)) pa_nil))) (pe_tup (pa_cons (pe_tup (pa_cons (pv 1) (pa_cons (pv 2) pa_nil))) (pa_cons (pe_tup (pa_cons (pv 2) (pa_cons (pv 1) pa_nil))) pa_nil))) rfl))), ?_⟩
    refine ⟨.ref c, rfl, c, _, 0, _, rfl, rfl, SqT.of hc, rfl, .ref c, rfl, c, _, 1, _, rfl, rfl, SqT.of hc, rfl, by show 2 ≤ sizeLine; decide, fun p1 n1 => ?_⟩
    refine ⟨.int a, rfl, .int b, rfl, by show 2 ≤ sizeLine; decide, fun p2 n2 => ⟨.int b, rfl, .int a, rfl, by show 2 ≤ sizeLine; decide, fun p3 n3 => ⟨by show 2 ≤ sizeLine; decide, fun p4 n4 => ?_⟩⟩⟩
    have s4 := same_new (o := .tup [.ref p2, .ref p3]) n4
    have s3 := (same_new (o := .tup [.int b, .int a]) n3).trans s4
    have s2 := (same_new (o := .tup [.int a, .int b]) n2).trans s3
    have s1 := (same_new (o := .tup [.int t.one, .int t.other]) n1).trans s2
    refine ⟨intsD [t.one, t.other], [intsD [a, b], intsD [b, a]], IntsV.dp ⟨p1, rfl, s2 _ _ upd_same⟩, .tup (SqT.of upd_same) (.cons (IntsV.dp ⟨p2, rfl, s3 _ _ upd_same⟩) (.cons (IntsV.dp ⟨p3, rfl, s4 _ _ upd_same⟩) .nil)), shaped_intsD _, rfl, ?_⟩
    have e : ([intsD [a, b], intsD [b, a]].any fun z => PyData.eqv z (intsD [t.one, t.other])) = joinB t a b := by
      show (PyData.eqv (intsD [a, b]) (intsD [t.one, t.other]) || (PyData.eqv (intsD [b, a]) (intsD [t.one, t.other]) || false)) = joinB t a b
      rw [eqv_two, eqv_two, Bool.or_false]
      rfl
    rw [e]
    exact q _ s1
end
theorem tieAt_get {ts : List Tie} {i : Int} (h0 : 0 ≤ i) (h1 : i < ts.length) : ts[i.toNat]? = some (tieAt ts i) := by
  have h : i.toNat < ts.length := by omega
  unfold tieAt
  rw [List.getD_eq_getElem?_getD, List.getElem?_eq_getElem h]
  rfl
def toI : V → Int
  | .int i => i
  | _ => 0
theorem toI_map (ns : List Int) : (ns.map V.int).map toI = ns := by
  rw [List.map_map]
  exact List.map_id ns
/-- the ties join the places, each with the one behind it -/
def ringI (ts : List Tie) (ps es : List Int) : Bool := (List.range es.length).all fun k => joinB (tieAt ts (es.getD k 0)) (ps.getD k 0) (ps.getD ((k + 1) % ps.length) 0)
def ringP (n : Int) (ts : List Tie) : Option (List V) → Option (List V) → Bool
  | some ps, some es => unl n (some ps) && (unl ts.length (some es) && (decide (2 ≤ ps.length) && (decide (ps.length = es.length) && ringI ts (ps.map toI) (es.map toI))))
  | _, _ => false
def ringB (H : Hp) (n : Int) (ts : List Tie) (v : V) : Bool := match parts H v with
  | some [p, t] => ringP n ts (parts H p) (parts H t)
  | _ => false
def Part2 (H : Hp) (x : V) : Prop := Kn H x ∧ ∀ ys, parts H x = some ys → (∀ y ∈ ys, Kn H y) ∧ ys.length ≤ 1000
def Thing2 (H : Hp) (v : V) : Prop := Kn H v ∧ ∀ xs, parts H v = some xs → ∀ x ∈ xs, Part2 H x
theorem kt_parts {Ps : List Addr} {H H' : Hp} (k : Kt Ps H H') (t : Tabs Ps H) {v : V} (h : Kn H v) : parts H' v = parts H v := by
  cases v with
  | ref a =>
    rcases h with ⟨xs, h⟩ | ⟨xs, h⟩ | ⟨xs, h⟩
    · unfold parts
      simp only [h, k.lst t h]
    · exact (parts_of' (h.kt k t)).trans (parts_of' h).symm
    · unfold parts
      simp only [h, k.dct t h]
  | _ => rfl
theorem Part2.kt {Ps : List Addr} {H H' : Hp} (k : Kt Ps H H') (t : Tabs Ps H) {v : V} (h : Part2 H v) : Part2 H' v :=
  ⟨k.kn t h.1, fun ys e => by
    rw [kt_parts k t h.1] at e
    obtain ⟨h1, h2⟩ := h.2 ys e
    exact ⟨fun y hy => k.kn t (h1 y hy), h2⟩⟩
def spRing (Ps : List Addr) : Sp := fun vs H Q _ => ∃ (wv : V) (n : Int) (ts : List Tie) (v : V), vs = [wv, v] ∧ WebAt H wv n ts ∧ WebOk n ts ∧ Thing2 H v ∧ Tabs Ps H ∧ ∀ H', Kt Ps H H' → Q (.bl (ringB H n ts v)) H'
theorem behind {ns : List Int} {k : Nat} (h2 : 2 ≤ ns.length) (hk : k < ns.length) : (ns.drop 1 ++ ns.take 1)[k]? = some (ns.getD ((k + 1) % ns.length) 0) := by
  by_cases e : k + 1 < ns.length
  · rw [List.getElem?_append_left (by rw [List.length_drop]; omega), List.getElem?_drop, Nat.mod_eq_of_lt e, show 1 + k = k + 1 from by omega, List.getD_eq_getElem?_getD, List.getElem?_eq_getElem e]
    rfl
  · have e2 : k + 1 = ns.length := by omega
    rw [List.getElem?_append_right (by rw [List.length_drop]; omega), List.length_drop, show k - (ns.length - 1) = 0 from by omega, e2, Nat.mod_self, List.getElem?_take_of_lt (by decide), List.getD_eq_getElem?_getD, List.getElem?_eq_getElem (by omega)]
    rfl
theorem cut1a {xs : List V} (h : 1 ≤ xs.length) : cutV xs (some 1) none = xs.drop 1 := by
  unfold cutV
  rw [HT.sIx_none, show (some (1 : Int)) = some ((1 : Nat) : Int) from rfl, HT.sIx_nat, Nat.min_eq_left h]
  exact List.take_of_length_le (by rw [List.length_drop]; omega)
theorem cut1b {xs : List V} (h : 1 ≤ xs.length) : cutV xs none (some 1) = xs.take 1 := by
  unfold cutV
  rw [HT.sIx_none, show (some (1 : Int)) = some ((1 : Nat) : Int) from rfl, HT.sIx_nat, Nat.min_eq_left h, List.drop_zero]
section
variable {P : Program} {w : World} {K : PySem.W.Frag} {mg : Str → Option Value} {base : Heap}
set_option maxHeartbeats 4000000 in
theorem ok_ring_holds {f c Pt : Addr} {fd : FuncData} {Ps : List Addr} (F : FunC K "ring_holds" "ring_holds" s_ring_holds f fd c) (TB : GxR.TabB base mg c Pt) (hPt : Pt ∈ Ps) (M : Free mg) (hall : mg "all" = none) (mz : mg "zip" = none) (D1 : Df P w K mg base 1 "is_tuple_of" ["length", "thing"] spTupleOf)
    (D2 : Df P w K mg base 4 "are_unlike_below" ["limit", "thing"] (spUnlike Ps)) (D3 : Df P w K mg base 1 "joins" ["tie", "one", "other"] spJoins) : FnOk P w K mg base CX0 5 f fd ["web", "thing"] (spRing Ps) := by
  obtain ⟨f1, fd1, G1, g1, k1, b1⟩ := D1
  obtain ⟨f2, fd2, G2, g2, k2, b2⟩ := D2
  obtain ⟨f3, fd3, G3, g3, k3, b3⟩ := D3
  refine F.ok sc_ring_holds (fun vs H Q E h => ?_) (fun A outer s H vs Q E hr h => ?_)
  · obtain ⟨wv, n, ts, v, rfl, _⟩ := h
    rfl
  · obtain ⟨wv, n, ts, v, rfl, ⟨wa, wb, us, rfl, hwa, hwb, hp⟩, ok, ⟨hk, hsub⟩, hT, q⟩ := h
    have hr1 : Room 1 _ := hr.mono (by decide : 1 ≤ 4)
    refine ⟨_, (pss_cons (ps_if (pt_not (pt_val (pe_call G1 hr1 (by rfl) g1 k1 b1 .nil pass0 (pa_cons pe_int (pa_cons (pv 1) pa_nil)))))
        (pss_one (ps_ret pe_bl))
        pss_nil)
      (pss_cons (ps_asg (pv 1) (pg_tup rfl (pgs_cons (pg_name (i := 2) sc_ring_holds.nd rfl (.inl rfl)) (pgs_cons (pg_name (i := 3) sc_ring_holds.nd rfl (.inl rfl)) pgs_nil))))
      (pss_cons (ps_if (PW.pt (pw_or (pt_not (pt_val (pe_call G2 hr (by rfl) g2 k2 b2 .nil pass0 (pa_cons (pe_ix ix_tup (pv 0) pe_int (fun _ _ => rfl)) (pa_cons (pv 2) pa_nil))))) (pw_or1 (pt_not (pt_val (pe_call G2 hr (by rfl) g2 k2 b2 .nil pass0 (pa_cons (pe_callB call_len_seq (by rfl) M.len PySem.boot_len (pa_cons (pe_ix ix_tup (pv 0) pe_int (fun _ _ => rfl)) pa_nil)) (pa_cons (pv 3) pa_nil))))))))
        (pss_one (ps_ret pe_bl))
        pss_nil)
      (pss_cons (ps_if (PW.pt (pw_or (pt_cmpR op_lt (pe_callB call_len_seq (by rfl) M.len PySem.boot_len (pa_cons (pv 2) pa_nil)) pe_int (nomark _)) (pw_or1 (pt_cmpR op_ne (pe_callB call_len_seq (by rfl) M.len PySem.boot_len (pa_cons (pv 2) pa_nil)) (pe_callB call_len_seq (by rfl) M.len PySem.boot_len (pa_cons (pv 3) pa_nil)) (nomark _)))))
        (pss_one (ps_ret pe_bl))
        pss_nil)
      (pss_cons (ps_set (i := 4) sc_ring_holds.nd rfl (.inl rfl) (pe_op op_catQ (pe_slice sl_tupQ (pv 2) (po_some pe_int) po_none) (pe_slice sl_tupQ (pv 2) po_none (po_some pe_int))))
      (pss_one (ps_ret (pe_all (k := 3) (own := [("tie", 5), ("one", 6), ("other", 7)]) (g := gTup K 3 (gCons (gName 5) (gCons (gName 6) (gCons (gName 7) gNil)))) hr TB rfl rfl sc_ring_holds.nd (by rfl) hall (pi_zip3 (by rfl) mz (pa_cons (pv 3) (pa_cons (pv 2) (pa_cons (pv 4) pa_nil)))) (blkOk_by (N := N_ring_holds) (sc := defScope s_ring_holds) (own := [("tie", 5), ("one", 6), ("other", 7)]) (by decide +kernel)) ⟨rfl, by decide +kernel, by decide +kernel⟩ (show (".0" : Str) ∉ N_ring_holds by decide +kernel)
        (fun _ _ _ _ _ _ _ => pg_tup rfl (pgs_cons (pg_name (i := 5) sc_ring_holds.nd rfl (.inl rfl)) (pgs_cons (pg_name (i := 6) sc_ring_holds.nd rfl (.inl rfl)) (pgs_cons (pg_name (i := 7) sc_ring_holds.nd rfl (.inl rfl)) pgs_nil)))) (fun _ _ _ _ _ _ _ hr' => pe_call G3 (hr'.mono (by decide : 1 ≤ 3)) (by rfl) g3 k3 b3 .nil pass0 (pa_cons (pe_ix (r := rIxT K) ix_tup (pe_ix (r := rIxT K) ix_tup (pv 0) pe_int (fun _ _ => rfl)) (pv 5) (fun _ _ => rfl)) (pa_cons (pv 6) (pa_cons (pv 7) pa_nil)))))))))))), ?_⟩
    have hlen : us.length = ts.length := Paired.length hp
    have few := ok.few
    -- a pair
    refine ⟨v, rfl, 2, v, rfl, hk, _, rfl, ?_⟩
    cases hpv : parts H v with
    | none =>
      have e1 : lenIs H v 2 = false := by unfold lenIs; rw [hpv]
      have e2 : ringB H n ts v = false := by unfold ringB; rw [hpv]
      rw [e1]
      rw [e2] at q
      exact q _ (Kt.refl hT)
    | some xs =>
    obtain ⟨a, rfl, ea⟩ := parts_at hpv
    have e1 : lenIs H (.ref a) 2 = decide ((xs.length : Int) = 2) := by unfold lenIs; rw [hpv]
    rw [e1]
    match xs, hpv, ea, hsub xs hpv with
    | [], hpv, ea, _ =>
      have e2 : ringB H n ts (.ref a) = false := by unfold ringB; rw [hpv]
      rw [e2] at q
      exact q _ (Kt.refl hT)
    | [x], hpv, ea, _ =>
      have e2 : ringB H n ts (.ref a) = false := by unfold ringB; rw [hpv]
      rw [e2] at q
      exact q _ (Kt.refl hT)
    | x :: y :: z :: r, hpv, ea, _ =>
      have e2 : ringB H n ts (.ref a) = false := by unfold ringB; rw [hpv]
      rw [e2] at q
      rw [decide_eq_false (by simp only [List.length_cons]; omega)]
      exact q _ (Kt.refl hT)
    | [pv', tv], hpv, ea, hxs =>
    have e2 : ringB H n ts (.ref a) = ringP n ts (parts H pv') (parts H tv) := by unfold ringB; rw [hpv]
    rw [e2] at q
    have hP := hxs pv' (by simp)
    have hQ := hxs tv (by simp)
    clear e1 e2 hxs hsub
    refine ⟨.ref a, rfl, a, _, rfl, ea.sq, rfl, _, _, rfl, _, _, rfl, rfl, ?_⟩
    -- unlike places
    refine ⟨.ref wa, rfl, wa, _, 0, .int n, rfl, rfl, SqT.of hwa, rfl, pv', rfl, n, pv', rfl, hP.1, hP.2, hT, fun H1 k1' => ⟨_, rfl, ?_⟩⟩
    cases hu1 : unl n (parts H pv') with
    | false =>
      have e : ringP n ts (parts H pv') (parts H tv) = false := by
        cases h1 : parts H pv' with
        | none => rfl
        | some ps =>
          cases h2 : parts H tv with
          | none => rfl
          | some es =>
            rw [h1] at hu1
            show (unl n (some ps) && _) = false
            rw [hu1, Bool.false_and]
      rw [e] at q
      exact q _ k1'
    | true =>
    -- unlike ties
    have hwa1 := k1'.tup hT hwa
    have hwb1 := k1'.tup hT hwb
    have hQ1 := hQ.kt k1' hT
    refine ⟨.ref wa, rfl, wa, _, 1, .ref wb, rfl, rfl, SqT.of hwa1, rfl, wb, us, rfl, .inr (SqT.of hwb1), tv, rfl, _, tv, rfl, hQ1.1, hQ1.2, k1'.tab, fun H2 k2' => ⟨_, rfl, ?_⟩⟩
    rw [kt_parts k1' hT hQ.1, hlen]
    have k12 := k1'.trans k2'
    cases hu2 : unl ts.length (parts H tv) with
    | false =>
      have e : ringP n ts (parts H pv') (parts H tv) = false := by
        cases h1 : parts H pv' with
        | none => rfl
        | some ps =>
          cases h2 : parts H tv with
          | none => rfl
          | some es =>
            rw [h1] at hu1
            rw [h2] at hu2
            show (unl n (some ps) && (unl ts.length (some es) && _)) = false
            rw [hu2, Bool.false_and, Bool.and_false]
      rw [e] at q
      exact q _ k12
    | true =>
    cases h1 : parts H pv' with
    | none => rw [h1] at hu1; cases hu1
    | some ps =>
    cases h2 : parts H tv with
    | none => rw [h2] at hu2; cases hu2
    | some es =>
    rw [h1] at hu1
    rw [h2] at hu2
    rw [h1, h2] at q
    obtain ⟨pa, rfl, epa⟩ := parts_at h1
    obtain ⟨ta, rfl, eta⟩ := parts_at h2
    have epa2 := epa.kt k12 hT
    have eta2 := eta.kt k12 hT
    have er : ringP n ts (some ps) (some es) = (decide (2 ≤ ps.length) && (decide (ps.length = es.length) && ringI ts (ps.map toI) (es.map toI))) := by
      show (unl n (some ps) && (unl ts.length (some es) && _)) = _
      rw [hu1, hu2, Bool.true_and, Bool.true_and]
    rw [er] at q
    -- lengths
    refine ⟨.ref pa, rfl, pa, ps, rfl, .inr (epa2.sq), _, 2, rfl, rfl, _, rfl, ?_⟩
    by_cases l2 : 2 ≤ ps.length
    · rw [decide_eq_false (show ¬ ((ps.length : Int) < 2) by omega)]
      rw [decide_eq_true l2, Bool.true_and] at q
      refine ⟨.ref pa, rfl, pa, ps, rfl, .inr (epa2.sq), .ref ta, rfl, ta, es, rfl, .inr (eta2.sq), rfl, _, rfl, ?_⟩
      by_cases le : ps.length = es.length
      · rw [show decide (V.int (ps.length : Int) = V.int (es.length : Int)) = true from decide_eq_true (by rw [le])]
        rw [decide_eq_true le, Bool.true_and] at q
        have ha1 : ps.all (wbelow n) = true := (Bool.and_eq_true_iff.mp hu1).1
        have ha2 : es.all (wbelow ts.length) = true := (Bool.and_eq_true_iff.mp hu2).1
        obtain ⟨pn, rfl, hpn⟩ := ints_of ha1
        obtain ⟨en, rfl, hen⟩ := ints_of ha2
        rw [toI_map, toI_map] at q
        rw [List.length_map] at l2 le
        rw [List.length_map] at le
        have lps : pn.length ≤ 1000 := by have := (hP.2 _ h1).2; rw [List.length_map] at this; exact this
        -- followers
        refine ⟨.ref pa, rfl, 1, rfl, pa, _, rfl, epa2, fun r1 H3 s3 h3 _ => ⟨.ref pa, rfl, 1, rfl, pa, _, rfl, epa2.same s3, fun r2 H4 s4 h4 _ => ⟨r1, r2, _, _, rfl, rfl, h3.same s4, h4, ?_, fun r3 H5 s5 h5 _ => ?_⟩⟩⟩
        · have z1 := cutV_length (pn.map V.int) (some 1) none
          have z2 := cutV_length (pn.map V.int) none (some 1)
          rw [List.length_map] at z1 z2
          omega
        rw [cut1a (by rw [List.length_map]; omega), cut1b (by rw [List.length_map]; omega), ← List.map_drop, ← List.map_take, ← List.map_append] at h5
        have k5 := k12.trans (Kt.same k12.tab ((s3.trans s4).trans s5))
        have hwa5 := k5.tup hT hwa
        have hwb5 := k5.tup hT hwb
        have epa5 := epa.kt k5 hT
        have eta5 := eta.kt k5 hT
        have hp5 := ties_tk (k5.tk hT) hp
        clear s3 s4 s5 h3 h4 epa2 eta2 hwa1 hwb1
        have lfo : (pn.drop 1 ++ pn.take 1).length = pn.length := by rw [List.length_append, List.length_drop, List.length_take]; omega
        have nth : ∀ k : Nat, k < en.length → ∃ (cc : Addr), H5 cc = some (.tup [.int (tieAt ts (en.getD k 0)).one, .int (tieAt ts (en.getD k 0)).other, .str (kindS (tieAt ts (en.getD k 0)).foe)]) ∧ atI us (en.getD k 0) = some (.ref cc) := fun k hk => by
          have hm : en.getD k 0 ∈ en := by
            rw [List.getD_eq_getElem?_getD, List.getElem?_eq_getElem hk]
            exact List.getElem_mem hk
          obtain ⟨z0, z1⟩ := hen _ hm
          obtain ⟨u, eu, cc, rfl, hcc⟩ := Paired.at' hp5 (tieAt_get z0 z1)
          exact ⟨cc, hcc, atI_of z0 eu⟩
        refine ⟨.ref ta, rfl, .ref pa, rfl, .ref r3, rfl, ta, pa, r3, _, _, _, rfl, eta5.sq, epa5.sq, h5.sq, k5.tab Pt hPt, fun i m H' => i + m = en.length ∧ Kt Ps H5 H' ∧ (List.range i).all (fun k => joinB (tieAt ts (en.getD k 0)) (pn.getD k 0) (pn.getD ((k + 1) % pn.length) 0)) = true, fun H6 t6 => ⟨en.length, by omega, Kt.tabbed k5.tab hPt t6, rfl⟩, fun i m H6 hw => ?_⟩
        obtain ⟨em, k6, hal⟩ := hw
        have eta6 := eta5.kt k6 k5.tab
        have epa6 := epa5.kt k6 k5.tab
        have h6 := h5.kt k6 k5.tab
        by_cases hi : i < en.length
        · refine .inr ⟨⟨_, _, _, ⟨eta6.sq, epa6.sq, h6.sq⟩, by rw [List.length_map]; exact hi, by rw [List.length_map, List.length_map]; exact le, by rw [List.length_map, List.length_map, lfo]; exact le⟩, fun H7 => Kt Ps H5 H7 ∧ (List.range (i + 1)).all (fun k => joinB (tieAt ts (en.getD k 0)) (pn.getD k 0) (pn.getD ((k + 1) % pn.length) 0)) = true, fun H7 n7 => ⟨m - 1, by omega, by omega, n7.1, n7.2⟩, fun x H7 hy => ?_⟩
          obtain ⟨T, x1, x2, x3, rfl, nT, rfl, y1, y2, y3⟩ := hy
          have ex1 : x1 = .int (en.getD i 0) := by
            have z := y1 _ (eta6.sq)
            rw [List.getElem?_map, List.getElem?_eq_getElem hi] at z
            rw [List.getD_eq_getElem?_getD, List.getElem?_eq_getElem hi]
            exact (Option.some.inj z).symm
          have ex2 : x2 = .int (pn.getD i 0) := by
            have z := y2 _ (epa6.sq)
            rw [List.getElem?_map, List.getElem?_eq_getElem (show i < pn.length by omega)] at z
            rw [List.getD_eq_getElem?_getD, List.getElem?_eq_getElem (show i < pn.length by omega)]
            exact (Option.some.inj z).symm
          have ex3 : x3 = .int (pn.getD ((i + 1) % pn.length) 0) := by
            have z := y3 _ (h6.sq)
            rw [List.getElem?_map, behind l2 (by omega)] at z
            exact (Option.some.inj z).symm
          subst ex1
          subst ex2
          subst ex3
          obtain ⟨cc, hcc, acc⟩ := nth i hi
          have k7 := k6.trans (Kt.same k6.tab (same_new (o := .tup [.int (en.getD i 0), .int (pn.getD i 0), .int (pn.getD ((i + 1) % pn.length) 0)]) nT))
          refine ⟨T, _, rfl, SqT.of upd_same, rfl, _, _, rfl, _, _, rfl, _, _, rfl, rfl, rfl, .ref wa, rfl, wa, _, 1, .ref wb, rfl, rfl, SqT.of (k7.tup k5.tab hwa5), rfl, .int (en.getD i 0), rfl, wb, us, _, .ref cc, rfl, rfl, SqT.of (k7.tup k5.tab hwb5), acc, .int (pn.getD i 0), rfl, .int (pn.getD ((i + 1) % pn.length) 0), rfl, cc, _, _, tieAt ts (en.getD i 0), rfl, k7.tup k5.tab hcc, fun H8 s8 => ⟨_, rfl, ?_⟩⟩
          have k8 := k7.trans (Kt.same k7.tab s8)
          cases hj : joinB (tieAt ts (en.getD i 0)) (pn.getD i 0) (pn.getD ((i + 1) % pn.length) 0) with
          | true =>
            refine ⟨k8, ?_⟩
            rw [List.range_succ, List.all_append, hal]
            simp only [List.all_cons, List.all_nil, hj, Bool.and_true]
          | false =>
            have no : ringI ts pn en = false := by
              unfold ringI
              rw [Bool.eq_false_iff]
              intro z
              rw [List.all_eq_true] at z
              rw [z i (List.mem_range.mpr hi)] at hj
              cases hj
            rw [no] at q
            exact q _ (k5.trans k8)
        · have ei : i = en.length := by omega
          refine .inl ⟨⟨_, _, _, ⟨eta6.sq, epa6.sq, h6.sq⟩, by rw [List.length_map, ei], by rw [List.length_map, ei]; exact le, by rw [List.length_map, lfo, ei]; exact le⟩, ?_⟩
          rw [ei] at hal
          have yes : ringI ts pn en = true := hal
          rw [yes] at q
          exact q _ (k5.trans k6)
      · rw [show decide (V.int (ps.length : Int) = V.int (es.length : Int)) = false from decide_eq_false (fun z => le (by have := V.int.inj z; omega))]
        rw [decide_eq_false le, Bool.false_and] at q
        exact q _ k12
    · rw [decide_eq_true (show ((ps.length : Int) < 2) by omega)]
      rw [decide_eq_false l2, Bool.false_and] at q
      exact q _ k12
end
def foesI (ts : List Tie) (es : List Int) : Nat := (es.filter fun e => (tieAt ts e).foe).length
theorem foesI_take (ts : List Tie) (es : List Int) {i : Nat} {e : Int} (h : es[i]? = some e) : (es.take (i + 1)).filter (fun e => (tieAt ts e).foe) = (es.take i).filter (fun e => (tieAt ts e).foe) ++ (if (tieAt ts e).foe = true then [e] else []) := by
  rw [List.take_add_one, h, List.filter_append]
  congr 1
  show List.filter _ [e] = _
  rw [List.filter_cons]
  rfl
def spFoes : Sp := fun vs H Q _ => ∃ (wv : V) (n : Int) (ts : List Tie) (a ta : Addr) (p : V) (es : List Int), vs = [wv, .ref a] ∧ WebAt H wv n ts ∧ TupA H a [p, .ref ta] ∧ TupA H ta (es.map V.int) ∧ (∀ e ∈ es, 0 ≤ e ∧ e < (ts.length : Int)) ∧ es.length ≤ 1000 ∧
  ∀ H', Same H H' → Q (.int (foesI ts es)) H'
/-- a ring with an odd number of foes -/
def oddB (H : Hp) (n : Int) (ts : List Tie) (v : V) : Bool := ringB H n ts v && (match parts H v with
  | some [_, t] => (match parts H t with
    | some es => decide (foesI ts (es.map toI) % 2 = 1)
    | none => false)
  | _ => false)
def spOdd (Ps : List Addr) : Sp := fun vs H Q _ => ∃ (wv : V) (n : Int) (ts : List Tie) (v : V), vs = [wv, v] ∧ WebAt H wv n ts ∧ WebOk n ts ∧ Thing2 H v ∧ Tabs Ps H ∧ ∀ H', Kt Ps H H' → Q (.bl (oddB H n ts v)) H'
/-- what a ring is: a pair of rows of numbers -/
theorem ring_is {H : Hp} {n : Int} {ts : List Tie} {v : V} (h : ringB H n ts v = true) : ∃ (a pa ta : Addr) (pn en : List Int), v = .ref a ∧ TupA H a [.ref pa, .ref ta] ∧ TupA H pa (pn.map V.int) ∧ TupA H ta (en.map V.int) ∧ (∀ p ∈ pn, 0 ≤ p ∧ p < n) ∧ (∀ e ∈ en, 0 ≤ e ∧ e < (ts.length : Int)) ∧ pn.Nodup ∧ en.Nodup ∧ 2 ≤ pn.length ∧ pn.length = en.length ∧ ringI ts pn en = true := by
  unfold ringB at h
  cases hpv : parts H v with
  | none => rw [hpv] at h; cases h
  | some xs =>
    rw [hpv] at h
    obtain ⟨a, rfl, ea⟩ := parts_at hpv
    match xs, h, ea with
    | [p, t], h, ea =>
      change ringP n ts (parts H p) (parts H t) = true at h
      cases h1 : parts H p with
      | none => rw [h1] at h; cases h
      | some ps =>
        cases h2 : parts H t with
        | none => rw [h1, h2] at h; cases h
        | some es =>
          rw [h1, h2] at h
          obtain ⟨pa, rfl, epa⟩ := parts_at h1
          obtain ⟨ta, rfl, eta⟩ := parts_at h2
          change (unl n (some ps) && (unl ts.length (some es) && (decide (2 ≤ ps.length) && (decide (ps.length = es.length) && ringI ts (ps.map toI) (es.map toI))))) = true at h
          simp only [Bool.and_eq_true, decide_eq_true_iff] at h
          obtain ⟨u1, u2, l2, le, hr⟩ := h
          have v1 : ps.all (wbelow n) = true ∧ decide ps.Nodup = true := Bool.and_eq_true_iff.mp u1
          have v2 : es.all (wbelow ts.length) = true ∧ decide es.Nodup = true := Bool.and_eq_true_iff.mp u2
          obtain ⟨pn, rfl, hpn⟩ := ints_of v1.1
          obtain ⟨en, rfl, hen⟩ := ints_of v2.1
          rw [toI_map, toI_map] at hr
          rw [List.length_map] at l2 le
          rw [List.length_map] at le
          exact ⟨a, pa, ta, pn, en, rfl, ea, epa, eta, hpn, hen, nodup_ints.mp (of_decide_eq_true v1.2), nodup_ints.mp (of_decide_eq_true v2.2), l2, le, hr⟩
section
variable {P : Program} {w : World} {K : PySem.W.Frag} {mg : Str → Option Value} {base : Heap}
theorem ok_foes_in {f : Addr} {fd : FuncData} (F : Fun K "foes_in" "foes_in" s_foes_in f fd) (M : Free mg) : FnOk P w K mg base CX0 1 f fd ["web", "ring"] spFoes := by
  refine F.ok sc_foes_in (fun vs H Q E h => ?_) (fun cdv A outer s H vs Q E hr h => ?_)
  · obtain ⟨wv, n, ts, a, ta, p, es, rfl, _⟩ := h
    rfl
  · obtain ⟨wv, n, ts, a, ta, p, es, rfl, ⟨wa, wb, us, rfl, hwa, hwb, hp⟩, ha, hta, hes, lm, q⟩ := h
    refine ⟨_, (pss_one (ps_ret (pe_callB call_len_seq (by rfl) M.len PySem.boot_len (pa_cons (pe_lc (own := [("tie", 2)]) (g := gName 2) (te := tVar 2) rfl sc_foes_in.nd (pi_tup (pe_ix ix_tup (pv 1) pe_int (fun _ _ => rfl))) (blkOk_by (N := N_foes_in) (sc := defScope s_foes_in) (own := [("tie", 2)]) (by decide +kernel)) (fun _ _ _ _ _ => (pg_name (i := 2) sc_foes_in.nd rfl (.inl rfl))) (fun _ _ _ _ _ => (pts_one (pt_cmpR op_eq (pe_ix (r := rIxT K) ix_tup (pe_ix (r := rIxT K) ix_tup (pe_ix (r := rIxT K) ix_tup (pv 0) pe_int (fun _ _ => rfl)) (pv 2) (fun _ _ => rfl)) pe_int (fun _ _ => rfl)) pe_str (nomark _)))) (fun _ _ _ _ _ => (pv 2))) pa_nil)))), ?_⟩
    refine ⟨.ref a, rfl, a, _, 1, .ref ta, rfl, rfl, ha.sq, rfl, ta, rfl, ⟨_, hta.sq⟩, fun Z nZ => ?_⟩
    refine lc_tup (xs := es.map V.int) (fun j H' => H' = upd H Z (.lst (((es.take j).filter fun e => (tieAt ts e).foe).map V.int))) rfl (fun j H' _ h => by rw [h]; exact (hta.same (same_new nZ)).sq) ?_ ?_
    · rintro j x H' ex rfl
      rw [List.getElem?_map] at ex
      obtain ⟨e, he, rfl⟩ := Option.map_eq_some_iff.mp ex
      obtain ⟨z0, z1⟩ := hes e (List.mem_of_getElem? he)
      have hj := (List.getElem?_eq_some_iff.mp he).1
      have s1 := same_new (o := .lst (((es.take j).filter fun e => (tieAt ts e).foe).map V.int)) nZ
      obtain ⟨u, eu, cc, rfl, hcc⟩ := Paired.at' hp (tieAt_get z0 z1)
      refine ⟨rfl, .ref wa, rfl, wa, _, 1, .ref wb, rfl, rfl, SqT.of (s1 _ _ hwa), rfl, .int e, rfl, wb, us, e, .ref cc, rfl, rfl, SqT.of (s1 _ _ hwb), atI_of z0 eu, cc, _, 2, _, rfl, rfl, SqT.of (s1 _ _ hcc), rfl, rfl, _, rfl, ?_⟩
      rw [foesI_take ts es he, List.map_append]
      have lf : ((es.take j).filter fun e => (tieAt ts e).foe).length ≤ j := by
        have := List.length_filter_le (fun e => (tieAt ts e).foe) (es.take j)
        rw [List.length_take] at this
        omega
      cases hf : (tieAt ts e).foe with
      | true =>
        refine ⟨.int e, rfl, _, upd_same, by rw [List.length_map]; exact small1000 (by omega), ?_⟩
        funext b
        by_cases eb : b = Z
        · subst eb
          rw [upd_same, upd_same]
          rfl
        · rw [upd_ne eb, upd_ne eb, upd_ne eb]
      | false =>
        show upd H Z _ = upd H Z (.lst (((es.take j).filter fun e => (tieAt ts e).foe).map V.int ++ []))
        rw [List.append_nil]
    · rintro H' rfl
      rw [List.length_map, List.take_length]
      refine ⟨Z, _, rfl, .inl (SqL.of upd_same), ?_⟩
      rw [List.length_map]
      exact q _ (same_new nZ)
theorem ok_odd_ring {f : Addr} {fd : FuncData} {Ps : List Addr} (F : Fun K "odd_ring_holds" "odd_ring_holds" s_odd_ring_holds f fd) (D1 : Df P w K mg base 5 "ring_holds" ["web", "thing"] (spRing Ps)) (D2 : Df P w K mg base 1 "foes_in" ["web", "ring"] spFoes) : FnOk P w K mg base CX0 6 f fd ["web", "thing"] (spOdd Ps) := by
  obtain ⟨f1, fd1, G1, g1, k1, b1⟩ := D1
  obtain ⟨f2, fd2, G2, g2, k2, b2⟩ := D2
  refine F.ok sc_odd_ring_holds (fun vs H Q E h => ?_) (fun cdv A outer s H vs Q E hr h => ?_)
  · obtain ⟨wv, n, ts, v, rfl, _⟩ := h
    rfl
  · obtain ⟨wv, n, ts, v, rfl, hW, ok, hv, hT, q⟩ := h
    have hr1 : Room 1 _ := hr.mono (by decide : 1 ≤ 5)
    refine ⟨_, (pss_one (ps_ret (pe_and (pe_call G1 hr (by rfl) g1 k1 b1 .nil pass0 (pa_cons (pv 0) (pa_cons (pv 1) pa_nil))) (pe_one (pe_cmpR op_eq (pe_op op_mod (pe_call G2 hr1 (by rfl) g2 k2 b2 .nil pass0 (pa_cons (pv 0) (pa_cons (pv 1) pa_nil))) pe_int) pe_int (nomark _)))))), ?_⟩
    refine ⟨wv, rfl, v, rfl, wv, n, ts, v, rfl, hW, ok, hv, hT, fun H1 k => ⟨_, rfl, ?_⟩⟩
    cases hb : ringB H n ts v with
    | false =>
      have e : oddB H n ts v = false := by unfold oddB; rw [hb, Bool.false_and]
      rw [e] at q
      exact q _ k
    | true =>
      obtain ⟨a, pa, ta, pn, en, rfl, ea, epa, eta, _, hen, _, ndE, _, le, _⟩ := ring_is hb
      have lm : en.length ≤ 1000 := by
        have z := (hv.2 _ (parts_of' ea) (.ref ta) (by simp)).2 _ (parts_of' eta)
        have := z.2
        rw [List.length_map] at this
        exact this
      refine ⟨wv, rfl, .ref a, rfl, wv, n, ts, a, ta, .ref pa, en, rfl, hW.tk (k.tk hT), ea.kt k hT, eta.kt k hT, hen, lm, fun H2 s2 => ⟨_, 2, rfl, rfl, show (0 : Int) < 2 by decide, rfl, ?_⟩⟩
      have e : oddB H n ts (.ref a) = decide (V.int ((foesI ts en : Nat) % 2 : Int) = V.int 1) := by
        unfold oddB
        rw [hb, parts_of' ea]
        simp only [parts_of' eta, toI_map, Bool.true_and]
        rw [decide_eq_decide]
        constructor
        · intro z
          congr 1
          omega
        · intro z
          have := V.int.inj z
          omega
      rw [← e]
      exact q _ (k.trans (Kt.same k.tab s2))
end
/-! ### webs turned -/
theorem Same.seqT {K : PySem.W.Frag} {H H' : Hp} {a : Addr} {xs : List V} (e : Same H H') (h : SqT K H a xs) : SqT K H' a xs := by
  rcases h with (h | ⟨o, h⟩) | h
  · exact .inl (.inl (e _ _ h))
  · exact .inl (.inr ⟨o, e _ _ h⟩)
  · exact .inr h
def inP (ps : List Int) (i : Int) : Bool := decide (i ∈ ps)
def flipT (t : Tie) : Tie := ⟨t.one, t.other, !t.foe⟩
def turnT (ps : List Int) (t : Tie) : Tie := if inP ps t.one = inP ps t.other then t else flipT t
def AmongAt (H : Hp) (D : Addr) (ps : List Int) : Prop := ∃ kvs : List (Key × V), H D = some (.dK kvs) ∧ ∀ k : Int, (valV kvs (Sum.inl k)).isSome = inP ps k
theorem AmongAt.same {H H' : Hp} {D : Addr} {ps : List Int} (h : AmongAt H D ps) (s : Same H H') : AmongAt H' D ps := by
  obtain ⟨kvs, h1, h2⟩ := h
  exact ⟨kvs, s _ _ h1, h2⟩
def spTurnedTie : Sp := fun vs H Q _ => ∃ (v : V) (D : Addr) (t : Tie) (ps : List Int), vs = [v, .ref D] ∧ TieV H v t ∧ AmongAt H D ps ∧ ∀ u H', Same H H' → TieV H' u (turnT ps t) → Q u H'
def spTurned (K : PySem.W.Frag) : Sp := fun vs H Q _ => ∃ (v : V) (p : Addr) (n : Int) (ts : List Tie) (ps : List Int), vs = [v, .ref p] ∧ WebAt H v n ts ∧ ts.length ≤ 120 ∧ SqT K H p (ps.map V.int) ∧ ps.length ≤ 40 ∧
  ∀ u H', Same H H' → WebAt H' u n (ts.map (turnT ps)) → Q u H'
theorem inP_take {ps : List Int} {i : Nat} {x : Int} (h : ps[i]? = some x) (k : Int) : inP (ps.take (i + 1)) k = (decide (k = x) || inP (ps.take i) k) := by
  unfold inP
  rw [List.take_add_one, h]
  by_cases e1 : k = x
  · subst e1
    simp
  · by_cases e2 : k ∈ ps.take i
    · rw [decide_eq_true e2, decide_eq_true (List.mem_append_left _ e2)]
      simp
    · rw [decide_eq_false e2, decide_eq_false e1, decide_eq_false]
      · rfl
      · intro h
        rcases List.mem_append.mp h with h | h
        · exact e2 h
        · simp at h
          exact e1 h
theorem map_take_succ {α β : Type} {f : α → β} {xs : List α} {i : Nat} {x : α} (h : xs[i]? = some x) : (xs.take (i + 1)).map f = (xs.take i).map f ++ [f x] := by
  rw [List.take_add_one, h, List.map_append]
  rfl
section
variable {P : Program} {w : World} {K : PySem.W.Frag} {mg : Str → Option Value} {base : Heap}
theorem ok_turned_tie {f : Addr} {fd : FuncData} (F : Fun K "turned_tie" "turned_tie" s_turned_tie f fd) : FnOk P w K mg base CX0 1 f fd ["tie", "among"] spTurnedTie := by
  refine F.ok sc_turned_tie (fun vs H Q E h => ?_) (fun cdv A outer s H vs Q E hr h => ?_)
  · obtain ⟨v, D, t, ps, rfl, _⟩ := h
    rfl
  · obtain ⟨v, D, t, ps, rfl, ⟨a, rfl, ha⟩, ⟨kvs, hD, hk⟩, q⟩ := h
    have hu := hu_of hr
    refine ⟨_, (pss_cons (ps_asg (pv 0) (pg_tup rfl (pgs_cons (pg_name (i := 2) sc_turned_tie.nd rfl (.inl rfl)) (pgs_cons (pg_name (i := 3) sc_turned_tie.nd rfl (.inl rfl)) (pgs_cons (pg_name (i := 4) sc_turned_tie.nd rfl (.inl rfl)) pgs_nil)))))
      (pss_cons (ps_if (pt_cmpR op_eq (pe_cmp (pc_din hu (pv 2) (pv 1))) (pe_cmp (pc_din hu (pv 3) (pv 1))) (nomark _))
        (pss_one (ps_ret (pv 0)))
        pss_nil)
      (pss_one (ps_ret (pe_tup (pa_cons (pv 2) (pa_cons (pv 3) (pa_cons (pe_ifExp (pt_cmpR op_eq (pv 4) pe_str (nomark _)) pe_str pe_str) pa_nil)))))))), ?_⟩
    refine ⟨.ref a, rfl, a, _, rfl, SqT.of ha, rfl, _, _, rfl, _, _, rfl, _, _, rfl, rfl, ?_⟩
    refine ⟨.int t.one, rfl, .ref D, rfl, D, _, rfl, DGet.k (k := Sum.inl t.one) hD, .int t.other, rfl, .ref D, rfl, D, _, rfl, DGet.k (k := Sum.inl t.other) hD, rfl, _, rfl, ?_⟩
    rw [hk, hk]
    refine ite2 (fun e => ?_) (fun e => ?_)
    · have e1 : inP ps t.one = inP ps t.other := V.bl.inj (of_decide_eq_true e)
      refine ⟨.ref a, rfl, q _ _ (Same.refl H) ?_⟩
      unfold turnT
      rw [if_pos e1]
      exact ⟨a, rfl, ha⟩
    · have e1 : ¬ inP ps t.one = inP ps t.other := fun z => e (decide_eq_true (by rw [z]))
      have e2 : decide (V.str (kindS t.foe) = V.str "friend") = !t.foe := by cases t.foe <;> rfl
      refine ⟨.int t.one, rfl, .int t.other, rfl, .str (kindS t.foe), rfl, rfl, _, rfl, ?_⟩
      rw [e2]
      have fin : ∀ p, H p = none → Q (.ref p) (upd H p (.tup [.int t.one, .int t.other, .str (kindS (!t.foe))])) := fun p np => by
        refine q _ _ (same_new np) ?_
        unfold turnT
        rw [if_neg e1]
        exact ⟨p, rfl, upd_same⟩
      cases hf : t.foe with
      | true =>
        rw [hf] at fin
        exact ⟨by show 3 ≤ sizeLine; decide, fun p np => fin p np⟩
      | false =>
        rw [hf] at fin
        exact ⟨by show 3 ≤ sizeLine; decide, fun p np => fin p np⟩
theorem ok_turned {f : Addr} {fd : FuncData} (F : Fun K "turned" "turned" s_turned f fd) (M : Free mg) (D1 : Df P w K mg base 1 "turned_tie" ["tie", "among"] spTurnedTie) : FnOk P w K mg base CX0 2 f fd ["web", "places"] (spTurned K) := by
  obtain ⟨f1, fd1, G1, g1, k1, b1⟩ := D1
  refine F.ok sc_turned (fun vs H Q E h => ?_) (fun cdv A outer s H vs Q E hr h => ?_)
  · obtain ⟨v, p, n, ts, ps, rfl, _⟩ := h
    rfl
  · obtain ⟨v, p, n, ts, ps, rfl, ⟨wa, wb, us, rfl, hwa, hwb, hp⟩, few, hP, hps, q⟩ := h
    refine ⟨_, (pss_cons (ps_set (i := 2) sc_turned.nd rfl (.inr rfl) (pe_dc (own := [("place", 3)]) (g := gName 3) (tt := tYes) rfl sc_turned.nd (pi_tup (pv 1)) (blkOk_by (N := N_turned) (sc := defScope s_turned) (own := [("place", 3)]) (by decide +kernel)) (fun _ _ _ _ _ => (pg_name (i := 3) sc_turned.nd rfl (.inl rfl))) (fun _ _ _ _ _ => pts_nil) (fun _ _ _ _ _ => (pv 3)) (fun _ _ _ _ _ => pe_bl)))
      (pss_one (ps_ret (pe_tup (pa_cons (pe_ix ix_tup (pv 0) pe_int (fun _ _ => rfl)) (pa_cons (pe_callTy call_tuple_of (by rfl) M.tuple (by decide +kernel) (pa_cons (pe_lc (own := [("tie", 4)]) (g := gName 4) (tt := tYes) rfl sc_turned.nd (pi_tup (pe_ix ix_tup (pv 0) pe_int (fun _ _ => rfl))) (blkOk_by (N := N_turned) (sc := defScope s_turned) (own := [("tie", 4)]) (by decide +kernel)) (fun _ _ _ _ _ => (pg_name (i := 4) sc_turned.nd rfl (.inl rfl))) (fun _ _ _ _ _ => pts_nil) (fun _ _ _ _ _ => (pe_call G1 hr (by rfl) g1 k1 b1 .nil pass0 (pa_cons (pv 4) (pa_cons (pv 2) pa_nil))))) pa_nil)) pa_nil)))))), ?_⟩
    refine ⟨.ref p, rfl, p, rfl, ⟨_, hP⟩, fun D nD => ?_⟩
    refine dc_tup (xs := ps.map V.int) (fun i H' => ∃ kvs : List (Key × V), H' D = some (.dK kvs) ∧ kvs.length ≤ i ∧ (∀ k : Int, (valV kvs (Sum.inl k)).isSome = inP (ps.take i) k) ∧ Same H H') ⟨[], upd_same, Nat.le_refl _, fun k => rfl, same_new nD⟩ (fun i H' _ h => by
      obtain ⟨kvs, _, _, _, s1⟩ := h
      exact Same.seqT s1 hP) ?_ ?_
    · rintro i x H1 ex ⟨kvs, hD, hl, hk, s1⟩
      rw [List.getElem?_map] at ex
      obtain ⟨y, hy, rfl⟩ := Option.map_eq_some_iff.mp ex
      have hi : i < ps.length := (List.getElem?_eq_some_iff.mp hy).1
      refine ⟨rfl, .int y, rfl, kvs, Sum.inl y, rfl, hD, small1000 (by omega), putK kvs (Sum.inl y) (.bl true), upd_same, ?_, fun k => ?_, Same.mut s1 nD⟩
      · have := length_putK kvs (Sum.inl y) (.bl true)
        omega
      · rw [valV_put, inP_take hy, ← hk]
        by_cases e : k = y
        · subst e
          rw [if_pos rfl]
          simp
        · rw [if_neg (fun z => e (Sum.inl.inj z)), decide_eq_false e]
          rfl
    · rintro H1 ⟨kvs, hD, hl, hk, s1⟩
      rw [List.length_map] at hl hk
      rw [List.take_length] at hk
      have hA : AmongAt H1 D ps := ⟨kvs, hD, hk⟩
      clear hD hl hk
      refine ⟨.ref wa, rfl, wa, _, 0, .int n, rfl, rfl, SqT.of (s1 _ _ hwa), rfl, .ref wa, rfl, wa, _, 1, .ref wb, rfl, rfl, SqT.of (s1 _ _ hwa), rfl, wb, rfl, ⟨_, SqT.of (s1 _ _ hwb)⟩, fun Z nZ => ?_⟩
      have hlen : us.length = ts.length := Paired.length hp
      refine lc_tup (xs := us) (fun i H' => ∃ vs : List V, H' Z = some (.lst vs) ∧ Paired (TieV H') vs ((ts.take i).map (turnT ps)) ∧ Same H1 H') ⟨[], upd_same, .nil, same_new nZ⟩ (fun i H' _ h => by
        obtain ⟨vs, _, _, s2⟩ := h
        exact SqT.of (s2 _ _ (s1 _ _ hwb))) ?_ ?_
      · rintro i x H2 ex ⟨vs, hZ, hv, s2⟩
        obtain ⟨t, et, ht⟩ := Paired.at hp ex
        have hi : i < us.length := (List.getElem?_eq_some_iff.mp ex).1
        have lv : vs.length = i := by
          rw [Paired.length hv, List.length_map, List.length_take]
          omega
        refine ⟨rfl, x, rfl, .ref D, rfl, x, D, t, ps, rfl, ht.tk (Same.tk (s1.trans s2)), hA.same s2, fun u H3 s3 hu3 => ?_⟩
        have hZ3 := s3 _ _ hZ
        refine ⟨vs, hZ3, small1000 (by omega), vs ++ [u], upd_same, ?_, Same.mut (s2.trans s3) nZ⟩
        rw [map_take_succ et]
        exact Paired.snoc (ties_tk (tk_lst hZ3) (ties_tk (Same.tk s3) hv)) (hu3.tk (tk_lst hZ3))
      · rintro H2 ⟨vs, hZ, hv, s2⟩
        rw [hlen, List.take_length] at hv
        refine ⟨Z, vs, rfl, .inl ⟨SqL.of hZ, fun r nr => ⟨by show 2 ≤ sizeLine; decide, fun o no => ?_⟩⟩⟩
        have s3 : Same H2 _ := (same_new (o := .tup vs) nr).trans (same_new (o := .tup [.int n, .ref r]) no)
        exact q _ _ ((s1.trans s2).trans s3) ⟨o, r, vs, rfl, upd_same, same_new no _ _ upd_same, ties_tk (Same.tk s3) hv⟩
end
/-! ### the law's own turning -/
theorem cnt_in : ∀ {ps : List Int}, ps.Nodup → ∀ k : Int, ps.count k = if inP ps k = true then 1 else 0
  | [], _, k => rfl
  | x :: xs, nd, k => by
    have nd' := List.nodup_cons.mp nd
    rw [List.count_cons, cnt_in nd'.2 k]
    unfold inP
    by_cases e : x = k
    · subst e
      rw [decide_eq_false nd'.1]
      simp
    · by_cases h : k ∈ xs
      · rw [decide_eq_true h, decide_eq_true (List.mem_cons_of_mem _ h)]
        simp [e]
      · rw [decide_eq_false h, decide_eq_false (fun z => (List.mem_cons.mp z).elim (fun z => e z.symm) h)]
        simp [e]
def spAbout : Sp := fun vs H Q _ => ∃ (v : V) (p : Addr) (n : Int) (ts : List Tie) (ps : List Int), vs = [v, .ref p] ∧ WebAt H v n ts ∧ ts.length ≤ 120 ∧ NoD H p (ps.map V.int) ∧ ps.Nodup ∧
  ∀ u H', Same H H' → WebAt H' u n (ts.map (turnT ps)) → Q u H'
theorem flips (b : Bool) : valV (mergeK [] [((Sum.inr "friend" : Key), V.str "foe"), (Sum.inr "foe", V.str "friend")]) (Sum.inr (kindS b)) = some (.str (kindS (!b))) := by
  cases b <;> decide
section
variable {P : Program} {w : World} {K : PySem.W.Frag} {mg : Str → Option Value} {base : Heap}
theorem ok_l_about {f : Addr} {fd : FuncData} (F : Fun K "_law_about" "_law_about" s_l_about f fd) (M : Free mg) : FnOk P w K mg base CX0 1 f fd ["_law_web_here", "_law_places_here"] spAbout := by
  refine F.ok sc_l_about (fun vs H Q E h => ?_) (fun cdv A outer s H vs Q E hr h => ?_)
  · obtain ⟨v, p, n, ts, ps, rfl, _⟩ := h
    rfl
  · obtain ⟨v, p, n, ts, ps, rfl, ⟨wa, wb, us, rfl, hwa, hwb, hp⟩, few, hP, nd, q⟩ := h
    have hu := hu_of hr
    refine ⟨_, (pss_cons (ps_set (i := 2) sc_l_about.nd rfl (.inl rfl) (pe_disp (pps_cons pe_str pe_str (pps_cons pe_str pe_str pps_nil)) (by rfl) (by rfl) (fun z => by cases z) (by decide)))
      (pss_cons (ps_set (i := 3) sc_l_about.nd rfl (.inl rfl) (pe_lst pa_nil))
      (pss_cons (ps_for PassesOwn.never rfl (pi_tup (pe_ix ix_tup (pv 0) pe_int (fun _ _ => rfl))) (pg_name (i := 4) sc_l_about.nd rfl (.inl rfl))
        (Evl.pss_cut (ps_if (pt_cmpR op_eq (pe_op op_add (pe_bmT PySem.F.slot_tuple_count PySem.F.type_tuple_count mt_tcount (pv 1) (pa_cons (pe_ix ix_tup (pv 4) pe_int (fun _ _ => rfl)) pa_nil)) (pe_bmT PySem.F.slot_tuple_count PySem.F.type_tuple_count mt_tcount (pv 1) (pa_cons (pe_ix ix_tup (pv 4) pe_int (fun _ _ => rfl)) pa_nil))) pe_int (nomark _))
          (pss_one (ps_set (i := 4) sc_l_about.nd rfl (.inl rfl) (pe_op op_catU (pe_slice sl_tupU (pv 4) po_none (po_some pe_int)) (pe_tup (pa_cons (pe_dget hu (pv 2) (pe_ix ix_tup (pv 4) pe_int (fun _ _ => rfl)) (fun _ _ => rfl)) pa_nil)))))
          pss_nil)
        (pss_one (ps_expr (pe_bm PySem.F.plainAttrs_list PySem.F.slot_list_append PySem.F.type_list_append mt_append (pv 3) (pa_cons (pv 4) pa_nil))))))
      (pss_one (ps_ret (pe_tup (pa_cons (pe_ix ix_tup (pv 0) pe_int (fun _ _ => rfl)) (pa_cons (pe_callTy call_tuple_of (by rfl) M.tuple (by decide +kernel) (pa_cons (pv 3) pa_nil)) pa_nil)))))))), ?_⟩
    refine fun D nD => ⟨upd_same, [((Sum.inr "friend" : Key), V.str "foe"), (Sum.inr "foe", V.str "friend")], rfl, by decide, ?_⟩
    rw [upd_upd]
    generalize hkv : mergeK [] [((Sum.inr "friend" : Key), V.str "foe"), (Sum.inr "foe", V.str "friend")] = kvs
    have hk : ∀ b, valV kvs (Sum.inr (kindS b)) = some (.str (kindS (!b))) := fun b => by rw [← hkv]; exact flips b
    clear hkv
    have s1 : Same H (upd H D (.dK kvs)) := same_new nD
    have hD : (upd H D (.dK kvs)) D = some (.dK kvs) := upd_same
    generalize upd H D (.dK kvs) = H1 at s1 hD
    refine ⟨Nat.zero_le _, fun Z nZ => ?_⟩
    have s2 : Same H1 (upd H1 Z (.lst [])) := same_new nZ
    have hlen : us.length = ts.length := Paired.length hp
    refine ⟨.ref wa, rfl, wa, _, 1, .ref wb, rfl, rfl, SqT.of (s2 _ _ (s1 _ _ hwa)), rfl, wb, rfl, ⟨_, SqT.of (s2 _ _ (s1 _ _ hwb))⟩, ?_⟩
    refine for_tup (xs := us) (fun i σ' H' => ∃ (y4 : Option V) (vs : List V), σ' = [some (.ref wa), some (.ref p), some (.ref D), some (.ref Z), y4] ∧ H' Z = some (.lst vs) ∧ Paired (TieV H') vs ((ts.take i).map (turnT ps)) ∧ Same H1 H') ⟨none, [], rfl, upd_same, .nil, s2⟩ (fun i σ' H' _ h => by
      obtain ⟨y4, vs, _, _, _, s3⟩ := h
      exact SqT.of (s3 _ _ (s1 _ _ hwb))) ?_ ?_
    · rintro i x σ' H2 ex ⟨y4, vs, rfl, hZ, hv, s3⟩
      obtain ⟨t, et, a, rfl, hx⟩ := Paired.at hp ex
      have hi : i < us.length := (List.getElem?_eq_some_iff.mp ex).1
      have lv : vs.length = i := by
        rw [Paired.length hv, List.length_map, List.length_take]
        omega
      have s12 := s1.trans s3
      have hP2 := hP.same s12
      have hx2 := s12 _ _ hx
      refine ⟨fun σ' H' => ∃ u, σ' = [some (.ref wa), some (.ref p), some (.ref D), some (.ref Z), some u] ∧ TieV H' u (turnT ps t) ∧ Same H2 H', ?_, ?_⟩
      · refine ⟨.ref p, rfl, ⟨p, _, rfl, hP2⟩, .ref a, rfl, a, _, 0, _, rfl, rfl, SqT.of hx2, rfl, p, ps, t.one, rfl, rfl, hP2.sq, .ref p, rfl, ⟨p, _, rfl, hP2⟩, .ref a, rfl, a, _, 1, _, rfl, rfl, SqT.of hx2, rfl, p, ps, t.other, rfl, rfl, hP2.sq, _, _, rfl, rfl, rfl, _, rfl, ?_⟩
        rw [cnt_in nd, cnt_in nd]
        have e0 : ∀ x y : Bool, decide (V.int (((if x = true then 1 else 0 : Nat) : Int) + ((if y = true then 1 else 0 : Nat) : Int)) = V.int 1) = (x != y) := fun x y => by cases x <;> cases y <;> rfl
        rw [e0]
        by_cases e1 : inP ps t.one = inP ps t.other
        · rw [e1]
          have e2 : (inP ps t.other != inP ps t.other) = false := by cases inP ps t.other <;> rfl
          rw [e2]
          refine ⟨.ref a, rfl, ?_, Same.refl H2⟩
          unfold turnT
          rw [if_pos e1]
          exact ⟨a, rfl, hx2⟩
        · have e2 : (inP ps t.one != inP ps t.other) = true := by
            cases h1 : inP ps t.one <;> cases h2 : inP ps t.other <;> first | rfl | exact absurd (h1.trans h2.symm) e1
          rw [e2]
          refine ⟨.ref a, rfl, 2, rfl, a, _, rfl, hx2, fun r H3 s4 hr3 => ?_⟩
          have ec : cutV [V.int t.one, V.int t.other, V.str (kindS t.foe)] none (some 2) = [V.int t.one, V.int t.other] := rfl
          rw [ec] at hr3
          refine ⟨.ref D, rfl, .ref a, rfl, a, _, 2, _, rfl, rfl, SqT.of (s4 _ _ hx2), rfl, D, .str (kindS (!t.foe)), rfl, ?_, by show 1 ≤ sizeLine; decide, fun o no => ?_⟩
          · rw [← hk t.foe]
            exact DGet.k (k := Sum.inr (kindS t.foe)) (s4 _ _ (s3 _ _ hD))
          · refine ⟨r, o, _, _, rfl, rfl, same_new no _ _ hr3, upd_same, by show 3 ≤ 100000; decide, fun r5 H5 s5 h5 => ?_⟩
            refine ⟨_, rfl, ?_, (s4.trans (same_new no)).trans s5⟩
            unfold turnT
            rw [if_neg e1]
            exact ⟨r5, rfl, h5⟩
      · rintro σ' H3 ⟨u, rfl, hu3, s4⟩
        have hZ3 := s4 _ _ hZ
        refine ⟨.ref Z, rfl, .inl ⟨rfl, _, SqL.of hZ3⟩, u, rfl, Z, vs, _, rfl, rfl, hZ3, small1000 (by omega), ?_⟩
        refine ⟨_, vs ++ [u], rfl, upd_same, ?_, Same.mut (s3.trans s4) nZ⟩
        rw [map_take_succ et]
        exact Paired.snoc (ties_tk (tk_lst hZ3) (ties_tk (Same.tk s4) hv)) (hu3.tk (tk_lst hZ3))
    · rintro σ' H2 ⟨y4, vs, rfl, hZ, hv, s3⟩
      rw [hlen, List.take_length] at hv
      refine ⟨.ref wa, rfl, wa, _, 0, .int n, rfl, rfl, SqT.of (s3 _ _ (s1 _ _ hwa)), rfl, .ref Z, rfl, Z, vs, rfl, .inl ⟨SqL.of hZ, fun r nr => ⟨by show 2 ≤ sizeLine; decide, fun o no => ?_⟩⟩⟩
      have s4 : Same H2 _ := (same_new (o := .tup vs) nr).trans (same_new (o := .tup [.int n, .ref r]) no)
      exact q _ _ ((s1.trans s3).trans s4) ⟨o, r, vs, rfl, upd_same, same_new no _ _ upd_same, ties_tk (Same.tk s4) hv⟩
end
/-! ### data that repr tells -/
structure Fine (k w : Nat) (d : PyData) : Prop where
  lay : d.canLay0 = true
  shw : d.showable = true
  nod : d.hasDict = false
  sho : d.intsShort 13 = true
  dep : d.depth ≤ k
  wei : d.weight ≤ w
theorem Fine.int {i : Int} (h0 : -1000 ≤ i) (h1 : i < 1000) : Fine 0 10 (.int i) := by
  have hn : i.natAbs < 1024 := by omega
  have hl : i.natAbs.log2 < 10 ∨ i.natAbs = 0 := by
    by_cases e : i.natAbs = 0
    · exact .inr e
    · exact .inl ((Nat.log2_lt e).mpr (by omega))
  have hl2 : i.natAbs.log2 < 1920 := by
    rcases hl with h | h
    · omega
    · rw [h]
      decide
  refine ⟨rfl, ?_, rfl, ?_, Nat.le_refl _, ?_⟩
  · rw [PyData.showable]
    exact decide_eq_true hl2
  · have h3 := PyProof.Rows.intsShortAll_ints2 [i] (fun n hn => by rw [List.mem_singleton.mp hn]; omega)
    simpa [PyData.intsShortAll] using h3
  · rw [PyData.weight]
    split
    · omega
    · rename_i e
      rcases hl with h | h
      · omega
      · exact absurd (by simpa using h) e
theorem Fine.non : Fine 0 0 .none := ⟨rfl, rfl, rfl, rfl, Nat.le_refl _, Nat.le_refl _⟩
theorem Fine.bool (b : Bool) : Fine 0 0 (.bool b) := ⟨rfl, rfl, rfl, rfl, Nat.le_refl _, Nat.le_refl _⟩
theorem Fine.str {x : Str} (h1 : (PyData.str x).canLay0 = true) (h2 : x.cps.size ≤ 100) : Fine 0 100 (.str x) := ⟨h1, rfl, rfl, rfl, Nat.le_refl _, h2⟩
theorem Fine.mono {k k' w w' : Nat} {d : PyData} (h : Fine k w d) (hk : k ≤ k') (hw : w ≤ w') : Fine k' w' d := ⟨h.lay, h.shw, h.nod, h.sho, Nat.le_trans h.dep hk, Nat.le_trans h.wei hw⟩
theorem fine_all {k w : Nat} : ∀ {xs : List PyData}, (∀ x ∈ xs, Fine k w x) → PyData.canLayAll0 xs = true ∧ PyData.showableAll xs = true ∧ PyData.hasDictAll xs = false ∧ PyData.intsShortAll 13 xs = true ∧ PyData.depthAll xs ≤ k ∧ PyData.weightAll xs ≤ xs.length * (w + 1)
  | [], _ => by simp [PyData.canLayAll0, PyData.showableAll, PyData.hasDictAll, PyData.intsShortAll, PyData.depthAll, PyData.weightAll]
  | x :: xs, h => by
    obtain ⟨h1, h2, h3, h4, h5, h6⟩ := fine_all (xs := xs) fun y hy => h y (List.mem_cons_of_mem _ hy)
    obtain ⟨g1, g2, g3, g4, g5, g6⟩ := h x (by simp)
    refine ⟨by rw [PyData.canLayAll0, g1, h1]; rfl, by rw [PyData.showableAll, g2, h2]; rfl, by rw [PyData.hasDictAll, g3, h3]; rfl, by rw [PyData.intsShortAll, g4, h4]; rfl, ?_, ?_⟩
    · rw [PyData.depthAll]
      omega
    · rw [PyData.weightAll, List.length_cons, Nat.succ_mul]
      omega
theorem Fine.tup {k w n : Nat} {xs : List PyData} (h : ∀ x ∈ xs, Fine k w x) (hn : xs.length ≤ n) : Fine (k + 1) (n * (w + 1)) (.tuple xs) := by
  obtain ⟨h1, h2, h3, h4, h5, h6⟩ := fine_all h
  refine ⟨by rw [PyData.canLay0]; exact h1, by rw [PyData.showable]; exact h2, by rw [PyData.hasDict]; exact h3, by rw [PyData.intsShort]; exact h4, by rw [PyData.depth]; omega, ?_⟩
  rw [PyData.weight]
  exact Nat.le_trans h6 (Nat.mul_le_mul_right _ hn)
theorem Fine.len {k w : Nat} {d : PyData} (h : Fine k w d) (hk : k ≤ 60) (hw : w ≤ 1000000) : d.shown.length ≤ sizeLine := by
  have hl : PyData.layable0 d = true := by
    unfold PyData.layable0
    rw [h.lay, decide_eq_true (show d.depth ≤ 64 by have := h.dep; omega), decide_eq_true (show d.weight ≤ 2 ^ 20 by have := h.wei; omega)]
    rfl
  have := PyProof.Rows.shown_le13 hl h.sho
  rw [sizeLine_eq]
  omega
def tieD (t : Tie) : PyData := .tuple [.int t.one, .int t.other, .str (kindS t.foe)]
def webD (n : Int) (ts : List Tie) : PyData := .tuple [.int n, .tuple (ts.map tieD)]
theorem kind_ok (b : Bool) : (PyData.str (kindS b)).canLay0 = true ∧ (kindS b).cps.size ≤ 100 := by cases b <;> decide +kernel
theorem Fine.tie {n : Int} {t : Tie} (h : TieOk n t) (hn : n ≤ 40) : Fine 1 303 (tieD t) := by
  obtain ⟨h1, h2, h3, h4, _⟩ := h
  refine (Fine.tup (k := 0) (w := 100) (n := 3) (fun x hx => ?_) (Nat.le_refl _)).mono (Nat.le_refl _) (by decide)
  simp only [List.mem_cons, List.not_mem_nil, or_false] at hx
  rcases hx with rfl | rfl | rfl
  · exact (Fine.int (by omega) (by omega)).mono (Nat.le_refl _) (by decide)
  · exact (Fine.int (by omega) (by omega)).mono (Nat.le_refl _) (by decide)
  · exact Fine.str (kind_ok _).1 (kind_ok _).2
theorem Fine.web {n : Int} {ts : List Tie} (h : WebOk n ts) : Fine 3 80000 (webD n ts) := by
  have h1 := h.lo
  have h2 := h.hi
  have ft : Fine 2 36480 (.tuple (ts.map tieD)) := (Fine.tup (k := 1) (w := 303) (n := 120) (fun x hx => by
    obtain ⟨t, ht, rfl⟩ := List.mem_map.mp hx
    exact Fine.tie (h.ok t ht) h2) (by rw [List.length_map]; exact h.few)).mono (Nat.le_refl _) (by decide)
  refine (Fine.tup (k := 2) (w := 36480) (n := 2) (fun x hx => ?_) (Nat.le_refl _)).mono (Nat.le_refl _) (by decide)
  simp only [List.mem_cons, List.not_mem_nil, or_false] at hx
  rcases hx with rfl | rfl
  · exact (Fine.int (by omega) (by omega)).mono (by decide) (by decide)
  · exact ft
theorem Fine.intsD {xs : List Int} (h : ∀ x ∈ xs, 0 ≤ x ∧ x < 1000) (hl : xs.length ≤ 200) : Fine 1 2200 (intsD xs) :=
  (Fine.tup (k := 0) (w := 10) (n := 200) (fun x hx => by
    obtain ⟨i, hi, rfl⟩ := List.mem_map.mp hx
    have := h i hi
    exact Fine.int (by omega) (by omega)) (by rw [List.length_map]; exact hl)).mono (Nat.le_refl _) (by decide)
theorem dp_ties {K : PySem.W.Frag} {H : Hp} : ∀ {vs : List V} {ts : List Tie}, Paired (TieV H) vs ts → DpAll K H vs (ts.map tieD)
  | _, _, .nil => .nil
  | _, _, .cons r t => by
    obtain ⟨a, rfl, e⟩ := r
    exact .cons (.tup (SqT.of e) (.cons (.int _) (.cons (.int _) (.cons (.str _) .nil)))) (dp_ties t)
theorem WebAt.dp {K : PySem.W.Frag} {H : Hp} {v : V} {n : Int} {ts : List Tie} (h : WebAt H v n ts) : Dp K H v (webD n ts) := by
  obtain ⟨a, b, vs, rfl, h1, h2, h3⟩ := h
  exact .tup (SqT.of h1) (.cons (.int _) (.cons (.tup (SqT.of h2) (dp_ties h3)) .nil))
/-! ### drawn places -/
theorem in_ints (ps : List Int) (i : Int) : inV (.int i) (ps.map V.int) = inP ps i := by
  rw [Bool.eq_iff_iff]
  unfold inV inP
  rw [List.any_map, List.any_eq_true, decide_eq_true_iff]
  constructor
  · rintro ⟨x, hx, e⟩
    have e' : (x == i) = true := e
    rw [beq_iff_eq] at e'
    subst e'
    exact hx
  · intro h
    exact ⟨i, h, by show (i == i) = true; simp⟩
theorem rgV_rng (m : Int) : rgV 0 m = (rng m.toNat).map V.int := by
  unfold rgV rng
  rw [List.map_map]
  have e : (m - 0).toNat = m.toNat := by omega
  rw [e]
  refine List.map_congr_left fun i _ => ?_
  show V.int (0 + (i : Nat)) = V.int (i : Nat)
  rw [Int.zero_add]
theorem rising_nodup {xs : List Int} (h : xs.Pairwise (· < ·)) : xs.Nodup := h.imp fun h => by omega
theorem filter_rng_succ (p : Int → Bool) (i : Nat) : ((rng (i + 1)).filter p).map V.int = ((rng i).filter p).map V.int ++ (if p i = true then [V.int i] else []) := by
  rw [rng_succ, List.filter_append, List.map_append, List.filter_cons]
  by_cases h : p i = true
  · rw [if_pos h, if_pos h]
    rfl
  · rw [if_neg h, if_neg h]
    rfl
theorem filter_rng_len (p : Int → Bool) (i : Nat) : ((rng i).filter p).length ≤ i := by
  have := List.length_filter_le p (rng i)
  rw [rng_length] at this
  exact this
def spPlaces : Sp := fun vs H Q _ => ∃ (d : Addr) (b : Nat) (n : Int), vs = [.ref d, .int n] ∧ Well H d b ∧ b < 2 ^ 50 ∧ 1 ≤ n ∧ n ≤ 40 ∧
  ∀ (p : Addr) (ps : List Int) (H' : Hp), NoD H' p (ps.map V.int) → ps.Pairwise (· < ·) → (∀ x ∈ ps, 0 ≤ x ∧ x < n) → ps.length ≤ 40 → Well H' d (b + 100) → Kp d d H H' → Q (.ref p) H'
section
variable {P : Program} {w : World} {K : PySem.W.Frag} {mg : Str → Option Value} {base : Heap}
theorem ok_l_places {f : Addr} {fd : FuncData} (F : Fun K "_law_places" "_law_places" s_l_places f fd) (M : Free mg) (Dd : Df P w K mg base 1 "_law_draw" ["_law_well_here", "_law_most"] spDraw) : FnOk P w K mg base CX0 2 f fd ["_law_well_here", "_law_many"] spPlaces := by
  obtain ⟨fD, fdD, GD, gD, kD, bD⟩ := Dd
  refine F.ok sc_l_places (fun vs H Q E h => ?_) (fun cdv A outer s H vs Q E hr h => ?_)
  · obtain ⟨d, b, n, rfl, _⟩ := h
    rfl
  · obtain ⟨d, b, n, rfl, hD, hB, hn1, hn2, q⟩ := h
    obtain ⟨k, rfl⟩ : ∃ k : Nat, n = k := ⟨n.toNat, by omega⟩
    refine ⟨_, (pss_cons (ps_set (i := 2) sc_l_places.nd rfl (.inl rfl) (pe_call GD hr (by rfl) gD kD bD .nil pass0 (pa_cons (pv 0) (pa_cons pe_int pa_nil))))
      (pss_cons (ps_if (pt_cmpR op_lt (pv 2) pe_int (nomark _))
        (pss_one (ps_ret (pe_tupRgZ rfl (by rfl) M.tuple (prg_1 (by rfl) M.range (pe_op op_mul (pv 1) (pv 2))))))
        pss_nil)
      (pss_one (ps_ret (pe_callTy call_tuple_ofZ (by rfl) M.tuple (by decide +kernel) (pa_cons (pe_lc (own := [("_law_place", 3)]) (g := gName 3) (te := tVar 3) rfl sc_l_places.nd (pi_range1 (by rfl) M.range (pa_cons (pv 1) pa_nil)) (blkOk_by (N := N_l_places) (sc := defScope s_l_places) (own := [("_law_place", 3)]) (by decide +kernel)) (fun _ _ _ _ _ => (pg_name (i := 3) sc_l_places.nd rfl (.inl rfl))) (fun _ _ _ _ _ => (pts_one (pt_cmpR op_eq (pe_call GD hr (by rfl) gD kD bD .nil pass0 (pa_cons (pv 0) (pa_cons pe_int pa_nil))) pe_int (nomark _)))) (fun _ _ _ _ _ => (pv 3))) pa_nil)))))), ?_⟩
    refine ⟨.ref d, rfl, d, b, 8, rfl, hD, by omega, by decide, by decide, fun v H1 a1 b1 D1 K1 => ?_⟩
    refine ⟨.int v, rfl, v, 2, rfl, rfl, _, rfl, ite2 (fun e => ?_) (fun e => ?_)⟩
    · have hv := of_decide_eq_true e
      have hm : 0 ≤ (k : Int) * v ∧ (k : Int) * v ≤ k := by
        have h01 : v = 0 ∨ v = 1 := by omega
        rcases h01 with e | e <;> subst e <;> omega
      refine ⟨.int k, rfl, .int v, rfl, k, v, rfl, rfl, .inl ⟨by omega, by omega⟩, _, rfl, RgOk.of_le (by omega) (by omega) (by omega) (by omega), fun r o od nr => ?_⟩
      refine q r (rng ((k : Int) * v).toNat) _ ⟨o, od, by rw [upd_same, rgV_rng]⟩ (rng_rising _) (fun x hx => ?_) (by rw [rng_length]; omega) ((D1.new nr).mono (by omega)) (K1.trans (Kp.new nr))
      have := mem_rng.mp hx
      omega
    · refine ⟨.int k, rfl, k, rfl, by omega, by omega, fun Z nZ => ?_⟩
      rw [Int.toNat_natCast]
      have hZd := D1.ned nZ
      have nZ0 := K1.free nZ hZd hZd
      refine lc_range (lo := 0) (n := k) (fun i H' => ∃ ps : List Int, H' Z = some (.lst (ps.map V.int)) ∧ ps.length ≤ i ∧ ps.Pairwise (· < ·) ∧ (∀ x ∈ ps, 0 ≤ x ∧ x < i) ∧ Well H' d (b + 1 + i) ∧ Kp d d H H') ⟨[], upd_same, Nat.le_refl _, .nil, fun x hx => by simp at hx, D1.new nZ, K1.trans (Kp.new nZ)⟩ ?_ ?_
      · rintro i H2 hi ⟨ps, h2, l2, r2, o2, D2, K2⟩
        refine ⟨rfl, .ref d, rfl, d, _, 2, rfl, D2, by omega, by decide, by decide, fun y H3 a3 b3 D3 K3 => ⟨rfl, _, rfl, ?_⟩⟩
        have h3 := K3 _ _ hZd hZd h2
        refine ite2 (fun _ => ?_) (fun _ => ?_)
        · rw [show (0 : Int) + (i : Nat) = i from by omega]
          refine ⟨.int i, rfl, _, h3, by rw [List.length_map]; exact small1000 (by omega), ps ++ [(i : Int)], by rw [upd_same, List.map_append]; rfl, by rw [List.length_append]; show ps.length + 1 ≤ i + 1; omega, ?_, fun x hx => ?_, (D3.mut hZd).mono (by omega), (K2.trans K3).mut nZ0⟩
          · rw [List.pairwise_append]
            refine ⟨r2, by simp, fun x hx y hy => ?_⟩
            rw [List.mem_singleton.mp hy]
            exact (o2 x hx).2
          · rcases List.mem_append.mp hx with h | h
            · have := o2 x h
              omega
            · rw [List.mem_singleton.mp h]
              omega
        · exact ⟨ps, h3, by omega, r2, fun x hx => by have := o2 x hx; omega, D3.mono (by omega), K2.trans K3⟩
      · rintro H2 ⟨ps, h2, l2, r2, o2, D2, K2⟩
        refine ⟨Z, _, rfl, SqL.of h2, fun r o od nr => ?_⟩
        exact q r ps _ ⟨o, od, upd_same⟩ r2 o2 (by omega) ((D2.new nr).mono (by omega)) (K2.trans (Kp.new nr))
end
/-! ### joins -/
section
variable {P : Program} {w : World} {K : PySem.W.Frag} {mg : Str → Option Value} {base : Heap}
end
/-! ### tests that tell a truth and leave all as it is, but for new things -/
def Tst (t : TT) (σ : L2.St) (H : Hp) (c : Bool) : Prop := ∀ k : Bool → Hp → Prop, (∀ H', Same H H' → k c H') → t σ H k
theorem Tst.and {t u : TT} {σ : L2.St} {H : Hp} {a b : Bool} (h : Tst t σ H a) (g : ∀ H', Same H H' → a = true → Tst u σ H' b) : Tst (tAnd t u) σ H (a && b) := fun k hk => by
  refine h _ fun H' s => ?_
  cases a with
  | true => exact g H' s rfl _ fun H2 s2 => hk H2 (s.trans s2)
  | false => exact hk H' s
theorem Tst.if_ {t : TT} {tb te : TS} {D : Ends} {σ : L2.St} {H : Hp} {c : Bool} (h : Tst t σ H c) (hA : c = true → ∀ H', Same H H' → tb D σ H') (hB : c = false → ∀ H', Same H H' → te D σ H') : tIfS t tb te D σ H := by
  refine h _ fun H' s => ?_
  cases c with
  | true => exact hA rfl H' s
  | false => exact hB rfl H' s
theorem tst_neE {K : PySem.W.Frag} {i : Nat} {L : Addr} {vs : List V} {σ : L2.St} {H : Hp} (h : σ[i]? = some (some (.ref L))) (hL : H L = some (.lst vs)) : Tst (tTest (tOp (rNeE K) (tVar i) (tLst tNil))) σ H (!vs.isEmpty) := fun k hk =>
  ⟨.ref L, h, Nat.zero_le _, fun p np => ⟨L, p, vs, rfl, rfl, SqL.of (same_new np _ _ hL), SqL.of upd_same, _, rfl, hk _ (same_new np)⟩⟩
theorem tst_eqI {i : Nat} {x c : Int} {σ : L2.St} {H : Hp} (h : σ[i]? = some (some (.int x))) : Tst (tTest (tOp rEq (tVar i) (tC (.int c)))) σ H (decide (x = c)) := fun k hk => by
  refine ⟨.int x, h, rfl, _, rfl, ?_⟩
  have e : decide (V.int x = V.int c) = decide (x = c) := by
    rw [decide_eq_decide]
    exact ⟨fun h => V.int.inj h, fun h => by rw [h]⟩
  rw [e]
  exact hk _ (Same.refl H)
/-! ### pairs of lists -/
theorem paired_append {α β : Type} {F : α → β → Prop} : ∀ {l l' : List α} {m m' : List β}, Paired F l m → Paired F l' m' → Paired F (l ++ l') (m ++ m')
  | _, _, _, _, .nil, h => h
  | _, _, _, _, .cons r t, h => .cons r (paired_append t h)
theorem paired_take {α β : Type} {F : α → β → Prop} : ∀ {l : List α} {m : List β}, Paired F l m → ∀ n, Paired F (l.take n) (m.take n)
  | _, _, .nil, n => by simp; exact .nil
  | _, _, .cons r t, 0 => by simp; exact .nil
  | _, _, .cons r t, n + 1 => .cons r (paired_take t n)
theorem paired_drop {α β : Type} {F : α → β → Prop} : ∀ {l : List α} {m : List β}, Paired F l m → ∀ n, Paired F (l.drop n) (m.drop n)
  | _, _, .nil, n => by simp; exact .nil
  | _, _, .cons r t, 0 => .cons r t
  | _, _, .cons r t, n + 1 => by simpa using paired_drop t n
theorem paired_set {α β : Type} {F : α → β → Prop} : ∀ {l : List α} {m : List β} {j : Nat} {x : α} {y : β}, Paired F l m → F x y → Paired F (l.set j x) (m.set j y)
  | _, _, _, _, _, .nil, _ => by simp; exact .nil
  | _, _, 0, _, _, .cons _ t, h => .cons h t
  | _, _, j + 1, _, _, .cons r t, h => .cons r (paired_set (j := j) t h)
theorem paired_erase {α β : Type} {F : α → β → Prop} : ∀ {l : List α} {m : List β}, Paired F l m → ∀ j, Paired F (l.eraseIdx j) (m.eraseIdx j)
  | _, _, .nil, j => by simp; exact .nil
  | _, _, .cons _ t, 0 => t
  | _, _, .cons r t, j + 1 => .cons r (paired_erase t j)
/-! ### frames -/
def framedI (ts us : List Tie) : Bool := (ts.zip us).all fun p => joinB p.1 p.2.one p.2.other
def framedB (n : Int) (ts : List Tie) (m : Int) (us : List Tie) : Bool := decide (n = m) && (decide (ts.length = us.length) && framedI ts us)
theorem joinB_comm (t u : Tie) : joinB t u.one u.other = joinB u t.one t.other := by
  unfold joinB
  rw [Bool.eq_iff_iff]
  simp only [Bool.or_eq_true, Bool.and_eq_true, decide_eq_true_iff]
  constructor
  · rintro (⟨h1, h2⟩ | ⟨h1, h2⟩)
    · exact .inl ⟨h1.symm, h2.symm⟩
    · exact .inr ⟨h2.symm, h1.symm⟩
  · rintro (⟨h1, h2⟩ | ⟨h1, h2⟩)
    · exact .inl ⟨h1.symm, h2.symm⟩
    · exact .inr ⟨h2.symm, h1.symm⟩
theorem framedI_comm : ∀ ts us : List Tie, framedI ts us = framedI us ts
  | [], [] => rfl
  | [], _ :: _ => rfl
  | _ :: _, [] => rfl
  | t :: ts, u :: us => by
    have h := framedI_comm ts us
    unfold framedI at h ⊢
    rw [List.zip_cons_cons, List.zip_cons_cons, List.all_cons, List.all_cons, h, joinB_comm]
theorem framedB_comm (n : Int) (ts : List Tie) (m : Int) (us : List Tie) : framedB n ts m us = framedB m us n ts := by
  unfold framedB
  rw [framedI_comm]
  congr 1
  · rw [decide_eq_decide]
    exact eq_comm
  · congr 1
    rw [decide_eq_decide]
    exact eq_comm
theorem joinB_self (t : Tie) : joinB t t.one t.other = true := by
  unfold joinB
  simp
theorem framedI_self : ∀ ts : List Tie, framedI ts ts = true
  | [] => rfl
  | t :: ts => by
    have h := framedI_self ts
    unfold framedI at h ⊢
    rw [List.zip_cons_cons, List.all_cons, h, joinB_self]
    rfl
theorem framedB_self (n : Int) (ts : List Tie) : framedB n ts n ts = true := by
  unfold framedB
  rw [framedI_self]
  simp
def spFramed (Ps : List Addr) : Sp := fun vs H Q _ => ∃ (v u : V) (n : Int) (ts : List Tie) (m : Int) (us : List Tie), vs = [v, u] ∧ WebAt H v n ts ∧ WebAt H u m us ∧ Tabs Ps H ∧ ∀ H', Kt Ps H H' → Q (.bl (framedB n ts m us)) H'
theorem take_all {α : Type} {xs : List α} {p : α → Bool} {i : Nat} {x : α} (h : xs[i]? = some x) (ha : (xs.take i).all p = true) : (xs.take (i + 1)).all p = p x := by
  rw [List.take_add_one, h, List.all_append, ha]
  simp
theorem all_not {α : Type} {xs : List α} {p : α → Bool} {i : Nat} {x : α} (h : xs[i]? = some x) (hp : p x = false) : xs.all p = false := by
  rw [Bool.eq_false_iff]
  intro z
  rw [List.all_eq_true] at z
  rw [z x (List.mem_of_getElem? h)] at hp
  cases hp
theorem zip_at {α β : Type} {xs : List α} {ys : List β} {i : Nat} {x : α} {y : β} (h : xs[i]? = some x) (g : ys[i]? = some y) : (xs.zip ys)[i]? = some (x, y) := by
  rw [List.getElem?_zip_eq_some]
  exact ⟨h, g⟩
theorem neI (x y : Int) : (!decide (V.int x = V.int y)) = !decide (x = y) := by
  congr 1
  rw [decide_eq_decide]
  exact ⟨fun h => V.int.inj h, fun h => by rw [h]⟩
theorem neN (x y : Nat) : (!decide (V.int (x : Int) = V.int (y : Int))) = !decide (x = y) := by
  rw [neI]
  congr 1
  rw [decide_eq_decide]
  omega
section
variable {P : Program} {w : World} {K : PySem.W.Frag} {mg : Str → Option Value} {base : Heap}
set_option maxHeartbeats 1000000 in
theorem ok_are_framed {f c Pt : Addr} {fd : FuncData} {Ps : List Addr} (F : FunC K "are_framed" "are_framed" s_are_framed f fd c) (TB : GxR.TabB base mg c Pt) (hPt : Pt ∈ Ps) (M : Free mg) (hall : mg "all" = none) (mz : mg "zip" = none) (D3 : Df P w K mg base 1 "joins" ["tie", "one", "other"] spJoins) :
    FnOk P w K mg base CX0 3 f fd ["one", "other"] (spFramed Ps) := by
  obtain ⟨f3, fd3, G3, g3, k3, b3⟩ := D3
  refine F.ok sc_are_framed (fun vs H Q E h => ?_) (fun A outer s H vs Q E hr h => ?_)
  · obtain ⟨v, u, n, ts, m, us, rfl, _⟩ := h
    rfl
  · obtain ⟨v, u, n, ts, m, us, rfl, ⟨wa, wb, xs, rfl, hwa, hwb, hp⟩, ⟨va, vb, ys, rfl, hva, hvb, hq⟩, hT, q⟩ := h
    refine ⟨_, (pss_cons (ps_if (PW.pt (pw_or (pt_cmpR op_ne (pe_ix ix_tup (pv 0) pe_int (fun _ _ => rfl)) (pe_ix ix_tup (pv 1) pe_int (fun _ _ => rfl)) (nomark _)) (pw_or1 (pt_cmpR op_ne (pe_callB call_len_seq (by rfl) M.len PySem.boot_len (pa_cons (pe_ix ix_tup (pv 0) pe_int (fun _ _ => rfl)) pa_nil)) (pe_callB call_len_seq (by rfl) M.len PySem.boot_len (pa_cons (pe_ix ix_tup (pv 1) pe_int (fun _ _ => rfl)) pa_nil)) (nomark _)))))
        (pss_one (ps_ret pe_bl))
        pss_nil)
      (pss_one (ps_ret (pe_all (k := 1) (own := [("tie", 2), ("like", 3)]) (g := gTup K 2 (gCons (gName 2) (gCons (gName 3) gNil))) hr TB rfl rfl sc_are_framed.nd (by rfl) hall (RZ.pi_zipA (by rfl) mz (pa_cons (pe_ix ix_tup (pv 0) pe_int (fun _ _ => rfl)) (pa_cons (pe_ix ix_tup (pv 1) pe_int (fun _ _ => rfl)) pa_nil))) (blkOk_by (N := N_are_framed) (sc := defScope s_are_framed) (own := [("tie", 2), ("like", 3)]) (by decide +kernel)) ⟨rfl, by decide +kernel, by decide +kernel⟩ (show (".0" : Str) ∉ N_are_framed by decide +kernel)
        (fun _ _ _ _ _ _ _ => pg_tup rfl (pgs_cons (pg_name (i := 2) sc_are_framed.nd rfl (.inl rfl)) (pgs_cons (pg_name (i := 3) sc_are_framed.nd rfl (.inl rfl)) pgs_nil))) (fun _ _ _ _ _ _ _ hr' => pe_call G3 hr' (by rfl) g3 k3 b3 .nil pass0 (pa_cons (pv 2) (pa_cons (pe_ix (r := rIxT K) ix_tup (pv 3) pe_int (fun _ _ => rfl)) (pa_cons (pe_ix (r := rIxT K) ix_tup (pv 3) pe_int (fun _ _ => rfl)) pa_nil)))))))), ?_⟩
    have l1 : xs.length = ts.length := Paired.length hp
    have l2 : ys.length = us.length := Paired.length hq
    refine ⟨.ref wa, rfl, wa, _, 0, .int n, rfl, rfl, SqT.of hwa, rfl, .ref va, rfl, va, _, 0, .int m, rfl, rfl, SqT.of hva, rfl, rfl, _, rfl, ?_⟩
    rw [neI]
    unfold framedB at q
    by_cases e1 : n = m
    · rw [decide_eq_true e1, Bool.true_and] at q
      rw [decide_eq_true e1]
      refine ⟨.ref wa, rfl, wa, _, 1, .ref wb, rfl, rfl, SqT.of hwa, rfl, wb, xs, rfl, .inr (SqT.of hwb), .ref va, rfl, va, _, 1, .ref vb, rfl, rfl, SqT.of hva, rfl, vb, ys, rfl, .inr (SqT.of hvb), rfl, _, rfl, ?_⟩
      rw [neN, l1, l2]
      by_cases e2 : ts.length = us.length
      · rw [decide_eq_true e2, Bool.true_and] at q
        rw [decide_eq_true e2]
        refine ⟨.ref wa, rfl, wa, _, 1, .ref wb, rfl, rfl, SqT.of hwa, rfl, .ref va, rfl, va, _, 1, .ref vb, rfl, rfl, SqT.of hva, rfl, wb, vb, xs, ys, rfl, .inr ⟨SqT.of hwb, SqT.of hvb, ?_⟩⟩
        refine ⟨hT Pt hPt, fun i m H' => i + m = xs.length ∧ Kt Ps H H' ∧ ((ts.zip us).take i).all (fun p => joinB p.1 p.2.one p.2.other) = true, fun H2 hH2 => ⟨xs.length, by omega, Kt.tabbed hT hPt hH2, rfl⟩, fun i m H' hw => ?_⟩
        obtain ⟨em, kt, hal⟩ := hw
        have hwb' := kt.tup hT hwb
        have hvb' := kt.tup hT hvb
        by_cases hi : i < xs.length
        · refine .inr ⟨⟨xs, ys, _, _, SqT.of hwb', SqT.of hvb', List.getElem?_eq_getElem hi, List.getElem?_eq_getElem (by omega)⟩, fun H3 => Kt Ps H H3 ∧ ((ts.zip us).take (i + 1)).all (fun p => joinB p.1 p.2.one p.2.other) = true, fun H3 n3 => ⟨m - 1, by omega, by omega, n3.1, n3.2⟩, fun x H3 hy => ?_⟩
          obtain ⟨T, x1, y1, rfl, nT, rfl, gx, gy⟩ := hy
          have ex := gx _ (SqT.of hwb')
          have ey := gy _ (SqT.of hvb')
          obtain ⟨t, et, a, rfl, ha⟩ := Paired.at hp ex
          obtain ⟨u, eu, b, rfl, hb⟩ := Paired.at hq ey
          have s3 : Same H' (upd H' T (.tup [.ref a, .ref b])) := same_new nT
          have kt3 := kt.trans (Kt.same kt.tab s3)
          have ha3 := kt3.tup hT ha
          have hb3 := kt3.tup hT hb
          refine ⟨T, _, rfl, SqT.of upd_same, rfl, _, _, rfl, _, _, rfl, rfl, rfl, .ref a, rfl, .ref b, rfl, b, _, 0, .int u.one, rfl, rfl, SqT.of hb3, rfl, .ref b, rfl, b, _, 1, .int u.other, rfl, rfl, SqT.of hb3, rfl, a, u.one, u.other, t, rfl, ha3, fun H4 s4 => ⟨_, rfl, ?_⟩⟩
          have kt4 := kt3.trans (Kt.same kt3.tab s4)
          have ez := zip_at et eu
          cases hb : joinB t u.one u.other with
          | true => exact ⟨kt4, (take_all ez hal).trans hb⟩
          | false =>
            have no : framedI ts us = false := all_not ez hb
            rw [no] at q
            exact q _ kt4
        · refine .inl ⟨⟨xs, ys, SqT.of hwb', SqT.of hvb', .inl (by omega)⟩, ?_⟩
          have lz : (ts.zip us).length ≤ i := by rw [List.length_zip]; omega
          rw [List.take_of_length_le lz] at hal
          have yes : framedI ts us = true := hal
          rw [yes] at q
          exact q _ kt
      · rw [decide_eq_false e2, Bool.false_and] at q
        rw [decide_eq_false e2]
        exact q _ (Kt.refl hT)
    · rw [decide_eq_false e1, Bool.false_and] at q
      rw [decide_eq_false e1]
      exact q _ (Kt.refl hT)
end
/-! ### rising rows -/
def ltV : V → V → Bool
  | .int a, .int b => decide (a < b)
  | _, _ => false
def chainB (xs : List V) : Bool := (xs.zip (xs.drop 1)).all fun p => ltV p.1 p.2
def riseB (H : Hp) (lim : Int) (v : V) : Bool := match parts H v with
  | some xs => xs.all (wbelow lim) && chainB xs
  | none => false
def RowK (H : Hp) (v : V) : Prop := Kn H v ∧ ∀ xs, parts H v = some xs → (∀ x ∈ xs, Kn H x) ∧ xs.length ≤ 1000
def spRising (Ps : List Addr) : Sp := fun vs H Q _ => ∃ (lim : Int) (v : V), vs = [.int lim, v] ∧ RowK H v ∧ Tabs Ps H ∧ ∀ H', Kt Ps H H' → Q (.bl (riseB H lim v)) H'
theorem kt_kn_parts {Ps : List Addr} {H H' : Hp} (k : Kt Ps H H') (t : Tabs Ps H) {v : V} (h : Kn H v) : parts H' v = parts H v := by
  cases v with
  | ref a =>
    rcases h with ⟨xs, h⟩ | ⟨xs, h⟩ | ⟨xs, h⟩
    · unfold parts
      simp only [h, k.lst t h]
    · exact (parts_of' (h.kt k t)).trans (parts_of' h).symm
    · unfold parts
      simp only [h, k.dct t h]
  | _ => rfl
theorem RowK.kt {Ps : List Addr} {H H' : Hp} {v : V} (h : RowK H v) (k : Kt Ps H H') (t : Tabs Ps H) : RowK H' v := ⟨k.kn t h.1, fun xs e => by
  rw [kt_kn_parts k t h.1] at e
  exact ⟨fun x hx => k.kn t ((h.2 xs e).1 x hx), (h.2 xs e).2⟩⟩
theorem rise_kt {Ps : List Addr} {H H' : Hp} {v : V} (h : RowK H v) (k : Kt Ps H H') (t : Tabs Ps H) (lim : Int) : riseB H' lim v = riseB H lim v := by
  unfold riseB
  rw [kt_kn_parts k t h.1]
theorem cut_tail (xs : List V) : cutV xs (some 1) none = xs.drop 1 := by
  unfold cutV
  rw [HT.sIx_none, show (1 : Int) = ((1 : Nat) : Int) from rfl, HT.sIx_nat]
  cases xs with
  | nil => rfl
  | cons x r =>
    rw [Nat.min_eq_left (by simp)]
    exact List.take_of_length_le (by simp)
section
variable {P : Program} {w : World} {K : PySem.W.Frag} {mg : Str → Option Value} {base : Heap}
theorem ok_are_rising_below {f c Pt : Addr} {fd : FuncData} {Ps : List Addr} (F : FunC K "are_rising_below" "are_rising_below" s_are_rising_below f fd c) (TB : GxR.TabB base mg c Pt) (hPt : Pt ∈ Ps) (M : Free mg) (m_all : mg "all" = none) (m_zip : mg "zip" = none) (D_is_whole_below : Df P w K mg base 2 "is_whole_below" ["limit", "thing"] spBelow) : FnOk P w K mg base CX0 4 f fd ["limit", "thing"] (spRising Ps) := by
  obtain ⟨f_is_whole_below, fd_is_whole_below, G_is_whole_below, g_is_whole_below, k_is_whole_below, b_is_whole_below⟩ := D_is_whole_below
  refine F.ok sc_are_rising_below (fun vs H Q E h => ?_) (fun A outer s H vs Q E hr h => ?_)
  · obtain ⟨lim, v, rfl, _⟩ := h
    rfl
  · obtain ⟨lim, v, rfl, ⟨kv, kp⟩, hT, q⟩ := h
    refine ⟨_, (Evl.pss_cut (ps_if (PW.pt (pw_or (pt_not (pt_val (pe_callB call_isi (by rfl) M.isinstance (by decide +kernel) (pa_cons (pv 1) (pa_cons (pe_bltn (v := .ty "tuple") (by rfl) M.tuple (by decide +kernel) rfl) pa_nil))))) (pw_or1 (pt_not (pt_val (pe_all (k := 2) (own := [("number", 2)]) (g := gName 2) hr TB rfl rfl sc_are_rising_below.nd (by rfl) m_all (pi_tup (pv 1)) (blkOk_by (N := N_are_rising_below) (sc := defScope s_are_rising_below) (own := [("number", 2)]) (by decide +kernel)) ⟨rfl, by decide +kernel, by decide +kernel⟩ (show (".0" : Str) ∉ N_are_rising_below by decide +kernel) (fun _ _ _ _ _ _ _ => (pg_name (i := 2) sc_are_rising_below.nd rfl (.inl rfl))) (fun _ _ _ _ _ _ _ hr' => (pe_call G_is_whole_below hr' (by rfl) g_is_whole_below k_is_whole_below b_is_whole_below .nil pass0 (pa_cons (pv 0) (pa_cons (pv 2) pa_nil))))))))))
        (pss_one (ps_ret pe_bl))
        pss_nil)
      (pss_one (ps_ret (pe_all (k := 2) (own := [("number", 2), ("following", 3)]) (g := gTup K 2 (gCons (gName 2) (gCons (gName 3) gNil))) hr TB rfl rfl sc_are_rising_below.nd (by rfl) m_all (RZ.pi_zipA (by rfl) m_zip (pa_cons (pv 1) (pa_cons (pe_slice sl_tupQ (pv 1) (po_some pe_int) po_none) pa_nil))) (blkOk_by (N := N_are_rising_below) (sc := defScope s_are_rising_below) (own := [("number", 2), ("following", 3)]) (by decide +kernel)) ⟨rfl, by decide +kernel, by decide +kernel⟩ (show (".0" : Str) ∉ N_are_rising_below by decide +kernel) (fun _ _ _ _ _ _ _ => (pg_tup rfl (pgs_cons (pg_name (i := 2) sc_are_rising_below.nd rfl (.inl rfl)) (pgs_cons (pg_name (i := 3) sc_are_rising_below.nd rfl (.inl rfl)) pgs_nil)))) (fun _ _ _ _ _ _ _ hr' => (pe_cmpR op_lt (pv 2) (pv 3) (nomark _))))))), ?_⟩
    refine ⟨fun σ' H' => σ' = [some (.int lim), some v, none, none] ∧ Kt Ps H H' ∧ ∃ a xs, v = .ref a ∧ TupA H a xs ∧ xs.all (wbelow lim) = true, ?_, ?_⟩
    · obtain ⟨t1, h1, e1⟩ := kn_tup (K := K) kv
      refine ⟨v, rfl, v, _, t1, _, _, rfl, .ty "tuple", h1, e1, _, rfl, ?_⟩
      cases hi : isT H v with
      | false =>
        unfold riseB at q
        rw [parts_none hi] at q
        exact q _ (Kt.refl hT)
      | true =>
        obtain ⟨a, xs, rfl, ha⟩ := isT_at hi
        obtain ⟨kx, lx⟩ := kp xs (parts_of' ha)
        refine ⟨.ref a, rfl, a, rfl, ⟨_, ha.sq⟩, hT Pt hPt, fun j m H' => j + m = xs.length ∧ Kt Ps H H' ∧ (xs.take j).all (wbelow lim) = true, fun H2 hH2 => ⟨xs.length, by omega, Kt.tabbed hT hPt hH2, rfl⟩, fun j m H' hw => ?_⟩
        obtain ⟨em, kt, hal⟩ := hw
        have ha' := ha.kt kt hT
        by_cases hj : j < xs.length
        · refine .inr ⟨⟨_, _, ha'.sq, List.getElem?_eq_getElem hj⟩, fun H3 => Kt Ps H H3 ∧ (xs.take (j + 1)).all (wbelow lim) = true, fun H3 n3 => ⟨m - 1, by omega, by omega, n3.1, n3.2⟩, fun x H3 hy => ?_⟩
          obtain ⟨rfl, fy⟩ := hy
          have ex : xs[j]? = some x := fy _ (ha'.sq)
          refine ⟨rfl, .int lim, rfl, x, rfl, lim, x, rfl, kt.kn hT (kx x (List.mem_of_getElem? ex)), _, rfl, ?_⟩
          cases hb : wbelow lim x with
          | true => exact ⟨kt, (take_all ex hal).trans hb⟩
          | false =>
            have no : riseB H lim (.ref a) = false := by
              unfold riseB
              rw [parts_of' ha]
              show (xs.all (wbelow lim) && chainB xs) = false
              rw [all_not ex hb]
              rfl
            rw [no] at q
            exact ⟨_, rfl, q _ kt⟩
        · refine .inl ⟨⟨_, ha'.sq, by omega⟩, ?_⟩
          rw [List.take_of_length_le (by omega)] at hal
          exact ⟨_, rfl, rfl, kt, a, xs, rfl, ha, hal⟩
    · rintro σ' H1 ⟨rfl, kt1, a, xs, rfl, ha, hal⟩
      obtain ⟨kx, lx⟩ := kp xs (parts_of' ha)
      have er : riseB H lim (.ref a) = chainB xs := by
        unfold riseB
        rw [parts_of' ha]
        show (xs.all (wbelow lim) && chainB xs) = chainB xs
        rw [hal]
        rfl
      rw [er] at q
      have T1 : Tabs Ps H1 := kt1.tab
      have ha1 := ha.kt kt1 hT
      refine ⟨.ref a, rfl, .ref a, rfl, 1, rfl, a, xs, rfl, ha1, fun r H2 s2 hr2 _ => ?_⟩
      rw [cut_tail] at hr2
      have k2 := Kt.same T1 s2
      have T2 : Tabs Ps H2 := k2.tab
      have ha2 := ha1.same s2
      have k12 := kt1.trans k2
      refine ⟨a, r, xs, xs.drop 1, rfl, .inr ⟨ha2.sq, hr2.sq, ?_⟩⟩
      refine ⟨T2 Pt hPt, fun i m H' => i + m = xs.length - 1 ∧ Kt Ps H2 H' ∧ ((xs.zip (xs.drop 1)).take i).all (fun p => ltV p.1 p.2) = true, fun H3 hH3 => ⟨xs.length - 1, by omega, Kt.tabbed T2 hPt hH3, rfl⟩, fun i m H' hw => ?_⟩
      obtain ⟨em, kt, hal2⟩ := hw
      have ha' := ha2.kt kt T2
      have hr' := hr2.kt kt T2
      by_cases hi : i < xs.length - 1
      · have hd : i < (xs.drop 1).length := by rw [List.length_drop]; exact hi
        refine .inr ⟨⟨xs, xs.drop 1, _, _, ha'.sq, hr'.sq, List.getElem?_eq_getElem (by omega), List.getElem?_eq_getElem hd⟩, fun H3 => Kt Ps H2 H3 ∧ ((xs.zip (xs.drop 1)).take (i + 1)).all (fun p => ltV p.1 p.2) = true, fun H3 n3 => ⟨m - 1, by omega, by omega, n3.1, n3.2⟩, fun x H3 hy => ?_⟩
        obtain ⟨T, x1, y1, rfl, nT, rfl, gx, gy⟩ := hy
        have ex := gx _ (ha'.sq)
        have ey := gy _ (hr'.sq)
        have ez := zip_at ex ey
        have wb : ∀ z ∈ xs, ∃ k, z = .int k := fun z hz => by
          rw [List.all_eq_true] at hal
          have := hal z hz
          cases z with
          | int k => exact ⟨k, rfl⟩
          | _ => cases this
        obtain ⟨a1, rfl⟩ := wb x1 (List.mem_of_getElem? ex)
        obtain ⟨b1, rfl⟩ := wb y1 (List.mem_of_mem_drop (List.mem_of_getElem? ey))
        have s3 : Same H' (upd H' T (.tup [.int a1, .int b1])) := same_new nT
        have kt3 := kt.trans (Kt.same kt.tab s3)
        refine ⟨T, _, rfl, SqT.of upd_same, rfl, _, _, rfl, _, _, rfl, rfl, rfl, .int a1, rfl, .int b1, rfl, a1, b1, rfl, rfl, _, rfl, ?_⟩
        cases hb : decide (a1 < b1) with
        | true => exact ⟨kt3, (take_all ez hal2).trans hb⟩
        | false =>
          have no : chainB xs = false := all_not ez hb
          rw [no] at q
          exact q _ (k12.trans kt3)
      · refine .inl ⟨⟨xs, xs.drop 1, ha'.sq, hr'.sq, .inr (by rw [List.length_drop]; omega)⟩, ?_⟩
        have lz : (xs.zip (xs.drop 1)).length ≤ i := by rw [List.length_zip, List.length_drop]; omega
        rw [List.take_of_length_le lz] at hal2
        have yes : chainB xs = true := hal2
        rw [yes] at q
        exact q _ (k12.trans kt)
end
/-! ### the script stays -/
structure Scr (K : PySem.W.Frag) (H : Hp) (a d : Addr) (xs : List V) : Prop where
  sq : SqL K H a xs
  ne : a ≠ d ∨ ∀ H', SqL K H' a xs
theorem Scr.mk' {K : PySem.W.Frag} {H H' : Hp} {a d : Addr} {xs : List V} (h : SqL K H a xs) (nd : H d = none) (s : Same H H') : Scr K H' a d xs := by
  refine ⟨s.seq h, ?_⟩
  rcases h with (h | ⟨o, h⟩) | h
  · exact .inl (ne_of_none h nd)
  · exact .inl (ne_of_none h nd)
  · exact .inr fun H' => .inr h
theorem Scr.kp {K : PySem.W.Frag} {H H' : Hp} {a d : Addr} {xs : List V} (h : Scr K H a d xs) (k : Kp d d H H') : Scr K H' a d xs := by
  refine ⟨?_, h.ne⟩
  rcases h.ne with n | n
  · rcases h.sq with (h | ⟨o, h⟩) | h
    · exact .inl (.inl (k _ _ n n h))
    · exact .inl (.inr ⟨o, k _ _ n n h⟩)
    · exact .inr h
  · exact n H'
theorem Scr.same {K : PySem.W.Frag} {H H' : Hp} {a d : Addr} {xs : List V} (h : Scr K H a d xs) (s : Same H H') : Scr K H' a d xs := ⟨s.seq h.sq, h.ne⟩
theorem sql_kt {K : PySem.W.Frag} {Ps : List Addr} {H H' : Hp} {a : Addr} {xs : List V} (h : SqL K H a xs) (t : Tabs Ps H) (k : Kt Ps H H') : SqL K H' a xs := by
  rcases h with (h | ⟨o, h⟩) | h
  · exact .inl (.inl (k.lst t h))
  · exact .inl (.inr ⟨o, k.keep _ _ (t.out h fun _ z => by cases z) h⟩)
  · exact .inr h
theorem Scr.kt {K : PySem.W.Frag} {Ps : List Addr} {H H' : Hp} {a d : Addr} {xs : List V} (h : Scr K H a d xs) (t : Tabs Ps H) (k : Kt Ps H H') : Scr K H' a d xs := ⟨sql_kt h.sq t k, h.ne⟩
/-! ### own refusals -/
/-- a class of refusals, at D, named x, under WebError, at W -/
structure RefT (K : PySem.W.Frag) (mg : Str → Option Value) (x : Str) (D W : Addr) : Prop where
  gD : mg x = some (.ref D)
  gW : mg "WebError" = some (.ref W)
  exc : PySem.W.excIn K D [.type "ValueError", .type "Exception", .type "BaseException", .type "object"] "ValueError.__new__" = true
  kD : PySem.W.keepIn K (.ref D) = true
  tD : PySem.W.typeIn K (.ref D) = some (.type "type")
  ec : ExcC K D
  web : PySem.W.exmOne K (.ref D) (.ref W) = some true
/-- what isinstance tells of its refusals: of the class named x, at C, b -/
structure KitT (K : PySem.W.Frag) (mg : Str → Option Value) (D : Addr) (x : Str) (C : Addr) (b : Bool) : Prop where
  g : mg x = some (.ref C)
  k : PySem.W.kitOne K (.ref D) (.ref C) = some b
section
variable {X : Cx}
def rIsX (K : PySem.W.Frag) (a : Addr) (cls : Value) (d : Option Addr) : List V → Hp → VK → Prop := fun xs H Q => ∃ D, ExcC K D ∧ cls = .ref D ∧ d = none ∧ rIsE K D a xs H Q
theorem call_isX {a : Addr} {cls : Value} {d : Option Addr} {oe : Obj} {pn : List (Addr × Obj)} (hz : Zc cls d oe) (hf : ∃ vs, oe.data = .fields vs) : CallR (X.suite a ((a, oe) :: pn)) (.builtin "isinstance") (rIsX X.K a cls d) := by
  intro pins s σ H xs us Q I r h
  obtain ⟨D, C, rfl, rfl, h⟩ := h
  exact call_isE C hz hf pins s σ H xs us Q I r h
end
def DfX (P : Program) (w : World) (K : PySem.W.Frag) (mg : Str → Option Value) (base : Heap) (k : Nat) (x : Str) (ps : List Str) (sp : Sp) : Prop :=
  ∃ (f : Addr) (fd : FuncData), FnOk P w K mg base (L2.CX P w) k f fd ps sp ∧ mg x = some (.ref f) ∧ PySem.W.keepIn K (.ref f) = true ∧ Binds K fd ps []
theorem DfX.of {P : Program} {w : World} {K : PySem.W.Frag} {mg : Str → Option Value} {base : Heap} {x : Str} {st : Stmt} {f : Addr} {fd : FuncData} {k : Nat} {ps : List Str} {sp : Sp} (g : mg x = some (.ref f)) (F : Fun K x x st f fd) (G : FnOk P w K mg base (L2.CX P w) k f fd ps sp)
    (h : ∀ (kV doc pm : Value) (an : Option Addr) (cdv ct : Value) (us : List Value), us.length = ps.length → bindArgs (PySem.W.fnOf x x (defArgs st) (defBody st) (defScope st) .none kV doc pm an cdv ct) ⟨us, []⟩ = pure (ps.zip us)) : DfX P w K mg base k x ps sp :=
  ⟨f, fd, G, g, F.kp, F.binds h⟩
/-- where a class of refusals stands -/
structure ErrK (K : PySem.W.Frag) (x : Str) (D W : Addr) : Prop where
  ns : PySem.W.nsIn K mainGlobals x = some (some (.ref D))
  nw : PySem.W.nsIn K mainGlobals "WebError" = some (some (.ref W))
  exc : PySem.W.excIn K D [.type "ValueError", .type "Exception", .type "BaseException", .type "object"] "ValueError.__new__" = true
  kD : PySem.W.keepIn K (.ref D) = true
  tD : PySem.W.typeIn K (.ref D) = some (.type "type")
  ec : ExcC K D
  web : PySem.W.exmOne K (.ref D) (.ref W) = some true
theorem errK_mk {K : PySem.W.Frag} {x : Str} {D W : Addr} (p1 : PySem.W.nsIn K mainGlobals x = some (some (.ref D))) (p2 : PySem.W.nsIn K mainGlobals "WebError" = some (some (.ref W)))
    (p3 : PySem.W.excIn K D [.type "ValueError", .type "Exception", .type "BaseException", .type "object"] "ValueError.__new__" = true) (p4 : PySem.W.keepIn K (.ref D) = true) (p5 : PySem.W.typeIn K (.ref D) = some (.type "type"))
    (p6 : PySem.W.findIn K (.ref D) "__getattribute__" = some (some (.builtin "BaseException.__getattribute__"))) (p7 : PySem.W.findIn K (.ref D) "__getattr__" = some none) (p8 : PySem.W.subIn K (.ref D) (.type "BaseException") = some true) (p9 : PySem.W.hasDictIn K D = true)
    (p10 : PySem.W.findIn K (.ref D) "__class__" = some (some (.builtin "object.__class__"))) (p11 : PySem.W.specialIn K (.builtin "object.__class__") "__get__" = some (some (.builtin "getset_descriptor.__get__"))) (p12 : PySem.W.takesIn K (.builtin "object.__class__") = some true) (p13 : PySem.W.mroIn K D (.type "object") = some true)
    (p14 : PySem.W.subIn K (.ref W) (.type "BaseException") = some true) (p15 : PySem.W.hasDictIn K W = true) (p16 : PySem.W.typeIn K (.ref W) = some (.type "type")) (p17 : PySem.W.subIn K (.ref D) (.ref W) = some true) : ErrK K x D W :=
  ⟨p1, p2, p3, p4, p5, ⟨p6, p7, p8, p9, p10, p11, p12, p13⟩, PySem.W.exm_ref p14 p15 p16 p17⟩
theorem ErrK.ref {K : PySem.W.Frag} {mg : Str → Option Value} {h : Heap} {x : Str} {D W : Addr} (e : ErrK K x D W) (X : K.In h) (G : h.Ns mainGlobals mg) : RefT K mg x D W :=
  ⟨PySem.W.mg_of X G e.ns, PySem.W.mg_of X G e.nw, e.exc, e.kD, e.tD, e.ec, e.web⟩
structure KitK (K : PySem.W.Frag) (D : Addr) (x : Str) (C : Addr) (b : Bool) : Prop where
  ns : PySem.W.nsIn K mainGlobals x = some (some (.ref C))
  k : PySem.W.kitOne K (.ref D) (.ref C) = some b
theorem kitK_mk {K : PySem.W.Frag} {D : Addr} {x : Str} {C : Addr} {b : Bool} (p1 : PySem.W.nsIn K mainGlobals x = some (some (.ref C))) (p2 : PySem.W.kitOne K (.ref D) (.ref C) = some b) : KitK K D x C b := ⟨p1, p2⟩
theorem KitK.kit {K : PySem.W.Frag} {mg : Str → Option Value} {h : Heap} {D : Addr} {x : Str} {C : Addr} {b : Bool} (e : KitK K D x C b) (X : K.In h) (G : h.Ns mainGlobals mg) : KitT K mg D x C b := ⟨PySem.W.mg_of X G e.ns, e.k⟩
/-! ### zip of a tuple and a list of one length -/
def ItM (K : PySem.W.Frag) (a b : Addr) : It where
  go := fun i H => ∃ (xs ys : List V), (SqT K H a xs ∧ SqL K H b ys) ∧ i < xs.length ∧ ys.length = xs.length
  yld := fun i H v H' => ∃ T x y, v = .ref T ∧ H T = none ∧ H' = upd H T (.tup [x, y]) ∧ (∀ xs, SqT K H a xs → xs[i]? = some x) ∧ (∀ ys, SqL K H b ys → ys[i]? = some y)
  stop := fun i H => ∃ (xs ys : List V), (SqT K H a xs ∧ SqL K H b ys) ∧ xs.length = i ∧ ys.length = i
theorem turn_zipM {P : Program} {w : World} {K : PySem.W.Frag} {elts : List Expr} {kk : Nat} {tpos : Pos} {a b z TI TO i1 i2 : Addr} (S : ZipSep2 z TI TO i1 i2 [i1, a] [i2, b]) (n1 : a ≠ i1) (n2 : b ≠ i2) :
    Turn P w K (.Tuple elts kk tpos) (ItM K a b) [z, TI, TO, i1, i2] z (fun i h => IsZip h z TI TO .none ∧ IsTupOf2 h TI (.ref i1) (.ref i2) ∧ (∃ a1 a2, IsTupOf2 h TO a1 a2) ∧ h.IsTupleIter i1 a i ∧ h.IsListIter i2 b i) where
  mem := List.mem_cons_self
  obj := by
    rintro i h ⟨hz, hTI, ⟨a1, a2, hTO⟩, ⟨o1, e1, _, d1⟩, ⟨o2, e2, _, d2⟩⟩ q hq
    simp only [List.mem_cons, List.not_mem_nil, or_false] at hq
    rcases hq with rfl | rfl | rfl | rfl | rfl
    · exact ⟨_, hz, fun v y => nomatch y⟩
    · exact ⟨_, hTI, fun v y => nomatch y⟩
    · exact ⟨_, hTO, fun v y => nomatch y⟩
    · exact ⟨o1, e1, fun v y => by rw [d1] at y; cases y⟩
    · exact ⟨o2, e2, fun v y => by rw [d2] at y; cases y⟩
  keep := by
    rintro i h h' ⟨hz, hTI, ⟨a1, a2, hTO⟩, t1, t2⟩ kp
    exact ⟨kp z (by simp) _ hz, kp TI (by simp) _ hTI, ⟨a1, a2, kp TO (by simp) _ hTO⟩, t1.at fun o q => kp i1 (by simp) o q, t2.at fun o q => kp i2 (by simp) o q⟩
  item := by
    intro X hP hw hK hc i pins s σ H E I hf st hg
    subst hP hw hK
    obtain ⟨hz, hTI, hTO, t1, t2⟩ := st
    obtain ⟨xs, ys, ⟨qx, qy⟩, hi, ly⟩ := hg
    obtain ⟨us, ru, tu, _⟩ := I.tuple qx
    obtain ⟨vs, rv, tv, _⟩ := I.list qy
    have lu := ru.length
    have lv := rv.length
    obtain ⟨u, hu, eu⟩ := ru.get (List.getElem?_eq_getElem hi)
    obtain ⟨v, hv, ev⟩ := rv.get (List.getElem?_eq_getElem (show i < ys.length by omega))
    have W := WalksT.zipD2 (A := X.A) S (Draws.tuple (prog := X.prog) (w := X.w) (A := X.A.in1) (I.ok.hd hc) i1 a n1 us.toArray) (Draws.list (prog := X.prog) (w := X.w) (A := X.A.in1) (I.ok.hd hc) i2 b n2 vs.toArray)
    refine W.item i s _ _ (by simp only [List.size_toArray]; omega) ⟨hz, hTI, hTO, ⟨t1, tu⟩, ⟨t2, tv.isList⟩⟩ fun T vals h' tk hp newT isT mid kp => ?_
    obtain ⟨y1, y2, p1, p2, rfl⟩ := hp
    have apart := W.apart i T h' mid
    obtain rfl : u = y1 := Option.some.inj (((by simpa using hu) : us.toArray[i]? = some u).symm.trans p1)
    obtain rfl : v = y2 := Option.some.inj (((by simpa using hv) : vs.toArray[i]? = some v).symm.trans p2)
    refine ⟨_, rfl, W.go elts kk tpos i T { s with heap := h', toks := tk } _ _ mid fun h2 st2 kp2 => ?_⟩
    obtain ⟨g1, g2, g3, ⟨g4, _⟩, ⟨g5, _⟩⟩ := st2
    have objT : ObjOk X.prog X.w (upd H T (.tup [xs[i], ys[i]])) h2 T (.tup [xs[i], ys[i]]) := by
      obtain ⟨ot, et, ct, nt, dt⟩ := isT
      exact ⟨by show 2 ≤ sizeLine; decide, [u, v], .cons eu (.cons ev .nil), ⟨ot, kp2 _ _ apart et, ct, nt, dt⟩⟩
    have J : Inv X pins σ (upd H T (.tup [xs[i], ys[i]])) { s with heap := h2, toks := tk } := I.turnedNew (ch := [z, TI, TO, i1, i2]) (fun q ob hq e => by
      simp only [List.mem_cons, List.not_mem_nil, or_false, not_or] at hq
      have nw : q ∉ [z, TO, i1, i2] := by simp [hq]
      exact kp2 q ob nw (kp q ob nw e)) hf newT objT
    refine ⟨.ref T, _, J, rfl, ⟨T, _, _, rfl, I.hok.fresh newT, rfl, fun l hl => by rw [I.tuple_inj hl qx]; exact List.getElem?_eq_getElem hi, fun l hl => by rw [I.list_inj hl qy]; exact List.getElem?_eq_getElem _⟩, ⟨g1, g2, g3, g4, g5⟩, fun q hq => ?_⟩
    have lq : q < s.heap.objs.size := by
      obtain ⟨_, _, ⟨a1, a2, hTO⟩⟩ := (⟨hz, hTI, hTO⟩ : _ ∧ _ ∧ _)
      obtain ⟨o1, e1, _⟩ := t1
      obtain ⟨o2, e2, _⟩ := t2
      simp only [List.mem_cons, List.not_mem_nil, or_false] at hq
      rcases hq with rfl | rfl | rfl | rfl | rfl
      · exact Heap.lt_size hz
      · exact Heap.lt_size hTI
      · exact Heap.lt_size hTO
      · exact Heap.lt_size e1
      · exact Heap.lt_size e2
    rw [upd_ne (Nat.ne_of_lt (Nat.lt_of_lt_of_le lq newT))]
    exact (hf q hq).1
  done := by
    intro X hP hw hK hc i pins s σ H E I hf st hg
    subst hP hw hK
    obtain ⟨hz, hTI, hTO, t1, t2⟩ := st
    obtain ⟨xs, ys, ⟨qx, qy⟩, lx, ly⟩ := hg
    obtain ⟨us, ru, tu, _⟩ := I.tuple qx
    obtain ⟨vs, rv, tv, _⟩ := I.list qy
    have lu := ru.length
    have lv := rv.length
    have W := WalksT.zipD2 (A := X.A) S (Draws.tuple (prog := X.prog) (w := X.w) (A := X.A.in1) (I.ok.hd hc) i1 a n1 us.toArray) (Draws.list (prog := X.prog) (w := X.w) (A := X.A.in1) (I.ok.hd hc) i2 b n2 vs.toArray)
    have en : min us.toArray.size vs.toArray.size = i := by simp only [List.size_toArray]; omega
    refine W.done s _ _ ?_ fun h' tk kp => ⟨rfl, ?_⟩
    · rw [en]
      exact ⟨hz, hTI, hTO, ⟨t1, tu⟩, ⟨t2, tv.isList⟩⟩
    · refine I.turnedL (ch := [z, TI, TO, i1, i2]) (fun q ob hq e => ?_) hf
      simp only [List.mem_cons, List.not_mem_nil, or_false, not_or] at hq
      exact kp q ob (by simp [hq]) e
  self := by
    rintro A i s Q E ⟨hz, _⟩ h
    exact wpAny_pyIter_zip hz h
def iZipM (K : PySem.W.Frag) (ta : TA) : TI := fun σ H R => ta σ H fun vs H1 => ∃ a b xs ys, vs = [.ref a, .ref b] ∧ SqT K H1 a xs ∧ SqL K H1 b ys ∧ R (ItM K a b) H1
theorem pi_zipM {X : Cx} {e e2 : Expr} {ta : TA} {p pos tpos : Pos} {elts : List Expr} {kk : Nat} (hg : Gl X "zip") (hm : X.mg "zip" = none) (ha : PA X [e, e2] ta) (hs : starEach [e, e2] X.env = (false, eval e X.env) :: starEach [e2] X.env := by rfl)
    (hpl : (backTo pos (starEach [e2] X.env)).any (·.1) = false := by rfl) : PI X (.Tuple elts kk tpos) (.Call (.Name "zip" p) [e, e2] [] pos) (iZipM X.K ta) := by
  refine ⟨fun pins s σ H R I want => Call_ (ld_blt I hg hm PyProof.Rows.boot_zip (PyProof.Rows.callWith_type1 (thn (ha.run pos pins s σ H _ I want) fun us s1 got => ?_) hs hpl))⟩
  obtain ⟨vs, H1, J, rel, a, b, xs, ys, ex, qa, qb, q⟩ := got
  subst ex
  cases rel with
  | cons r1 rel =>
    cases rel with
    | cons r2 rel =>
        cases rel
        cases r1
        cases r2
        obtain ⟨u1, _, t1, _⟩ := J.tuple qa
        obtain ⟨u2, _, t2, _⟩ := J.list qb
        have la : a < s1.heap.objs.size := let ⟨_, y, _⟩ := t1; Heap.lt_size y
        have lb : b < s1.heap.objs.size := t2.lt
        refine zip_begins2 (begins_tuple a u1.toArray) (begins_list b u2.toArray) t1 t2.isList fun h' hz hTI hTO g1 g2 _ kp => wpAny_pyIter_zip hz ?_
        have J2 : Inv X pins σ H1 { s1 with heap := h' } := J.kept (t' := s1.toks) kp
        have S := zip_sep2 (N := s1.heap.objs.size) (fp1 := [a]) (fp2 := [b]) (fun y hy => by rw [List.mem_singleton.mp hy]; exact la) (fun y hy => by rw [List.mem_singleton.mp hy]; exact lb)
        refine ⟨s1.heap.objs.size + 4, [s1.heap.objs.size + 4, s1.heap.objs.size + 2, s1.heap.objs.size + 3, s1.heap.objs.size, s1.heap.objs.size + 1], _, _, H1, rfl, J2, turn_zipM S (Nat.ne_of_lt la) (Nat.ne_of_lt (Nat.lt_succ_of_lt lb)), ⟨hz, hTI, ⟨_, _, hTO⟩, ⟨_, g1, rfl, rfl⟩, ⟨_, g2, rfl, rfl⟩⟩, fun y hy => ?_, q⟩
        have ly : s1.heap.objs.size ≤ y := by
          simp only [List.mem_cons, List.not_mem_nil, or_false] at hy
          rcases hy with rfl | rfl | rfl | rfl | rfl
          · exact Nat.le_add_right _ _
          · exact Nat.le_add_right _ _
          · exact Nat.le_add_right _ _
          · exact Nat.le_refl _
          · exact Nat.le_add_right _ _
        exact J.fpOk ly (J.hok.fresh ly)
/-- a list comprehension over zip of a tuple and a list of one length -/
theorem lc_zipM {K : PySem.W.Frag} {a b : Addr} {xs ys : List V} {g : TG} {tt : TT} {te : TE} {vs : List Nat} {σ : L2.St} {H1 : Hp} {D : Addr} {Qd : Hp → Prop} (ll : ys.length = xs.length) (Pv : Nat → Hp → Prop) (h0 : Pv 0 (upd H1 D (.lst []))) (hl : ∀ i H, i ≤ xs.length → Pv i H → SqT K H a xs ∧ SqL K H b ys)
    (hs : ∀ i x y T H, xs[i]? = some x → ys[i]? = some y → Pv i H → H T = none → g (.ref T) (wipe σ vs) (upd H T (.tup [x, y])) fun σ2 H2 => wipe σ2 vs = wipe σ vs ∧ tt σ2 H2 fun b H3 =>
      if b = true then te σ2 H3 fun y H4 => ∃ acc, H4 D = some (.lst acc) ∧ acc.length < sizeLine ∧ Pv (i + 1) (upd H4 D (.lst (acc ++ [y]))) else Pv (i + 1) H3) (hd : ∀ H, Pv xs.length H → Qd H) :
    ∃ W : Nat → Nat → Hp → Prop, (∃ m, W 0 m (upd H1 D (.lst []))) ∧ ∀ i m H, W i m H →
      ((ItM K a b).stop i H ∧ Qd H) ∨ ((ItM K a b).go i H ∧ ∃ Nx : Hp → Prop, (∀ H', Nx H' → ∃ m', m' < m ∧ W (i + 1) m' H') ∧ ∀ x H', (ItM K a b).yld i H x H' → g x (wipe σ vs) H' fun σ2 H2 => wipe σ2 vs = wipe σ vs ∧ tt σ2 H2 fun b H3 =>
        if b = true then te σ2 H3 fun y H4 => ∃ acc, H4 D = some (.lst acc) ∧ acc.length < sizeLine ∧ Nx (upd H4 D (.lst (acc ++ [y]))) else Nx H3) := by
  refine ⟨fun i m H => m = xs.length - i ∧ i ≤ xs.length ∧ Pv i H, ⟨xs.length, by simp, Nat.zero_le _, h0⟩, ?_⟩
  rintro i m H ⟨rfl, hi, p⟩
  obtain ⟨qx, qy⟩ := hl i H hi p
  by_cases hlt : i < xs.length
  · refine .inr ⟨⟨xs, ys, ⟨qx, qy⟩, hlt, ll⟩, Pv (i + 1), fun H' p' => ⟨xs.length - (i + 1), by omega, rfl, hlt, p'⟩, fun x H' y => ?_⟩
    obtain ⟨T, x', y', rfl, hT, rfl, f1, f2⟩ := y
    exact hs i x' y' T H (f1 xs qx) (f2 ys qy) p hT
  · have e : i = xs.length := by omega
    subst e
    exact .inl ⟨⟨xs, ys, ⟨qx, qy⟩, rfl, ll⟩, hd H p⟩
/-- a list comprehension over zip of two lists of one length -/
theorem lc_zipL {K : PySem.W.Frag} {a b : Addr} {xs ys : List V} {g : TG} {tt : TT} {te : TE} {vs : List Nat} {σ : L2.St} {H1 : Hp} {D : Addr} {Qd : Hp → Prop} (ll : ys.length = xs.length) (Pv : Nat → Hp → Prop) (h0 : Pv 0 (upd H1 D (.lst []))) (hl : ∀ i H, i ≤ xs.length → Pv i H → SqL K H a xs ∧ SqL K H b ys)
    (hs : ∀ i x y T H, xs[i]? = some x → ys[i]? = some y → Pv i H → H T = none → g (.ref T) (wipe σ vs) (upd H T (.tup [x, y])) fun σ2 H2 => wipe σ2 vs = wipe σ vs ∧ tt σ2 H2 fun b H3 =>
      if b = true then te σ2 H3 fun y H4 => ∃ acc, H4 D = some (.lst acc) ∧ acc.length < sizeLine ∧ Pv (i + 1) (upd H4 D (.lst (acc ++ [y]))) else Pv (i + 1) H3) (hd : ∀ H, Pv xs.length H → Qd H) :
    ∃ W : Nat → Nat → Hp → Prop, (∃ m, W 0 m (upd H1 D (.lst []))) ∧ ∀ i m H, W i m H →
      ((Itz K a b).stop i H ∧ Qd H) ∨ ((Itz K a b).go i H ∧ ∃ Nx : Hp → Prop, (∀ H', Nx H' → ∃ m', m' < m ∧ W (i + 1) m' H') ∧ ∀ x H', (Itz K a b).yld i H x H' → g x (wipe σ vs) H' fun σ2 H2 => wipe σ2 vs = wipe σ vs ∧ tt σ2 H2 fun b H3 =>
        if b = true then te σ2 H3 fun y H4 => ∃ acc, H4 D = some (.lst acc) ∧ acc.length < sizeLine ∧ Nx (upd H4 D (.lst (acc ++ [y]))) else Nx H3) := by
  refine ⟨fun i m H => m = xs.length - i ∧ i ≤ xs.length ∧ Pv i H, ⟨xs.length, by simp, Nat.zero_le _, h0⟩, ?_⟩
  rintro i m H ⟨rfl, hi, p⟩
  obtain ⟨qx, qy⟩ := hl i H hi p
  by_cases hlt : i < xs.length
  · have hy : ys[i]? = some (ys[i]'(by omega)) := List.getElem?_eq_getElem _
    refine .inr ⟨⟨xs, ys, _, _, qx, qy, List.getElem?_eq_getElem hlt, hy⟩, Pv (i + 1), fun H' p' => ⟨xs.length - (i + 1), by omega, rfl, hlt, p'⟩, fun x H' y => ?_⟩
    obtain ⟨T, x', y', rfl, hT, rfl, f1, f2⟩ := y
    exact hs i x' y' T H (f1 xs qx) (f2 ys qy) p hT
  · have e : i = xs.length := by omega
    subst e
    exact .inl ⟨⟨xs, ys, qx, qy, Or.inl (Nat.le_refl _)⟩, hd H p⟩
/-! ### kinds of ties; the web between two webs -/
theorem kindS_eq (a b : Bool) : decide (V.str (kindS a) = V.str (kindS b)) = !(a ^^ b) := by cases a <;> cases b <;> decide
def xorT (p : Tie × Tie) : Tie := ⟨p.1.one, p.1.other, p.1.foe ^^ p.2.foe⟩
/-- foe ties where the two webs have other kinds -/
def betw (ts us : List Tie) : List Tie := (ts.zip us).map xorT
theorem betw_len {ts us : List Tie} (h : us.length = ts.length) : (betw ts us).length = ts.length := by
  unfold betw
  rw [List.length_map, List.length_zip, h, Nat.min_self]
theorem betw_get {ts us : List Tie} {i : Nat} {t u : Tie} (h : ts[i]? = some t) (g : us[i]? = some u) : (betw ts us)[i]? = some (xorT (t, u)) := by
  unfold betw
  rw [List.getElem?_map, List.getElem?_zip_eq_some.mpr (by exact ⟨h, g⟩ : ts[i]? = some (t, u).1 ∧ us[i]? = some (t, u).2)]
  rfl
theorem betw_ok {n : Int} {ts us : List Tie} (h : ∀ t ∈ ts, TieOk n t) : ∀ t ∈ betw ts us, TieOk n t := fun t ht => by
  obtain ⟨p, hp, rfl⟩ := List.mem_map.mp ht
  exact h p.1 (List.of_mem_zip hp).1
theorem betw_webOk {n : Int} {ts us : List Tie} (ok : WebOk n ts) (h : us.length = ts.length) : WebOk n (betw ts us) := ⟨ok.lo, ok.hi, by rw [betw_len h]; exact ok.few, betw_ok ok.ok⟩
def spKinds : Sp := fun vs H Q _ => ∃ (v : V) (n : Int) (ts : List Tie), vs = [v] ∧ WebAt H v n ts ∧ ts.length ≤ 120 ∧ ∀ p H', Same H H' → H' p = some (.lst (ts.map fun t => V.str (kindS t.foe))) → Q (.ref p) H'
def onesTo (ss : List Int) (k : Nat) : List Int := (rng k).filter fun i => decide (sd ss i = 1)
theorem onesTo_succ (ss : List Int) (k : Nat) : onesTo ss (k + 1) = onesTo ss k ++ (if decide (sd ss k = 1) = true then [(k : Int)] else []) := by
  unfold onesTo
  rw [rng_succ, List.filter_append, List.filter_cons]
  rfl
theorem onesTo_len (ss : List Int) (k : Nat) : (onesTo ss k).length ≤ k := by
  unfold onesTo
  have := List.length_filter_le (fun i => decide (sd ss i = 1)) (rng k)
  rw [rng_length] at this
  exact this
def spOnes : Sp := fun vs H Q _ => ∃ (a : Addr) (ss : List Int), vs = [.ref a] ∧ H a = some (.tup (ss.map V.int)) ∧ ss.length ≤ 40 ∧ ∀ r H', Same H H' → H' r = some (.tup ((onesTo ss ss.length).map V.int)) → Q (.ref r) H'
theorem framed_len {n m : Int} {ts us : List Tie} (h : framedB n ts m us = true) : n = m ∧ us.length = ts.length ∧ framedI ts us = true := by
  unfold framedB at h
  rw [Bool.and_eq_true, Bool.and_eq_true] at h
  exact ⟨of_decide_eq_true h.1, (of_decide_eq_true h.2.1).symm, h.2.2⟩
theorem join_ok {n : Int} {t u : Tie} (h : joinB t u.one u.other = true) : TieOk n t ↔ TieOk n u := by
  unfold joinB at h
  simp only [Bool.or_eq_true, Bool.and_eq_true, decide_eq_true_iff] at h
  unfold TieOk
  rcases h with ⟨a, b⟩ | ⟨a, b⟩
  · rw [a, b]
  · rw [a, b]
    exact ⟨fun ⟨h1, h2, h3, h4, h5⟩ => ⟨h3, h4, h1, h2, Ne.symm h5⟩, fun ⟨h1, h2, h3, h4, h5⟩ => ⟨h3, h4, h1, h2, Ne.symm h5⟩⟩
theorem framed_at {ts us : List Tie} (h : framedI ts us = true) {i : Nat} {t u : Tie} (et : ts[i]? = some t) (eu : us[i]? = some u) : joinB t u.one u.other = true := by
  unfold framedI at h
  rw [List.all_eq_true] at h
  exact h (t, u) (List.mem_of_getElem? (List.getElem?_zip_eq_some.mpr ⟨et, eu⟩))
theorem framed_ok {n m : Int} {ts us : List Tie} (h : framedB n ts m us = true) (o : WebOk n ts ∨ WebOk m us) : WebOk n ts ∧ WebOk m us := by
  obtain ⟨rfl, ll, hf⟩ := framed_len h
  rcases o with o | o
  · refine ⟨o, o.lo, o.hi, by rw [ll]; exact o.few, fun u hu => ?_⟩
    obtain ⟨i, eu⟩ := List.getElem?_of_mem hu
    have il := (List.getElem?_eq_some_iff.mp eu).1
    have et := List.getElem?_eq_getElem (show i < ts.length by omega)
    exact (join_ok (framed_at hf et eu)).mp (o.ok _ (List.mem_of_getElem? et))
  · refine ⟨⟨o.lo, o.hi, by rw [← ll]; exact o.few, fun t ht => ?_⟩, o⟩
    obtain ⟨i, et⟩ := List.getElem?_of_mem ht
    have il := (List.getElem?_eq_some_iff.mp et).1
    have eu := List.getElem?_eq_getElem (show i < us.length by omega)
    exact (join_ok (framed_at hf et eu)).mpr (o.ok _ (List.mem_of_getElem? eu))
def spBetw (Ps : List Addr) (D : Addr) : Sp := fun vs H Q E => ∃ (v u : V) (n m : Int) (ts us : List Tie), vs = [v, u] ∧ WebAt H v n ts ∧ WebAt H u m us ∧ (WebOk n ts ∨ WebOk m us) ∧ Tabs Ps H ∧
  (framedB n ts m us = true → ∀ r H', us.length = ts.length → Kt Ps H H' → WebAt H' r n (betw ts us) → Q r H') ∧ (framedB n ts m us = false → ∀ H', Kt Ps H H' → E (.ref D) none H')
section
variable {P : Program} {w : World} {K : PySem.W.Frag} {mg : Str → Option Value} {base : Heap}
theorem ok_kinds_of {f : Addr} {fd : FuncData} (F : Fun K "kinds_of" "kinds_of" s_kinds_of f fd)  : FnOk P w K mg base CX0 1 f fd ["web"] spKinds := by
  refine F.ok sc_kinds_of (fun vs H Q E h => ?_) (fun cdv A outer s H vs Q E hr h => ?_)
  · obtain ⟨v, n, ts, rfl, _⟩ := h
    rfl
  · obtain ⟨v, n, ts, rfl, hW, few, q⟩ := h
    refine ⟨_, (pss_one (ps_ret (pe_lc (own := [("tie", 1)]) (g := (gName 1)) (tt := tYes) rfl sc_kinds_of.nd (pi_tup (pe_ix ix_tup (pv 0) pe_int (fun _ _ => rfl))) (blkOk_by (N := N_kinds_of) (sc := defScope s_kinds_of) (own := [("tie", 1)]) (by decide +kernel)) (fun _ _ _ _ _ => (pg_name (i := 1) sc_kinds_of.nd rfl (.inl rfl))) (fun _ _ _ _ _ => pts_nil) (fun _ _ _ _ _ => (pe_ix (r := rIxT K) ix_tup (pv 1) pe_int (fun _ _ => rfl)))))), ?_⟩
    obtain ⟨wa, wb, us, rfl, hwa, hwb, hp⟩ := hW
    have hlen : us.length = ts.length := Paired.length hp
    refine ⟨.ref wa, rfl, wa, _, 1, .ref wb, rfl, rfl, SqT.of hwa, rfl, wb, rfl, ⟨_, SqT.of hwb⟩, fun Z nZ => ?_⟩
    refine lc_tup (K := K) (xs := us) (fun i H' => H' Z = some (.lst ((ts.take i).map fun t => V.str (kindS t.foe))) ∧ Same H H') ⟨upd_same, same_new nZ⟩ (fun i H' _ h => SqT.of (h.2 _ _ hwb)) ?_ ?_
    · rintro i x H1 ex ⟨hZ, s1⟩
      obtain ⟨t, et, c, rfl, hc⟩ := Paired.at hp ex
      have il := (List.getElem?_eq_some_iff.mp et).1
      refine ⟨rfl, .ref c, rfl, c, _, 2, _, rfl, rfl, SqT.of (s1 _ _ hc), rfl, _, hZ, by rw [List.length_map, List.length_take]; exact small1000 (by omega), ?_, Same.mut s1 nZ⟩
      rw [upd_same, List.take_add_one, et, List.map_append]
      rfl
    · rintro H1 ⟨hZ, s1⟩
      rw [List.take_of_length_le (by omega)] at hZ
      exact q Z _ s1 hZ
end
/-! ### kinds are kept -/
theorem Same.kn {H H' : Hp} (s : Same H H') {v : V} (h : Kn H v) : Kn H' v := by
  cases v with
  | ref a =>
    rcases h with ⟨xs, h⟩ | ⟨xs, h⟩ | ⟨xs, h⟩
    · exact .inl ⟨xs, s _ _ h⟩
    · exact .inr (.inl ⟨xs, h.same s⟩)
    · exact .inr (.inr ⟨xs, s _ _ h⟩)
  | _ => exact h
/-- kinds are kept: tuples as they are, lists and dicts as such -/
structure Ks (H H' : Hp) : Prop where
  tup : ∀ a xs, H a = some (.tup xs) → H' a = some (.tup xs)
  frz : ∀ a o xs, H a = some (.frz o (.tup xs)) → H' a = some (.frz o (.tup xs))
  lst : ∀ a xs, H a = some (.lst xs) → ∃ ys, H' a = some (.lst ys)
  dct : ∀ a xs, H a = some (.dK xs) → ∃ ys, H' a = some (.dK ys)
theorem Ks.trans {H H1 H2 : Hp} (a : Ks H H1) (b : Ks H1 H2) : Ks H H2 :=
  ⟨fun x xs h => b.tup _ _ (a.tup _ _ h), fun x o xs h => b.frz _ _ _ (a.frz _ _ _ h), fun x xs h => by obtain ⟨ys, e⟩ := a.lst _ _ h; exact b.lst _ _ e, fun x xs h => by obtain ⟨ys, e⟩ := a.dct _ _ h; exact b.dct _ _ e⟩
theorem Same.ks {H H' : Hp} (s : Same H H') : Ks H H' := ⟨fun _ _ h => s _ _ h, fun _ _ _ h => s _ _ h, fun _ _ h => ⟨_, s _ _ h⟩, fun _ _ h => ⟨_, s _ _ h⟩⟩
theorem Ks.mut {H : Hp} {a : Addr} {xs ys : List V} (h : H a = some (.lst xs)) : Ks H (upd H a (.lst ys)) := by
  refine ⟨fun b zs e => ?_, fun b o zs e => ?_, fun b zs e => ?_, fun b zs e => ?_⟩
  · rw [upd_ne (fun z => by rw [z, h] at e; cases e)]
    exact e
  · rw [upd_ne (fun z => by rw [z, h] at e; cases e)]
    exact e
  · by_cases z : b = a
    · rw [z, upd_same]
      exact ⟨_, rfl⟩
    · rw [upd_ne z]
      exact ⟨_, e⟩
  · rw [upd_ne (fun z => by rw [z, h] at e; cases e)]
    exact ⟨_, e⟩
theorem Kp.ks {d : Addr} {b b' : Nat} {H H' : Hp} (k : Kp d d H H') (D : Well H d b) (D' : Well H' d b') : Ks H H' := by
  obtain ⟨g, st, i, e, _⟩ := D
  obtain ⟨g', st', i', e', _⟩ := D'
  refine ⟨fun a zs h => ?_, fun a o zs h => ?_, fun a zs h => ?_, fun a zs h => ?_⟩
  · have n : a ≠ d := fun z => by rw [z, e] at h; cases h
    exact k a _ n n h
  · have n : a ≠ d := fun z => by rw [z, e] at h; cases h
    exact k a _ n n h
  · by_cases z : a = d
    · rw [z]
      exact ⟨_, e'⟩
    · exact ⟨_, k a _ z z h⟩
  · have n : a ≠ d := fun z => by rw [z, e] at h; cases h
    exact ⟨_, k a _ n n h⟩
theorem NoD.ks {H H' : Hp} {p : Addr} {xs : List V} (h : NoD H p xs) (s : Ks H H') : NoD H' p xs := by
  obtain ⟨o, h1, h2⟩ := h
  exact ⟨o, h1, s.frz _ _ _ h2⟩
theorem TupA.ks {H H' : Hp} {p : Addr} {xs : List V} (h : TupA H p xs) (s : Ks H H') : TupA H' p xs := h.elim (fun h => .inl (s.tup _ _ h)) (fun h => .inr (h.ks s))
theorem Ks.kn {H H' : Hp} (s : Ks H H') {v : V} (h : Kn H v) : Kn H' v := by
  cases v with
  | ref a =>
    rcases h with ⟨xs, h⟩ | ⟨xs, h⟩ | ⟨xs, h⟩
    · exact .inl (s.lst _ _ h)
    · exact .inr (.inl ⟨xs, h.ks s⟩)
    · exact .inr (.inr (s.dct _ _ h))
  | _ => exact h
theorem Ks.parts {H H' : Hp} (s : Ks H H') {v : V} (h : Kn H v) : parts H' v = parts H v := by
  cases v with
  | ref a =>
    rcases h with ⟨xs, h⟩ | ⟨xs, h⟩ | ⟨xs, h⟩
    · obtain ⟨ys, e⟩ := s.lst _ _ h
      unfold FF.parts
      simp only [h, e]
    · exact (parts_of' (h.ks s)).trans (parts_of' h).symm
    · obtain ⟨ys, e⟩ := s.dct _ _ h
      unfold FF.parts
      simp only [h, e]
  | _ => rfl
theorem Kt.ks {Ps : List Addr} {H H' : Hp} (k : Kt Ps H H') (t : Tabs Ps H) : Ks H H' := ⟨fun _ _ h => k.tup t h, fun _ _ _ h => k.keep _ _ (t.out h fun _ z => by cases z) h, fun _ _ h => ⟨_, k.lst t h⟩, fun _ _ h => ⟨_, k.dct t h⟩⟩
theorem le1000 {n : Nat} (h : n ≤ 1000) : n ≤ sizeLine := Nat.le_of_lt (small1000 h)
/-! ### a thing of any kind against a text -/
section
open PySem.SeqAt PySem.MeetsSeq
open PySem.AutoSeq1 (wpAny_loadPart')
variable {A : PySem.Around} {s : Shared}
theorem str_eq_declines_dictP (b : Str) (u : Tok) (l : Addr) (o : Obj) : Meets (Builtin.«str.__eq__» ⟨[.str b u, .ref l], []⟩) (fun _ R s => s.heap.get? l = some o ∧ o.cls = .type "dict" ∧ (∃ es ep, o.data = .dict es ep) ∧ R (.ok (.ret .notImplemented)) s) :=
  .of_wp fun prog w A R s h => by
    obtain ⟨hp, g, d, tk, os⟩ := s
    obtain ⟨hl, hc, ⟨es, ep, hd⟩, h⟩ := h
    obtain ⟨cls, dd, data, sl⟩ := o
    simp only at hc hd
    subst hc hd
    wp_walk using wpAny_loadPart' hl, wpAny_load hl
    exact ⟨_, rfl, h⟩
theorem dict_eq_declines_strP (l : Addr) (o : Obj) (b : Str) (u : Tok) : Meets (Builtin.«dict.__eq__» ⟨[.ref l, .str b u], []⟩) (fun _ R s => s.heap.get? l = some o ∧ o.cls = .type "dict" ∧ (∃ es ep, o.data = .dict es ep) ∧ R (.ok (.ret .notImplemented)) s) :=
  .of_wp fun prog w A R s h => by
    obtain ⟨hp, g, d, tk, os⟩ := s
    obtain ⟨hl, hc, ⟨es, ep, hd⟩, h⟩ := h
    obtain ⟨cls, dd, data, sl⟩ := o
    simp only at hc hd
    subst hc hd
    have f1 := F.sub_str_dict
    wp_walk using wpAny_loadPart' hl
    exact ⟨_, rfl, h⟩
theorem rc_dict_str {l : Addr} {o : Obj} {es : Array DictEntry} {ep : Nat} (b : Str) (u : Tok) (ho : s.heap.get? l = some o) (hc : o.cls = .type "dict") (hd : o.data = .dict es ep) (hu : A.units < cLine) : RcAt A s (.ref l) (.str b u) false := fun prog w E Q h => by
  exact rc_eq_decline_or (k := false) ⟨_, ho, hc⟩ (typeIs_str s b u) (by decide) F.sub_str_dict F.slot_dict_eq F.slot_str_eq_refl
    (fun _ hq => call_meets F.slot_dict_eq ⟨_, ho, hc⟩ F.entry_dict_eq (F.args_dict_eq_2 _ _) (dict_eq_declines_strP l o b u) ⟨ho, hc, ⟨_, _, hd⟩, hq⟩)
    (fun _ hq => call_meets F.slot_str_eq_refl (typeIs_str s b u) F.entry_str_eq (F.args_str_eq_2 _ _) (str_eq_declines_dictP b u l o) ⟨ho, hc, ⟨_, _, hd⟩, hq⟩)
    (fun _ hq => wpAny_of_eq (rfl : isSame (.ref l) (.str b u) = pure false) hq) (.inr hu) h
end
def rEqAS : R2 := fun x y H Q => ∃ b, y = .str b ∧ Kn H x ∧ Q (.bl (decide (x = .str b))) H
theorem op_eqAS {X : Cx} (hu : X.A.units < cLine) : OpR X (compareOp .Eq) rEqAS := by
  intro pins s σ H x y v u Q I rx ry want
  obtain ⟨b, rfl, hk, q⟩ := want
  obtain ⟨k, rfl⟩ := ry
  cases x with
  | non =>
    cases rx
    exact SeqAt.RcAt.none_str b k _ _ _ _ ⟨.bl false, H, I, rfl, q⟩
  | bl a =>
    cases rx
    exact SeqAt.RcAt.bool_str a b k _ _ _ _ ⟨.bl false, H, I, rfl, q⟩
  | int a =>
    obtain ⟨t, rfl⟩ := rx
    exact SeqAt.RcAt.int_str a t b k _ _ _ _ ⟨.bl false, H, I, rfl, q⟩
  | str a =>
    obtain ⟨t, rfl⟩ := rx
    refine SeqAt.RcAt.str_str a t b k _ _ _ _ ⟨.bl (a == b), H, I, rfl, ?_⟩
    have e : decide (V.str a = V.str b) = (a == b) := by
      rw [Bool.eq_iff_iff, decide_eq_true_iff, beq_iff_eq]
      exact ⟨fun h => V.str.inj h, fun h => by rw [h]⟩
    rw [← e]
    exact q
  | ref a =>
    obtain rfl : v = Value.ref a := rx
    have q : Q (.bl false) H := q
    rcases hk with ⟨xs, h⟩ | ⟨xs, h⟩ | ⟨xs, h⟩
    · obtain ⟨its, r1, p1, _⟩ := I.list (.inl (.inl h))
      exact SeqAt.RcAt.list_str b k p1.isList hu _ _ _ _ ⟨.bl false, H, I, rfl, q⟩
    · obtain ⟨its, rv, tup, _⟩ := I.tuple h.sq
      exact SeqAt.RcAt.tuple_str b k tup hu _ _ _ _ ⟨.bl false, H, I, rfl, q⟩
    · obtain ⟨hz, hne, vs, kv, o2, es, ep, ho2, ed, hd2, ko, pr, nd⟩ := I.hok a _ h
      exact rc_dict_str b k ho2 ed.1 hd2 hu _ _ _ _ ⟨.bl false, H, I, rfl, q⟩
  | _ => exact hk.elim
section
variable {P : Program} {w : World} {K : PySem.W.Frag} {mg : Str → Option Value} {base : Heap}
theorem ok_web_between {f : Addr} {fd : FuncData} {Ps : List Addr} {D W : Addr} (F : Fun K "web_between" "web_between" s_web_between f fd) (M : Free mg) (m_zip : mg "zip" = none) (T : RefT K mg "NoFrame" D W) (D_are_framed : Df P w K mg base 3 "are_framed" ["one", "other"] (spFramed Ps)) (D_kinds_of : Df P w K mg base 1 "kinds_of" ["web"] spKinds) : FnOk P w K mg base (L2.CX P w) 4 f fd ["one", "other"] (spBetw Ps D) := by
  obtain ⟨f_are_framed, fd_are_framed, G_are_framed, g_are_framed, k_are_framed, b_are_framed⟩ := D_are_framed
  obtain ⟨f_kinds_of, fd_kinds_of, G_kinds_of, g_kinds_of, k_kinds_of, b_kinds_of⟩ := D_kinds_of
  refine F.okX sc_web_between (fun vs H Q E h => ?_) (fun cdv A outer s H vs Q E hr h => ?_)
  · obtain ⟨v, u, n, m, ts, us, rfl, _⟩ := h
    rfl
  · obtain ⟨v, u, n, m, ts, us, rfl, hW, hU, ok, hT, q, qe⟩ := h
    refine ⟨_, (pss_cons (ps_if (pt_not (pt_val (pe_call G_are_framed hr (by rfl) g_are_framed k_are_framed b_are_framed .nil pass0 (pa_cons (pv 0) (pa_cons (pv 1) pa_nil)))))
        (pss_one (ps_raise rfl (takes_of rfl rfl rfl rfl) (pmk_own PySem.F.excBase_ValueError T.exc T.gD T.kD (raises_own T.ec.hs T.tD) rfl)))
        pss_nil)
      (PSs.nox (pss_cons (ps_setLc (i := 2) (own := [("kind", 3), ("told", 4)]) (g := gTup K 2 (gCons (gName 3) (gCons (gName 4) gNil))) (tt := tYes) rfl sc_web_between.nd rfl rfl (sw_true rfl rfl rfl (by decide +kernel)) (RZ.pi_zipA (by rfl) m_zip (pa_cons (pe_call G_kinds_of (hr.mono (by decide)) (by rfl) g_kinds_of k_kinds_of b_kinds_of .nil pass0 (pa_cons (pv 0) pa_nil)) (pa_cons (pe_call G_kinds_of (hr.mono (by decide)) (by rfl) g_kinds_of k_kinds_of b_kinds_of .nil pass0 (pa_cons (pv 1) pa_nil)) pa_nil))) (blkOk_by (N := N_web_between) (sc := defScope s_web_between) (own := [("kind", 3), ("told", 4)]) (by decide +kernel)) (fun _ _ _ _ _ => (pg_tup rfl (pgs_cons (pg_name (i := 3) sc_web_between.nd rfl (.inl rfl)) (pgs_cons (pg_name (i := 4) sc_web_between.nd rfl (.inl rfl)) pgs_nil)))) (fun _ _ _ _ _ => pts_nil) (fun _ _ _ _ _ => (pe_ifExp (pt_cmpR op_eq (pv 3) (pv 4) (nomark _)) pe_str pe_str)))
      (pss_one (ps_ret (pe_tup (pa_cons (pe_ix ix_tup (pv 0) pe_int (fun _ _ => rfl)) (pa_cons (pe_callTy call_tuple_of (by rfl) M.tuple (by decide +kernel) (pa_cons (pe_lc (own := [("tie", 5), ("kind", 3)]) (g := gTup K 2 (gCons (gName 5) (gCons (gName 3) gNil))) (tt := tYes) rfl sc_web_between.nd (pi_zipM (by rfl) m_zip (pa_cons (pe_ix ix_tup (pv 0) pe_int (fun _ _ => rfl)) (pa_cons (pv 2) pa_nil))) (blkOk_by (N := N_web_between) (sc := defScope s_web_between) (own := [("tie", 5), ("kind", 3)]) (by decide +kernel)) (fun _ _ _ _ _ => (pg_tup rfl (pgs_cons (pg_name (i := 5) sc_web_between.nd rfl (.inl rfl)) (pgs_cons (pg_name (i := 3) sc_web_between.nd rfl (.inl rfl)) pgs_nil)))) (fun _ _ _ _ _ => pts_nil) (fun _ _ _ _ _ => (pe_tup (pa_cons (pe_ix (r := rIxT K) ix_tup (pv 5) pe_int (fun _ _ => rfl)) (pa_cons (pe_ix (r := rIxT K) ix_tup (pv 5) pe_int (fun _ _ => rfl)) (pa_cons (pv 3) pa_nil)))))) pa_nil)) pa_nil)))))))), ?_⟩
    refine ⟨v, rfl, u, rfl, v, u, n, ts, m, us, rfl, hW, hU, hT, fun H1 k1 => ⟨_, rfl, ?_⟩⟩
    cases hf : framedB n ts m us with
    | false =>
      exact qe hf H1 k1
    | true =>
    replace q := q hf
    have ll : us.length = ts.length := by
      unfold framedB at hf
      rw [Bool.and_eq_true, Bool.and_eq_true] at hf
      exact (of_decide_eq_true hf.2.1).symm
    obtain ⟨ok, ok'⟩ := framed_ok hf ok
    have few := ok.few
    have hW1 := hW.tk (k1.tk hT)
    have hU1 := hU.tk (k1.tk hT)
    have hT1 : Tabs Ps H1 := k1.tab
    refine ⟨v, rfl, v, n, ts, rfl, hW1, few, fun p1 H2 s2 h2 => ⟨u, rfl, u, m, us, rfl, hU1.tk (Same.tk s2), by omega, fun p2 H3 s3 h3 => ?_⟩⟩
    have h23 := s3 _ _ h2
    refine ⟨p1, p2, _, _, rfl, .inl ⟨SqL.of h23, SqL.of h3, fun Z nZ => ?_⟩⟩
    have like : ∀ i : Nat, i ≤ ts.length → ((betw ts us).take i).length = i := fun i hi => by rw [List.length_take, betw_len ll]; omega
    refine lc_zipL (by rw [List.length_map, List.length_map, ll]) (fun i H' => H' Z = some (.lst (((betw ts us).take i).map fun t => V.str (kindS t.foe))) ∧ Same H3 H') ⟨upd_same, same_new nZ⟩ (fun i H' _ h => ⟨SqL.of (h.2 _ _ h23), SqL.of (h.2 _ _ h3)⟩) ?_ ?_
    · rintro i x y T0 H4 ex ey ⟨hZ, s4⟩ nT
      rw [List.getElem?_map] at ex ey
      obtain ⟨t, et, rfl⟩ := Option.map_eq_some_iff.mp ex
      obtain ⟨t', et', rfl⟩ := Option.map_eq_some_iff.mp ey
      have il := (List.getElem?_eq_some_iff.mp et).1
      have s5 := s4.trans (same_new (o := .tup [.str (kindS t.foe), .str (kindS t'.foe)]) nT)
      refine ⟨T0, _, rfl, SqT.of upd_same, rfl, _, _, rfl, _, _, rfl, rfl, rfl, _, rfl, _, rfl, rfl, _, rfl, ?_⟩
      rw [kindS_eq]
      have fin : ∀ b : Bool, (t.foe ^^ t'.foe) = b → ∃ acc, upd H4 T0 (.tup [.str (kindS t.foe), .str (kindS t'.foe)]) Z = some (.lst acc) ∧ acc.length < sizeLine ∧ upd (upd H4 T0 (.tup [.str (kindS t.foe), .str (kindS t'.foe)])) Z (.lst (acc ++ [V.str (kindS b)])) Z = some (.lst (((betw ts us).take (i + 1)).map fun t => V.str (kindS t.foe))) ∧ Same H3 (upd (upd H4 T0 (.tup [.str (kindS t.foe), .str (kindS t'.foe)])) Z (.lst (acc ++ [V.str (kindS b)]))) := fun b eb => by
        refine ⟨_, same_new nT _ _ hZ, by rw [List.length_map, like i (by omega)]; exact small1000 (by omega), ?_, Same.mut s5 nZ⟩
        rw [upd_same, List.take_add_one, betw_get et et', List.map_append]
        subst eb
        rfl
      cases hx : (t.foe ^^ t'.foe) with
      | true => exact fin true hx
      | false => exact fin false hx
    · rintro H4 ⟨hZ, s4⟩
      rw [List.length_map, List.take_of_length_le (by rw [betw_len ll]; omega)] at hZ
      have s14 := (s2.trans s3).trans s4
      obtain ⟨wa, wb, xs, rfl, hwa, hwb, hp⟩ := hW1.tk (Same.tk s14)
      have hlen : xs.length = ts.length := Paired.length hp
      refine ⟨.ref wa, rfl, wa, _, 0, .int n, rfl, rfl, SqT.of hwa, rfl, .ref wa, rfl, wa, _, 1, .ref wb, rfl, rfl, SqT.of hwa, rfl, .ref Z, rfl, wb, Z, xs, _, rfl, SqT.of hwb, SqL.of hZ, fun Y nY => ?_⟩
      have nY' : Y ≠ Z := fun z => by rw [z, hZ] at nY; cases nY
      refine lc_zipM (xs := xs) (ys := (betw ts us).map fun t => V.str (kindS t.foe)) (by rw [List.length_map, betw_len ll, hlen]) (fun i H' => ∃ ys, H' Y = some (.lst ys) ∧ Paired (TieV H') ys ((betw ts us).take i) ∧ Same H4 H') ⟨[], upd_same, .nil, same_new nY⟩ (fun i H' _ h => by
        obtain ⟨ys, _, _, h⟩ := h
        exact ⟨SqT.of (h _ _ hwb), SqL.of (h _ _ hZ)⟩) ?_ ?_
      · rintro i x y T0 H5 ex ey ⟨ys, hY, pr, s5⟩ nT
        obtain ⟨t, et, c, rfl, hc⟩ := Paired.at hp ex
        rw [List.getElem?_map] at ey
        obtain ⟨b, eb, rfl⟩ := Option.map_eq_some_iff.mp ey
        have il := (List.getElem?_eq_some_iff.mp et).1
        obtain ⟨u', eu⟩ : ∃ u', us[i]? = some u' := ⟨_, List.getElem?_eq_getElem (by omega)⟩
        have eb' := betw_get et eu
        rw [eb] at eb'
        cases eb'
        have e6 := same_new (o := .tup [.ref c, .str (kindS (xorT (t, u')).foe)]) nT
        have ly : ys.length = i := by rw [Paired.length pr, like i (by omega)]
        refine ⟨T0, _, rfl, SqT.of upd_same, rfl, _, _, rfl, _, _, rfl, rfl, rfl, .ref c, rfl, c, _, 0, _, rfl, rfl, SqT.of (e6 _ _ (s5 _ _ hc)), rfl, .ref c, rfl, c, _, 1, _, rfl, rfl, SqT.of (e6 _ _ (s5 _ _ hc)), rfl, _, rfl, by show 3 ≤ sizeLine; decide, fun r nr => ?_⟩
        have e7 := same_new (o := .tup [.int t.one, .int t.other, .str (kindS (xorT (t, u')).foe)]) nr
        have e67 := e6.trans e7
        have hY7 := e67 _ _ hY
        have tk8 : Tk H5 (upd (upd (upd H5 T0 (.tup [.ref c, .str (kindS (xorT (t, u')).foe)])) r (.tup [.int t.one, .int t.other, .str (kindS (xorT (t, u')).foe)])) Y (.lst (ys ++ [.ref r]))) := fun a zs h => tk_lst hY7 _ _ (e67 _ _ h)
        refine ⟨ys, hY7, small1000 (by omega), ys ++ [.ref r], upd_same, ?_, Same.mut (s5.trans e67) nY⟩
        rw [List.take_add_one, eb]
        refine Paired.snoc (Paired.mono (fun _ _ h => h.tk tk8) pr) ⟨r, rfl, ?_⟩
        exact tk_lst hY7 _ _ upd_same
      · rintro H5 ⟨ys, hY, pr, s5⟩
        rw [List.take_of_length_le (by rw [betw_len ll]; omega)] at pr
        refine ⟨Y, ys, rfl, .inl ⟨SqL.of hY, fun l nl => ⟨by show 2 ≤ sizeLine; decide, fun r nr => ?_⟩⟩⟩
        have e6 := same_new (o := .tup ys) nl
        have e7 := same_new (o := .tup [.int n, .ref l]) nr
        exact q (.ref r) _ ll (k1.trans (Kt.same hT1 (s14.trans (s5.trans (e6.trans e7))))) ⟨r, l, ys, rfl, upd_same, e7 _ _ upd_same, Paired.mono (fun _ _ h => h.tk (Same.tk (e6.trans e7))) pr⟩
end
/-! ### k27: turnings judged, of things of any kind -/
def StayP (H H' : Hp) : Prop := ∀ u, Kn H u → Kn H' u ∧ parts H' u = parts H u
theorem StayP.ks {H H' : Hp} (s : Ks H H') : StayP H H' := fun u h => ⟨s.kn h, s.parts h⟩
theorem RowK.ks {H H' : Hp} (s : Ks H H') {v : V} (h : RowK H v) : RowK H' v := ⟨s.kn h.1, fun xs e => by
  rw [s.parts h.1] at e
  exact ⟨fun x hx => s.kn ((h.2 xs e).1 x hx), (h.2 xs e).2⟩⟩
theorem Part2.ks {H H' : Hp} (s : Ks H H') {v : V} (h : Part2 H v) : Part2 H' v := ⟨s.kn h.1, fun xs e => by
  rw [s.parts h.1] at e
  exact ⟨fun x hx => s.kn ((h.2 xs e).1 x hx), (h.2 xs e).2⟩⟩
theorem Thing2.ks {H H' : Hp} (s : Ks H H') {v : V} (h : Thing2 H v) : Thing2 H' v := ⟨s.kn h.1, fun xs e x hx => by
  rw [s.parts h.1] at e
  exact (h.2 xs e x hx).ks s⟩
theorem ring_stay {H H' : Hp} {v : V} (h : Thing2 H v) (s : StayP H H') (n : Int) (ts : List Tie) : ringB H' n ts v = ringB H n ts v := by
  unfold ringB
  rw [(s v h.1).2]
  cases e : parts H v with
  | none => rfl
  | some xs =>
    match xs, e with
    | [], _ => rfl
    | [_], _ => rfl
    | [a, b], e =>
      show ringP n ts (parts H' a) (parts H' b) = ringP n ts (parts H a) (parts H b)
      rw [(s a (h.2 _ e a (by simp)).1).2, (s b (h.2 _ e b (by simp)).1).2]
    | _ :: _ :: _ :: _, _ => rfl
theorem odd_stay {H H' : Hp} {v : V} (h : Thing2 H v) (s : StayP H H') (n : Int) (ts : List Tie) : oddB H' n ts v = oddB H n ts v := by
  unfold oddB
  rw [ring_stay h s, (s v h.1).2]
  congr 1
  cases e : parts H v with
  | none => rfl
  | some xs =>
    match xs, e with
    | [], _ => rfl
    | [_], _ => rfl
    | [a, b], e =>
      show (match parts H' b with | some es => decide (foesI ts (es.map toI) % 2 = 1) | none => false) = (match parts H b with | some es => decide (foesI ts (es.map toI) % 2 = 1) | none => false)
      rw [(s b (h.2 _ e b (by simp)).1).2]
    | _ :: _ :: _ :: _, _ => rfl
def JudK (H : Hp) (v : V) : Prop := Kn H v ∧ ∀ w y, parts H v = some [w, y] → Kn H w ∧ RowK H y ∧ Thing2 H y
theorem JudK.ks {H H' : Hp} (s : Ks H H') {v : V} (h : JudK H v) : JudK H' v := ⟨s.kn h.1, fun w y e => by
  rw [s.parts h.1] at e
  obtain ⟨h1, h2, h3⟩ := h.2 w y e
  exact ⟨s.kn h1, h2.ks s, h3.ks s⟩⟩
def rowI (H : Hp) (y : V) : List Int := ((parts H y).getD []).map toI
def foeK (ts : List Tie) : List Bool := ts.map (·.foe)
def jB (H : Hp) (n : Int) (ts us : List Tie) (v : V) : Bool := match parts H v with
  | some [w, y] => if decide (w = .str "turned") = true then riseB H n y && decide (foeK (ts.map (turnT (rowI H y))) = foeK us) else decide (w = .str "ring") && oddB H n (betw ts us) y
  | _ => false
theorem jB_ks {H H' : Hp} {v : V} (h : JudK H v) (s : Ks H H') (n : Int) (ts us : List Tie) : jB H' n ts us v = jB H n ts us v := by
  unfold jB
  rw [s.parts h.1]
  cases e : parts H v with
  | none => rfl
  | some xs =>
    match xs, e with
    | [], _ => rfl
    | [_], _ => rfl
    | [w, y], e =>
      obtain ⟨h1, h2, h3⟩ := h.2 w y e
      show (if decide (w = .str "turned") = true then riseB H' n y && decide (foeK (ts.map (turnT (rowI H' y))) = foeK us) else decide (w = .str "ring") && oddB H' n (betw ts us) y) = _
      rw [odd_stay h3 (.ks s)]
      unfold riseB rowI
      rw [s.parts h2.1]
    | _ :: _ :: _ :: _, _ => rfl
def spJudge (Ps : List Addr) (D : Addr) : Sp := fun vs H Q E => ∃ (v u t : V) (n m : Int) (ts us : List Tie), vs = [v, u, t] ∧ WebAt H v n ts ∧ WebAt H u m us ∧ (WebOk n ts ∨ WebOk m us) ∧ JudK H t ∧ Tabs Ps H ∧
  (framedB n ts m us = true → ∀ H', Kt Ps H H' → Q (.bl (jB H n ts us t)) H') ∧ (framedB n ts m us = false → ∀ H', Kt Ps H H' → E (.ref D) none H')
def kindsD (ts : List Tie) : PyData := .list (ts.map fun t => PyData.str (kindS t.foe))
theorem kindOk (b : Bool) : PyData.strOk (kindS b) = true := by cases b <;> decide +kernel
theorem lay_kinds : ∀ ts : List Tie, PyData.canLayAll0 (ts.map fun t => PyData.str (kindS t.foe)) = true
  | [] => by simp [PyData.canLayAll0]
  | x :: xs => by
    rw [List.map_cons, PyData.canLayAll0, PyData.canLay0, kindOk, lay_kinds xs]
    rfl
theorem deep_kinds : ∀ ts : List Tie, PyData.depthAll (ts.map fun t => PyData.str (kindS t.foe)) = 0
  | [] => by simp [PyData.depthAll]
  | x :: xs => by simp [PyData.depthAll, PyData.depth, deep_kinds xs]
theorem shaped_kindsD (ts : List Tie) : SeqAt.shaped (kindsD ts) = true := by
  unfold SeqAt.shaped kindsD
  rw [PyData.canLay0, lay_kinds, PyData.depth, deep_kinds]
  rfl
theorem dp_kinds {K : PySem.W.Frag} {H : Hp} : ∀ (ts : List Tie), DpAll K H (ts.map fun t => V.str (kindS t.foe)) (ts.map fun t => PyData.str (kindS t.foe))
  | [] => .nil
  | x :: xs => .cons (.str _) (dp_kinds xs)
theorem kinds_dp {K : PySem.W.Frag} {H : Hp} {a : Addr} {ts : List Tie} (h : H a = some (.lst (ts.map fun t => V.str (kindS t.foe)))) : Dp K H (.ref a) (kindsD ts) := .lst (SqL.of h) (dp_kinds ts)
theorem chain_ints : ∀ ks : List Int, chainB (ks.map V.int) = true ↔ ks.Pairwise (· < ·)
  | [] => by simp [chainB]
  | [x] => by simp [chainB]
  | x :: y :: r => by
    have ih := chain_ints (y :: r)
    have e : chainB ((x :: y :: r).map V.int) = (decide (x < y) && chainB ((y :: r).map V.int)) := rfl
    rw [e, Bool.and_eq_true, ih, decide_eq_true_iff, List.pairwise_cons (a := x)]
    constructor
    · rintro ⟨h1, h2⟩
      refine ⟨fun z hz => ?_, h2⟩
      rcases List.mem_cons.mp hz with h | h
      · rw [h]; exact h1
      · have := (List.pairwise_cons.mp h2).1 z h
        omega
    · rintro ⟨h1, h2⟩
      exact ⟨h1 y (by simp), h2⟩
theorem sorted_same {ks zs : List Int} (p : zs.Pairwise (· < ·)) (m : ∀ k, k ∈ zs ↔ k ∈ ks) : ks = zs ↔ ks.Pairwise (· < ·) := by
  constructor
  · intro e
    rw [e]
    exact p
  · intro q
    exact rising_ext q p fun z => (m z).symm
theorem rise_ints {H : Hp} {n : Nat} {v : V} (h : riseB H n v = true) : ∃ (a : Addr) (ps : List Int), v = .ref a ∧ TupA H a (ps.map V.int) ∧ ps.length ≤ n ∧ ps.Pairwise (· < ·) ∧ ∀ p ∈ ps, 0 ≤ p ∧ p < (n : Int) := by
  unfold riseB at h
  cases hp : parts H v with
  | none => rw [hp] at h; cases h
  | some xs =>
    rw [hp] at h
    simp only [Bool.and_eq_true] at h
    obtain ⟨a, rfl, ea⟩ := parts_at hp
    obtain ⟨ps, rfl, hb⟩ := ints_of h.1
    have pw := (chain_ints _).mp h.2
    exact ⟨a, ps, rfl, ea, pigeon n ps (pw.imp fun {a b} h => by omega) hb, pw, hb⟩
theorem web_tup {H : Hp} {v : V} {n : Int} {ts : List Tie} (h : WebAt H v n ts) : ∃ wa wb, v = .ref wa ∧ H wa = some (.tup [.int n, .ref wb]) := by
  obtain ⟨a, b, us, rfl, h1, _⟩ := h
  exact ⟨a, b, rfl, h1⟩
theorem eqv_kinds : ∀ ts us : List Tie, PyData.eqv (kindsD ts) (kindsD us) = decide (foeK ts = foeK us)
  | [], [] => by unfold kindsD; rw [PyData.eqv]; rfl
  | [], _ :: _ => by unfold kindsD; rw [PyData.eqv]; rfl
  | _ :: _, [] => by unfold kindsD; rw [PyData.eqv]; rfl
  | t :: ts, u :: us => by
    have ih := eqv_kinds ts us
    unfold kindsD at ih ⊢
    rw [PyData.eqv] at ih ⊢
    rw [List.map_cons, List.map_cons, PyData.eqvAll, ih, PyData.eqv]
    rw [Bool.eq_iff_iff, Bool.and_eq_true, decide_eq_true_iff, decide_eq_true_iff, beq_iff_eq]
    unfold foeK
    rw [List.map_cons, List.map_cons, List.cons.injEq]
    have e : (kindS t.foe = kindS u.foe) ↔ t.foe = u.foe := by cases t.foe <;> cases u.foe <;> decide
    rw [e]
section
variable {P : Program} {w : World} {K : PySem.W.Frag} {mg : Str → Option Value} {base : Heap}
theorem ok_turning_holds {f : Addr} {fd : FuncData} {Ps : List Addr} {D W : Addr} (T : RefT K mg "NoFrame" D W) (F : Fun K "turning_holds" "turning_holds" s_turning_holds f fd) (D_web_between : DfX P w K mg base 4 "web_between" ["one", "other"] (spBetw Ps D)) (D_is_tuple_of : Df P w K mg base 1 "is_tuple_of" ["length", "thing"] spTupleOf) (D_turned : Df P w K mg base 2 "turned" ["web", "places"] (spTurned K)) (D_kinds_of : Df P w K mg base 1 "kinds_of" ["web"] spKinds) (D_are_rising_below : Df P w K mg base 4 "are_rising_below" ["limit", "thing"] (spRising Ps)) (D_odd_ring_holds : Df P w K mg base 6 "odd_ring_holds" ["web", "thing"] (spOdd Ps)) : FnOk P w K mg base (L2.CX P w) 7 f fd ["one", "other", "thing"] (spJudge Ps D) := by
  obtain ⟨f_web_between, fd_web_between, G_web_between, g_web_between, k_web_between, b_web_between⟩ := D_web_between
  obtain ⟨f_is_tuple_of, fd_is_tuple_of, G_is_tuple_of, g_is_tuple_of, k_is_tuple_of, b_is_tuple_of⟩ := D_is_tuple_of
  obtain ⟨f_turned, fd_turned, G_turned, g_turned, k_turned, b_turned⟩ := D_turned
  obtain ⟨f_kinds_of, fd_kinds_of, G_kinds_of, g_kinds_of, k_kinds_of, b_kinds_of⟩ := D_kinds_of
  obtain ⟨f_are_rising_below, fd_are_rising_below, G_are_rising_below, g_are_rising_below, k_are_rising_below, b_are_rising_below⟩ := D_are_rising_below
  obtain ⟨f_odd_ring_holds, fd_odd_ring_holds, G_odd_ring_holds, g_odd_ring_holds, k_odd_ring_holds, b_odd_ring_holds⟩ := D_odd_ring_holds
  refine F.okX sc_turning_holds (fun vs H Q E h => ?_) (fun cdv A outer s H vs Q E hr h => ?_)
  · obtain ⟨v, u, t, n, m, ts, us, rfl, _⟩ := h
    rfl
  · obtain ⟨v, u, t, n, m, ts, us, rfl, hW, hU, ok, hj, hT, q, qe⟩ := h
    refine ⟨_, (pss_cons (ps_set (i := 3) sc_turning_holds.nd rfl (.inl rfl) (pe_callS G_web_between (hr.mono (by decide)) (by rfl) g_web_between k_web_between b_web_between (fun σ => passAt (takes_of rfl rfl rfl rfl) σ) (pa_cons (pv 0) (pa_cons (pv 1) pa_nil))))
      (PSs.nox (pss_cons (ps_if (pt_not (pt_val (pe_call G_is_tuple_of (hr.mono (by decide)) (by rfl) g_is_tuple_of k_is_tuple_of b_is_tuple_of .nil pass0 (pa_cons pe_int (pa_cons (pv 2) pa_nil)))))
        (pss_one (ps_ret pe_bl))
        pss_nil)
      (pss_cons (ps_asg (pv 2) (pg_tup rfl (pgs_cons (pg_name (i := 4) sc_turning_holds.nd rfl (.inl rfl)) (pgs_cons (pg_name (i := 5) sc_turning_holds.nd rfl (.inl rfl)) pgs_nil))))
      (pss_cons (ps_if (pt_cmpR (op_eqAS hr.units0) (pv 4) pe_str (nomark _))
        (pss_one (ps_ret (pe_and (pe_call G_are_rising_below (hr.mono (by decide)) (by rfl) g_are_rising_below k_are_rising_below b_are_rising_below .nil pass0 (pa_cons (pe_ix ix_tup (pv 0) pe_int (fun _ _ => rfl)) (pa_cons (pv 5) pa_nil))) (pe_one (pe_cmpR (op_eqD hr.units) (pe_call G_kinds_of (hr.mono (by decide)) (by rfl) g_kinds_of k_kinds_of b_kinds_of .nil pass0 (pa_cons (pe_call G_turned (hr.mono (by decide)) (by rfl) g_turned k_turned b_turned .nil pass0 (pa_cons (pv 0) (pa_cons (pv 5) pa_nil))) pa_nil)) (pe_call G_kinds_of (hr.mono (by decide)) (by rfl) g_kinds_of k_kinds_of b_kinds_of .nil pass0 (pa_cons (pv 1) pa_nil)) (nomark _))))))
        pss_nil)
      (pss_one (ps_ret (pe_and (pe_cmpR (op_eqAS hr.units0) (pv 4) pe_str (nomark _)) (pe_one (pe_call G_odd_ring_holds hr (by rfl) g_odd_ring_holds k_odd_ring_holds b_odd_ring_holds .nil pass0 (pa_cons (pv 3) (pa_cons (pv 5) pa_nil)))))))))))), ?_⟩
    refine ⟨v, rfl, u, rfl, v, u, n, m, ts, us, rfl, hW, hU, ok, hT, fun hf r H1 ll k1 hB => ?_, fun hf H1 k1 => qe hf H1 k1⟩
    replace q := q hf
    obtain ⟨ok, ok'⟩ := framed_ok hf ok
    obtain ⟨n, rfl⟩ : ∃ k : Nat, n = k := ⟨n.toNat, by have := ok.lo; omega⟩
    have okB := betw_webOk ok ll
    have hT1 : Tabs Ps H1 := k1.tab
    rw [← jB_ks hj (k1.ks hT) n ts us] at q
    have hj := hj.ks (k1.ks hT)
    have hW1 := hW.tk (k1.tk hT)
    have hU1 := hU.tk (k1.tk hT)
    refine ⟨t, rfl, 2, t, rfl, hj.1, _, rfl, ?_⟩
    cases hpv : parts H1 t with
    | none =>
      have e1 : lenIs H1 t 2 = false := by unfold lenIs; rw [hpv]
      have e2 : jB H1 n ts us t = false := by unfold jB; rw [hpv]
      rw [e1]
      rw [e2] at q
      exact q _ k1
    | some xs =>
    obtain ⟨a, rfl, ea⟩ := parts_at hpv
    have e1 : lenIs H1 (.ref a) 2 = decide ((xs.length : Int) = 2) := by unfold lenIs; rw [hpv]
    rw [e1]
    match xs, hpv, ea with
    | [], hpv, ea =>
      have e2 : jB H1 n ts us (.ref a) = false := by unfold jB; rw [hpv]
      rw [e2] at q
      exact q _ k1
    | [x], hpv, ea =>
      have e2 : jB H1 n ts us (.ref a) = false := by unfold jB; rw [hpv]
      rw [e2] at q
      exact q _ k1
    | x :: y :: z :: r, hpv, ea =>
      have e2 : jB H1 n ts us (.ref a) = false := by unfold jB; rw [hpv]
      rw [e2] at q
      rw [decide_eq_false (by simp only [List.length_cons]; omega)]
      exact q _ k1
    | [x, y], hpv, ea =>
    obtain ⟨hKx, hR, hT2⟩ := hj.2 _ _ hpv
    have e2 : jB H1 n ts us (.ref a) = (if decide (x = .str "turned") = true then riseB H1 n y && decide (foeK (ts.map (turnT (rowI H1 y))) = foeK us) else decide (x = .str "ring") && oddB H1 n (betw ts us) y) := by unfold jB; rw [hpv]
    rw [e2] at q
    clear e1 e2
    refine ⟨.ref a, rfl, a, _, rfl, ea.sq, rfl, _, _, rfl, _, _, rfl, rfl, ?_⟩
    refine ⟨x, rfl, _, rfl, hKx, _, rfl, ite2 (fun hw => ?_) (fun hw => ?_)⟩
    · rw [if_pos hw] at q
      obtain ⟨wa, wb, rfl, hwa⟩ := web_tup hW1
      refine ⟨.ref wa, rfl, wa, _, 0, .int n, rfl, rfl, SqT.of hwa, rfl, y, rfl, n, y, rfl, hR, hT1, fun H2 k2 => ⟨_, rfl, ?_⟩⟩
      have k12 := k1.trans k2
      cases hri : riseB H1 n y with
      | false =>
        rw [hri] at q
        exact q _ k12
      | true =>
        rw [hri] at q
        obtain ⟨pa, ps, rfl, hpa, lp, _, _⟩ := rise_ints hri
        have er : rowI H1 (.ref pa) = ps := by
          unfold rowI
          rw [parts_of' hpa]
          exact toI_map ps
        rw [er, Bool.true_and] at q
        have hW2 := hW1.tk (k2.tk hT1)
        have hpa2 := hpa.kt k2 hT1
        have n40 := ok.hi
        refine ⟨.ref wa, rfl, .ref pa, rfl, .ref wa, pa, n, ts, ps, rfl, hW2, ok.few, hpa2.sq, by omega, fun z H3 s3 hZ => ?_⟩
        refine ⟨z, n, _, rfl, hZ, by rw [List.length_map]; exact ok.few, fun l1 H4 s4 h4 => ?_⟩
        have hU4 := hU1.tk ((k2.tk hT1).trans (Same.tk (s3.trans s4)))
        refine ⟨u, rfl, u, m, us, rfl, hU4, ok'.few, fun l2 H5 s5 h5 => ⟨_, _, kinds_dp (s5 _ _ h4), kinds_dp h5, shaped_kindsD _, shaped_kindsD _, ?_⟩⟩
        rw [eqv_kinds]
        exact q _ (k12.trans (Kt.same k2.tab ((s3.trans s4).trans s5)))
    · rw [if_neg hw] at q
      refine ⟨x, rfl, _, rfl, hKx, _, rfl, ?_⟩
      cases hw : decide (x = .str "ring") with
      | false =>
        rw [hw] at q
        exact q _ k1
      | true =>
        rw [hw, Bool.true_and] at q
        exact ⟨r, rfl, y, rfl, r, n, betw ts us, y, rfl, hB, okB, hT2, hT1, fun H2 k2 => q _ (k1.trans k2)⟩
end
/-! ### sum of a tuple of ints -/
def rSumTI (K : PySem.W.Frag) : List V → Hp → VK → Prop := fun vs H Q => ∃ (a : Addr) (ns : List Int), vs = [V.ref a] ∧ SqT K H a (ns.map V.int) ∧ Q (.int ns.sum) H
theorem cr_sumTI {X : Cx} (hc : X.calm = true) : CallR X (.builtin "sum") (rSumTI X.K) := by
  intro pins s σ H vs us Q I r h
  obtain ⟨a, ns, rfl, hs, q⟩ := h
  obtain ⟨its, rv, hl, _⟩ := I.tuple hs
  rw [Vals.ref1 r]
  have hi := rv.ints
  obtain ⟨xs, e⟩ := hi.allInts.items
  have hn : numsOf (intItems xs).toList = ns := by rw [← e]; exact hi.numsOf
  rw [nums_intItems] at hn
  have hl : s.heap.IsTuple a its.toArray := hl
  rw [e] at hl
  refine PySem.W.ktm_sumG (I.ok.hd hc) hl fun h' tk t' hk => ?_
  rw [preSum_eq, List.take_of_length_le (by simp), hn]
  exact ⟨.int _, H, I.kept hk, ⟨_, rfl⟩, q⟩
/-! ### the law's own choice (mathematics) -/
theorem filter_less {α : Type} {p q : α → Bool} (h : ∀ x, q x = true → p x = true) : ∀ {l : List α} {x : α}, x ∈ l → p x = true → q x = false → (l.filter q).length < (l.filter p).length
  | [], x, hx, _, _ => by simp at hx
  | y :: l, x, hx, hp, hq => by
    have le : ∀ l : List α, (l.filter q).length ≤ (l.filter p).length := fun l => by
      induction l with
      | nil => simp
      | cons z l ih =>
        rw [List.filter_cons, List.filter_cons]
        by_cases hz : q z = true
        · rw [if_pos hz, if_pos (h z hz)]
          simpa using ih
        · rw [if_neg hz]
          split
          · rw [List.length_cons]; omega
          · exact ih
    rcases List.mem_cons.mp hx with e | e
    · subst e
      rw [List.filter_cons, List.filter_cons, hp, hq]
      have := le l
      simp only [if_true, Bool.false_eq_true, if_false, List.length_cons]
      omega
    · have ih := filter_less h e hp hq
      rw [List.filter_cons, List.filter_cons]
      by_cases hy : q y = true
      · rw [if_pos hy, if_pos (h y hy)]
        simp only [List.length_cons]
        omega
      · rw [if_neg hy]
        split
        · rw [List.length_cons]; omega
        · exact ih
/-- places that have no entry yet -/
def lackN (n : Nat) (kvs : List (Key × V)) : Nat := ((rng n).filter fun x => (valV kvs (Sum.inl x : Key)).isNone).length
theorem lack_le (n : Nat) (kvs : List (Key × V)) : lackN n kvs ≤ n := by
  unfold lackN
  have := List.length_filter_le (fun x => (valV kvs (Sum.inl x : Key)).isNone) (rng n)
  rw [rng_length] at this
  exact this
theorem lack_put {n : Nat} {kvs : List (Key × V)} {x : Int} {v : V} (h0 : 0 ≤ x) (h1 : x < n) (h : valV kvs (Sum.inl x : Key) = none) : lackN n (putK kvs (Sum.inl x) v) < lackN n kvs := by
  unfold lackN
  refine filter_less (fun y hy => ?_) (mem_rng.mpr ⟨h0, h1⟩) (by rw [h]; rfl) (by rw [valV_put, if_pos rfl]; rfl)
  rw [valV_put] at hy
  split at hy
  · cases hy
  · exact hy
theorem putK_le (c : List (Key × V)) (k : Key) (x : V) : (putK c k x).length ≤ c.length + 1 := by
  unfold putK
  split
  · rw [List.length_map]; omega
  · rw [List.length_append]; simp
structure ChI (cs : List Tie) (n : Nat) (kvs : List (Key × V)) (D : Int → Prop) : Prop where
  rg : ∀ (x : Int) (v : V), valV kvs (Sum.inl x : Key) = some v → (0 ≤ x ∧ x < n) ∧ ∃ b m, v = .bl b ∧ leader cs m ∧ RP cs m x b
  cl : ∀ (x : Int) (b : Bool), valV kvs (Sum.inl x : Key) = some (.bl b) → ¬ D x → ∀ y f, Adj cs x y f → valV kvs (Sum.inl y : Key) = some (.bl (b ^^ f))
  few : kvs.length + lackN n kvs ≤ n
theorem ChI.nil (cs : List Tie) (n : Nat) : ChI cs n [] (fun _ => False) := ⟨(fun x v h => by cases h), (fun x b h => by cases h), by have := lack_le n []; simpa using this⟩
theorem ChI.put {cs : List Tie} {n : Nat} {kvs : List (Key × V)} {D D' : Int → Prop} (h : ChI cs n kvs D) {x : Int} {b : Bool} {m : Int} (hx : 0 ≤ x ∧ x < n) (no : valV kvs (Sum.inl x : Key) = none) (lm : leader cs m) (r : RP cs m x b) (dx : D' x) (sub : ∀ y, D y → D' y) : ChI cs n (putK kvs (Sum.inl x) (.bl b)) D' := by
  refine ⟨fun y v e => ?_, fun y c e ny z f ad => ?_, ?_⟩
  · rw [valV_put] at e
    split at e
    · rename_i ey
      cases ey
      cases e
      exact ⟨hx, b, m, rfl, lm, r⟩
    · exact h.rg y v e
  · rw [valV_put] at e ⊢
    split at e
    · rename_i ey
      cases ey
      exact absurd dx ny
    · have g := h.cl y c e (fun d => ny (sub y d)) z f ad
      split
      · rename_i ez
        cases ez
        rw [no] at g
        cases g
      · exact g
  · have h1 := putK_le kvs (Sum.inl x : Key) (.bl b)
    have h2 := lack_put (v := .bl b) hx.1 hx.2 no
    have := h.few
    omega
theorem ChI.mono {cs : List Tie} {n : Nat} {kvs : List (Key × V)} {D D' : Int → Prop} (h : ChI cs n kvs D) (sub : ∀ y, D y → D' y) : ChI cs n kvs D' := ⟨h.rg, fun x b e nx => h.cl x b e (fun d => nx (sub x d)), h.few⟩
theorem ChI.walk {cs : List Tie} {n : Nat} {kvs : List (Key × V)} (h : ChI cs n kvs (fun _ => False)) {x y : Int} {b p : Bool} (e : valV kvs (Sum.inl x : Key) = some (.bl b)) (r : RP cs x y p) : valV kvs (Sum.inl y : Key) = some (.bl (b ^^ p)) := by
  induction r with
  | nil => rw [Bool.xor_false]; exact e
  | step _ ad ih =>
    rw [← Bool.xor_assoc]
    exact h.cl _ _ ih (fun f => f) _ _ ad
theorem ChI.lead {cs : List Tie} {n : Nat} (ok : ∀ t ∈ cs, TieOk n t) {kvs : List (Key × V)} (h : ChI cs n kvs (fun _ => False)) {s : Nat} (hs : s < n) (all : ∀ x : Int, 0 ≤ x → x < s → valV kvs (Sum.inl x : Key) ≠ none) (no : valV kvs (Sum.inl (s : Int) : Key) = none) : leader cs s := by
  rw [lead_iff ok ⟨by omega, by omega⟩]
  rintro ⟨x, h0, h1, p, r⟩
  cases e : valV kvs (Sum.inl x : Key) with
  | none => exact all x h0 h1 e
  | some v =>
    obtain ⟨_, b, m, rfl, _⟩ := h.rg x v e
    have := h.walk e r
    rw [no] at this
    cases this
theorem ChI.odd {cs : List Tie} {n : Nat} (ok : ∀ t ∈ cs, TieOk n t) {kvs : List (Key × V)} {D : Int → Prop} (h : ChI cs n kvs D) {x y : Int} {b c f : Bool} (ex : valV kvs (Sum.inl x : Key) = some (.bl b)) (ey : valV kvs (Sum.inl y : Key) = some (.bl c)) (ad : Adj cs x y f) (ne : c ≠ (b ^^ f)) : Odd cs n := by
  obtain ⟨hx, b', m, e1, lm, r⟩ := h.rg x _ ex
  cases e1
  obtain ⟨hy, c', m', e2, lm', r'⟩ := h.rg y _ ey
  cases e2
  have r2 := RP.step r ad
  have em : m = m' := leader_one lm lm' ⟨_, r2⟩ ⟨_, r'⟩
  subst em
  have rr := (r2.symm).trans r'
  have e : ((b ^^ f) ^^ c) = true := by
    cases b <;> cases f <;> cases c <;> first | rfl | exact absurd rfl ne
  rw [e] at rr
  exact ⟨y, hy, rr⟩
def chS (kvs : List (Key × V)) (x : Int) : Int := if valV kvs (Sum.inl x : Key) = some (.bl true) then 1 else 0
theorem ChI.told {cs : List Tie} {n : Nat} (ok : ∀ t ∈ cs, TieOk n t) {kvs : List (Key × V)} (h : ChI cs n kvs (fun _ => False)) (all : ∀ x : Int, 0 ≤ x → x < n → valV kvs (Sum.inl x : Key) ≠ none) : Told cs n ((rng n).map (chS kvs)) ∧ Cons ((rng n).map (chS kvs)) cs := by
  have at' : ∀ {x : Int}, 0 ≤ x → x < n → ∃ b m, valV kvs (Sum.inl x : Key) = some (.bl b) ∧ leader cs m ∧ RP cs m x b ∧ chS kvs x = sideI b := fun {x} h0 h1 => by
    cases e : valV kvs (Sum.inl x : Key) with
    | none => exact absurd e (all x h0 h1)
    | some v =>
      obtain ⟨_, b, m, rfl, lm, r⟩ := h.rg x v e
      refine ⟨b, m, rfl, lm, r, ?_⟩
      unfold chS
      rw [e]
      cases b
      · rw [if_neg (by simp)]; rfl
      · rw [if_pos rfl]; rfl
  have sdm : ∀ {i : Int}, 0 ≤ i → i < n → sd ((rng n).map (chS kvs)) i = chS kvs i := fun {i} h0 h1 => by
    unfold sd rng
    rw [List.getD_eq_getElem?_getD, List.map_map, List.getElem?_map, List.getElem?_range (by omega)]
    show chS kvs ((i.toNat : Nat) : Int) = chS kvs i
    rw [show ((i.toNat : Nat) : Int) = i from by omega]
  have tl : Told cs n ((rng n).map (chS kvs)) := by
    refine told_of (by rw [List.length_map, rng_length]) fun i x hx => ?_
    have hi : i < n := by
      have := (List.getElem?_eq_some_iff.mp hx).1
      rw [List.length_map, rng_length] at this
      exact this
    have e : x = chS kvs i := by
      unfold rng at hx
      rw [List.map_map, List.getElem?_map, List.getElem?_range hi] at hx
      exact (Option.some.inj hx).symm
    obtain ⟨b, m, _, lm, r, e2⟩ := at' (x := (i : Int)) (by omega) (by omega)
    exact ⟨m, b, lm, r, by rw [e, e2]⟩
  refine ⟨tl, fun t ht => ?_⟩
  have okt := ok t ht
  obtain ⟨b, m, eb, _, _, e2⟩ := at' okt.1 okt.2.1
  have ec := h.cl _ b eb (fun f => f) t.other t.foe ⟨t, ht, rfl, .inl ⟨rfl, rfl⟩⟩
  obtain ⟨c, m', ec', _, _, e3⟩ := at' okt.2.2.1 okt.2.2.2.1
  rw [ec] at ec'
  cases ec'
  unfold brk
  rw [sdm okt.1 okt.2.1, sdm okt.2.2.1 okt.2.2.2.1, e2, e3]
  cases b <;> cases t.foe <;> rfl
theorem onesTo_ch (kvs : List (Key × V)) (n k : Nat) (hk : k ≤ n) : onesTo ((rng n).map (chS kvs)) k = (rng k).filter fun x => decide (valV kvs (Sum.inl x : Key) = some (.bl true)) := by
  unfold onesTo
  refine List.filter_congr fun i hi => ?_
  have hi := mem_rng.mp hi
  have e : sd ((rng n).map (chS kvs)) i = chS kvs i := by
    unfold sd rng
    rw [List.getD_eq_getElem?_getD, List.map_map, List.getElem?_map, List.getElem?_range (by omega)]
    show chS kvs ((i.toNat : Nat) : Int) = chS kvs i
    rw [show ((i.toNat : Nat) : Int) = i from by omega]
  rw [e]
  unfold chS
  split
  · rename_i h
    rw [h]
    rfl
  · rename_i h
    rw [decide_eq_false h]
    rfl
/-! ### k26: the law's own choice -/
def spChoice : Sp := fun vs H Q _ => ∃ (v u : V) (n : Nat) (ts us : List Tie), vs = [v, u] ∧ WebAt H v n ts ∧ WebAt H u n us ∧ us.length = ts.length ∧ WebOk n ts ∧
  (∀ ss r H', Told (betw ts us) n ss → Cons ss (betw ts us) → Same H H' → NoD H' r ((onesTo ss n).map V.int) → Q (.ref r) H') ∧ (∀ H', Odd (betw ts us) n → Same H H' → Q .non H')
theorem ne_due (b : Bool) (f g : Bool) : (!decide (V.bl b = V.bl (!decide (V.str (kindS f) = V.str (kindS g))))) = (b ^^ (f ^^ g)) := by cases b <;> cases f <;> cases g <;> decide
section
variable {P : Program} {w : World} {K : PySem.W.Frag} {mg : Str → Option Value} {base : Heap}
set_option maxHeartbeats 2000000 in
theorem ok_l_choice {f : Addr} {fd : FuncData} (F : Fun K "_law_choice" "_law_choice" s_l_choice f fd) (M : Free mg) (m_zip : mg "zip" = none) : FnOk P w K mg base CX0 1 f fd ["_law_one", "_law_other_here"] spChoice := by
  refine F.ok sc_l_choice (fun vs H Q E h => ?_) (fun cdv A outer s H vs Q E hr h => ?_)
  · obtain ⟨v, u, n, ts, us, rfl, _⟩ := h
    rfl
  · obtain ⟨v, u, n, ts, us, rfl, hW, hU, ll, ok, q, qn⟩ := h
    have hu := room1 hr
    refine ⟨_, (pss_cons (ps_set (i := 2) sc_l_choice.nd rfl (.inr rfl) pe_dnewK)
      (pss_cons (ps_for PassesOwn.never rfl (pi_range1 (by rfl) M.range (pa_cons (pe_ix ix_tup (pv 0) pe_int (fun _ _ => rfl)) pa_nil)) (pg_name (i := 3) sc_l_choice.nd rfl (.inl rfl))
        (pss_cons (ps_set (i := 4) sc_l_choice.nd rfl (.inl rfl) (pe_lst pa_nil))
        (Evl.pss_cut (ps_if (pt_cmp (pc_dnotin hu (pv 3) (pv 2)))
          (pss_cons (ps_dput hu (pv 2) (pv 3) pe_bl rfl)
          (pss_one (ps_expr (pe_bm PySem.F.plainAttrs_list PySem.F.slot_list_append PySem.F.type_list_append mt_append (pv 4) (pa_cons (pv 3) pa_nil)))))
          pss_nil)
        (pss_one (ps_while PassesOwn.never (pt_cmpR (op_neE hr.units0) (pv 4) (pe_lst pa_nil) (nomark _))
          (pss_cons (ps_set (i := 5) sc_l_choice.nd rfl (.inl rfl) (pe_bm0 PySem.F.plainAttrs_list PySem.F.slot_list_pop PySem.F.type_list_pop mt_pop (pv 4)))
          (pss_one (ps_for PassesOwn.never rfl (RZ.pi_zipA (by rfl) m_zip (pa_cons (pe_ix ix_tup (pv 0) pe_int (fun _ _ => rfl)) (pa_cons (pe_ix ix_tup (pv 1) pe_int (fun _ _ => rfl)) pa_nil))) (pg_tup rfl (pgs_cons (pg_name (i := 6) sc_l_choice.nd rfl (.inl rfl)) (pgs_cons (pg_name (i := 7) sc_l_choice.nd rfl (.inl rfl)) pgs_nil)))
            (pss_one (ps_if (pt_cmpR op_in_seq (pv 5) (pe_slice sl_tupU (pv 6) po_none (po_some pe_int)) rfl)
              (pss_cons (ps_set (i := 8) sc_l_choice.nd rfl (.inl rfl) (pe_op op_sub (pe_callB (cr_sumTI rfl) (by rfl) M.sum (by decide +kernel) (pa_cons (pe_slice sl_tupU (pv 6) po_none (po_some pe_int)) pa_nil)) (pv 5)))
              (pss_cons (ps_set (i := 9) sc_l_choice.nd rfl (.inl rfl) (pe_cmpR op_ne (pe_dget hu (pv 2) (pv 5) (fun _ _ => rfl)) (pe_cmpR op_ne (pe_ix ix_tup (pv 6) pe_int (fun _ _ => rfl)) (pe_ix ix_tup (pv 7) pe_int (fun _ _ => rfl)) (nomark _)) (nomark _)))
              (pss_cons (ps_if (pt_cmpR op_ne (pe_dget2 hu (pv 2) (pv 8) (pv 9) ⟨rfl, rfl, rfl, rfl⟩) (pv 9) (nomark _))
                (pss_one (ps_ret pe_non))
                pss_nil)
              (pss_one (ps_if (pt_cmp (pc_dnotin hu (pv 8) (pv 2)))
                (pss_cons (ps_dput hu (pv 2) (pv 8) (pv 9) rfl)
                (pss_one (ps_expr (pe_bm PySem.F.plainAttrs_list PySem.F.slot_list_append PySem.F.type_list_append mt_append (pv 4) (pa_cons (pv 8) pa_nil)))))
                pss_nil)))))
              pss_nil))))))))))
      (pss_one (ps_ret (pe_callTy call_tuple_ofZ (by rfl) M.tuple (by decide +kernel) (pa_cons (pe_lc (own := [("_law_place", 10)]) (g := (gName 10)) (te := tVar 10) rfl sc_l_choice.nd (pi_range1 (by rfl) M.range (pa_cons (pe_ix ix_tup (pv 0) pe_int (fun _ _ => rfl)) pa_nil)) (blkOk_by (N := N_l_choice) (sc := defScope s_l_choice) (own := [("_law_place", 10)]) (by decide +kernel)) (fun _ _ _ _ _ => (pg_name (i := 10) sc_l_choice.nd rfl (.inl rfl))) (fun _ _ _ _ _ => (pts_one (pt_val (pe_dget hu (pv 2) (pv 10) (fun _ _ => rfl))))) (fun _ _ _ _ _ => (pv 10))) pa_nil)))))), ?_⟩
    obtain ⟨wa, wb, xs, rfl, hwa, hwb, hp⟩ := hW
    obtain ⟨va, vb, ys, rfl, hva, hvb, hp'⟩ := hU
    have lx : xs.length = ts.length := Paired.length hp
    have ly : ys.length = us.length := Paired.length hp'
    have n1 := ok.lo
    have n40 := ok.hi
    have few := ok.few
    have okc : ∀ t ∈ betw ts us, TieOk n t := betw_ok ok.ok
    generalize hcs : betw ts us = cs at q qn okc
    refine fun D nD => ?_
    have sD := same_new (o := .dK []) nD
    refine ⟨.ref wa, rfl, wa, _, 0, .int n, rfl, rfl, SqT.of (sD _ _ hwa), rfl, n, rfl, by omega, by omega, ?_⟩
    rw [Int.toNat_natCast]
    refine for_range (lo := 0) (n := n) (fun i σ' H' => ∃ (y3 y4 y5 y6 y7 y8 y9 : Option V) (kvs : List (Key × V)), σ' = [some (.ref wa), some (.ref va), some (.ref D), y3, y4, y5, y6, y7, y8, y9, none] ∧ H' D = some (.dK kvs) ∧ ChI cs n kvs (fun _ => False) ∧ (∀ x : Int, 0 ≤ x → x < (i : Int) → valV kvs (Sum.inl x : Key) ≠ none) ∧ Same H H') ⟨none, none, none, none, none, none, none, [], rfl, upd_same, ChI.nil cs n, fun x h0 h1 => by omega, sD⟩ ?_ ?_
    · rintro i σ' H1 hi ⟨y3, y4, y5, y6, y7, y8, y9, kvs, rfl, hD, ch, all, s1⟩
      rw [show (0 : Int) + (i : Nat) = i from by omega]
      refine ⟨Nat.zero_le _, fun C nC => ?_⟩
      have nC0 : H C = none := s1.free nC
      have hD2 := same_new (o := .lst []) nC _ _ hD
      have hC2 := upd_same (H := H1) (a := C) (o := .lst [])
      have s2 := s1.trans (same_new (o := .lst []) nC)
      have hCD : C ≠ D := fun z => by rw [z, hD] at nC; cases nC
      generalize upd H1 C (.lst []) = H2 at hD2 hC2 s2
      refine ⟨fun σ' H' => ∃ (kvs : List (Key × V)) (come : List Int), σ' = [some (.ref wa), some (.ref va), some (.ref D), some (.int i), some (.ref C), y5, y6, y7, y8, y9, none] ∧ H' D = some (.dK kvs) ∧ H' C = some (.lst (come.map V.int)) ∧ ChI cs n kvs (· ∈ come) ∧ come.length + lackN n kvs ≤ n ∧ (∀ x ∈ come, valV kvs (Sum.inl x : Key) ≠ none) ∧ (∀ x : Int, 0 ≤ x → x < ((i + 1 : Nat) : Int) → valV kvs (Sum.inl x : Key) ≠ none) ∧ Same H H', ?_, ?_⟩
      · refine ⟨.int i, rfl, .ref D, rfl, D, _, rfl, DGet.k (k := Sum.inl (i : Int)) hD2, _, rfl, ?_⟩
        cases e : valV kvs (Sum.inl (i : Int) : Key) with
        | some v =>
          refine ⟨kvs, [], rfl, hD2, hC2, ch.mono (fun _ h => h.elim), by have := lack_le n kvs; simpa using this, fun x hx => by simp at hx, fun x h0 h1 => ?_, s2⟩
          by_cases ex : x = (i : Int)
          · rw [ex, e]; simp
          · exact all x h0 (by omega)
        | none =>
          have lm := ch.lead okc hi all e
          have fw := ch.few
          refine ⟨.ref D, rfl, .int i, rfl, D, _, rfl, DPut.k (k := Sum.inl (i : Int)) hD2 (small1000 (show kvs.length ≤ 1000 by omega)), ?_⟩
          have hC3 : (upd H2 D (.dK (putK kvs (Sum.inl (i : Int)) (.bl false)))) C = some (.lst []) := by rw [upd_ne hCD]; exact hC2
          refine ⟨.ref C, rfl, .inl ⟨rfl, _, SqL.of hC3⟩, .int i, rfl, C, _, _, rfl, rfl, hC3, by show 0 < sizeLine; decide, ?_⟩
          have lp := lack_put (n := n) (v := .bl false) (x := (i : Int)) (by omega) (by omega) e
          refine ⟨putK kvs (Sum.inl (i : Int)) (.bl false), [(i : Int)], rfl, by rw [upd_ne (Ne.symm hCD)]; exact upd_same, by rw [upd_same]; rfl, ch.put ⟨by omega, by omega⟩ e lm .nil (by simp) (fun _ h => h.elim), by simp only [List.length_cons, List.length_nil]; have := lack_le n kvs; omega, fun x hx => ?_, fun x h0 h1 => ?_, ?_⟩
          · rw [List.mem_singleton.mp hx, valV_put, if_pos rfl]
            simp
          · rw [valV_put]
            split
            · simp
            · rename_i ne
              exact all x h0 (by
                have : x ≠ (i : Int) := fun z => ne (by rw [z])
                omega)
          · refine Same.mut (fun b o eb => ?_) nC0
            rw [upd_ne (fun z => by rw [z, nD] at eb; cases eb)]
            exact s2 _ _ eb
      clear hD2 hC2 s2 hD ch all s1
      rintro σ' H3 ⟨kvs, come, rfl, hD3, hC3, ch3, few3, key3, all3, s3⟩
      refine ⟨fun m σ' H' => ∃ (y5 y6 y7 y8 y9 : Option V) (kvs : List (Key × V)) (come : List Int), σ' = [some (.ref wa), some (.ref va), some (.ref D), some (.int i), some (.ref C), y5, y6, y7, y8, y9, none] ∧ H' D = some (.dK kvs) ∧ H' C = some (.lst (come.map V.int)) ∧ ChI cs n kvs (· ∈ come) ∧ come.length + lackN n kvs ≤ n ∧ (∀ x ∈ come, valV kvs (Sum.inl x : Key) ≠ none) ∧ (∀ x : Int, 0 ≤ x → x < ((i + 1 : Nat) : Int) → valV kvs (Sum.inl x : Key) ≠ none) ∧ Same H H' ∧ m = 2 * lackN n kvs + come.length, ⟨_, _, _, _, _, _, kvs, come, rfl, hD3, hC3, ch3, few3, key3, all3, s3, rfl⟩, ?_⟩
      clear hD3 hC3 ch3 few3 key3 all3 s3
      rintro m σ' H4 ⟨y5, y6, y7, y8, y9, kvs, come, rfl, hD4, hC4, ch4, few4, key4, all4, s4, hm⟩
      refine ⟨.ref C, rfl, Nat.zero_le _, fun e1 ne1 => ⟨C, e1, _, rfl, rfl, SqL.of (same_new ne1 _ _ hC4), SqL.of upd_same, _, rfl, ?_⟩⟩
      have hD5 := same_new (o := .lst []) ne1 _ _ hD4
      have hC5 := same_new (o := .lst []) ne1 _ _ hC4
      have s5 := s4.trans (same_new (o := .lst []) ne1)
      generalize upd H4 e1 (.lst []) = H5 at hD5 hC5 s5
      clear hD4 hC4 s4 ne1
      refine ite2 (fun hb => ?_) (fun hb => ?_)
      · cases hwl : come with
        | nil => rw [hwl] at hb; cases hb
        | cons z zs =>
        obtain ⟨wl, p, ep⟩ : ∃ (wl : List Int) (p : Int), z :: zs = wl ++ [p] := ⟨(z :: zs).dropLast, (z :: zs).getLast (by simp), (List.dropLast_concat_getLast (by simp)).symm⟩
        rw [hwl, ep] at hC5 ch4 few4 key4 hm
        have e3 : ((wl ++ [p]).map V.int).dropLast = wl.map V.int := by simp
        obtain ⟨bh, eh⟩ : ∃ b, valV kvs (Sum.inl p : Key) = some (.bl b) := by
          cases e : valV kvs (Sum.inl p : Key) with
          | none => exact absurd e (key4 p (by simp))
          | some v =>
            obtain ⟨_, b, m, rfl, _⟩ := ch4.rg p v e
            exact ⟨b, rfl⟩
        refine ⟨fun σ' H' => ∃ m', m' < m ∧ ∃ (y5 y6 y7 y8 y9 : Option V) (kvs : List (Key × V)) (come : List Int), σ' = [some (.ref wa), some (.ref va), some (.ref D), some (.int i), some (.ref C), y5, y6, y7, y8, y9, none] ∧ H' D = some (.dK kvs) ∧ H' C = some (.lst (come.map V.int)) ∧ ChI cs n kvs (· ∈ come) ∧ come.length + lackN n kvs ≤ n ∧ (∀ x ∈ come, valV kvs (Sum.inl x : Key) ≠ none) ∧ (∀ x : Int, 0 ≤ x → x < ((i + 1 : Nat) : Int) → valV kvs (Sum.inl x : Key) ≠ none) ∧ Same H H' ∧ m' = 2 * lackN n kvs + come.length, fun _ _ h => h, ?_⟩
        refine ⟨.ref C, rfl, .inl ⟨rfl, _, SqL.of hC5⟩, C, _, .int p, rfl, rfl, hC5, by simp, ?_⟩
        rw [e3]
        have hD6 : (upd H5 C (.lst (wl.map V.int))) D = some (.dK kvs) := by rw [upd_ne (Ne.symm hCD)]; exact hD5
        have hC6 : (upd H5 C (.lst (wl.map V.int))) C = some (.lst (wl.map V.int)) := upd_same
        have s6 : Same H (upd H5 C (.lst (wl.map V.int))) := Same.mut s5 nC0
        generalize upd H5 C (.lst (wl.map V.int)) = H6 at hD6 hC6 s6
        rw [List.length_append] at few4 hm
        simp only [List.length_cons, List.length_nil] at few4 hm
        refine ⟨.ref wa, rfl, wa, _, 1, .ref wb, rfl, rfl, SqT.of (s6 _ _ hwa), rfl, .ref va, rfl, va, _, 1, .ref vb, rfl, rfl, SqT.of (s6 _ _ hva), rfl, wb, vb, xs, ys, rfl, .inr ⟨SqT.of (s6 _ _ hwb), SqT.of (s6 _ _ hvb), ?_⟩⟩
        refine for_it (walk_zipT (xs := xs) (ys := ys) (n := xs.length) (by omega)) (fun j σ' H' => ∃ (y6 y7 y8 y9 : Option V) (kvs : List (Key × V)) (wl : List Int), σ' = [some (.ref wa), some (.ref va), some (.ref D), some (.int i), some (.ref C), some (.int p), y6, y7, y8, y9, none] ∧ H' D = some (.dK kvs) ∧ H' C = some (.lst (wl.map V.int)) ∧ ChI cs n kvs (fun x => x ∈ wl ∨ x = p) ∧ wl.length + 1 + lackN n kvs ≤ n ∧ (∀ x ∈ wl, valV kvs (Sum.inl x : Key) ≠ none) ∧ (∀ x : Int, 0 ≤ x → x < ((i + 1 : Nat) : Int) → valV kvs (Sum.inl x : Key) ≠ none) ∧ Same H H' ∧ 2 * lackN n kvs + wl.length < m ∧ valV kvs (Sum.inl p : Key) = some (.bl bh) ∧ ∀ (k : Nat) (c : Tie) (y : Int), k < j → cs[k]? = some c → ((c.one = p ∧ c.other = y) ∨ (c.one = y ∧ c.other = p)) → valV kvs (Sum.inl y : Key) = some (.bl (bh ^^ c.foe))) ⟨_, _, _, _, kvs, wl, rfl, hD6, hC6, ch4.mono (fun x hx => by
          rcases List.mem_append.mp hx with h | h
          · exact .inl h
          · exact .inr (List.mem_singleton.mp h)), by omega, fun x hx => key4 x (List.mem_append_left _ hx), all4, s6, by omega, eh, fun k c y hk => absurd hk (Nat.not_lt_zero _)⟩ (fun j σ' H' _ h => by
          obtain ⟨_, _, _, _, _, _, _, _, _, _, _, _, _, s7, _⟩ := h
          exact ⟨SqT.of (s7 _ _ hwb), SqT.of (s7 _ _ hvb)⟩) ?_ ?_
        · clear hD6 hC6 s6 hD5 hC5 s5 ch4 few4 key4 all4 eh hm
          rintro j x σ' H7 H8 hj ⟨y6, y7, y8, y9, kvs, wl, rfl, hD7, hC7, ch, fw, key, all, s7, lt, eh, cl⟩ ⟨T, x1, y1, rfl, nT, rfl, gx, gy⟩
          obtain ⟨t, et, a, rfl, ha⟩ := Paired.at hp gx
          obtain ⟨u, eu, b, rfl, hb⟩ := Paired.at hp' gy
          have ec : cs[j]? = some (xorT (t, u)) := by rw [← hcs]; exact betw_get et eu
          have okt := ok.ok t (List.mem_of_getElem? et)
          have s8 := s7.trans (same_new (o := .tup [.ref a, .ref b]) nT)
          have hD8 := same_new (o := .tup [.ref a, .ref b]) nT _ _ hD7
          have hC8 := same_new (o := .tup [.ref a, .ref b]) nT _ _ hC7
          have ha8 := s8 _ _ ha
          have hb8 := s8 _ _ hb
          refine ⟨T, _, rfl, SqT.of upd_same, rfl, _, _, rfl, _, _, rfl, rfl, ?_⟩
          generalize upd H7 T (.tup [.ref a, .ref b]) = H8 at hD8 hC8 s8 ha8 hb8
          clear hD7 hC7 s7
          have ec2 : cutV [V.int t.one, V.int t.other, V.str (kindS t.foe)] none (some 2) = [t.one, t.other].map V.int := rfl
          refine ⟨.int p, rfl, .ref a, rfl, 2, rfl, a, _, rfl, ha8, fun r H9 s9 h9 => ?_⟩
          rw [ec2] at h9
          refine ⟨r, _, rfl, .inr (SqT.of h9), rfl, flat_ints _, _, rfl, ?_⟩
          have s89 := s8.trans s9
          have hD9 := s9 _ _ hD8
          have hC9 := s9 _ _ hC8
          rw [show inV (.int p) ([t.one, t.other].map V.int) = (t.one == p || t.other == p) from in_two p _ _]
          -- the other end
          have step : ∀ {kvs' : List (Key × V)}, (∀ (k : Nat) (c : Tie) (y : Int), k < j → cs[k]? = some c → ((c.one = p ∧ c.other = y) ∨ (c.one = y ∧ c.other = p)) → valV kvs' (Sum.inl y : Key) = some (.bl (bh ^^ c.foe))) → (∀ y : Int, ((t.one = p ∧ t.other = y) ∨ (t.one = y ∧ t.other = p)) → valV kvs' (Sum.inl y : Key) = some (.bl (bh ^^ (t.foe ^^ u.foe)))) → ∀ (k : Nat) (c : Tie) (y : Int), k < j + 1 → cs[k]? = some c → ((c.one = p ∧ c.other = y) ∨ (c.one = y ∧ c.other = p)) → valV kvs' (Sum.inl y : Key) = some (.bl (bh ^^ c.foe)) := fun old new k c y hk e1 e2 => by
            by_cases ek : k = j
            · subst ek
              rw [ec] at e1
              cases e1
              exact new y e2
            · exact old k c y (by omega) e1 e2
          cases hin : (t.one == p || t.other == p) with
          | false =>
            rw [Bool.or_eq_false_iff, beq_eq_false_iff_ne, beq_eq_false_iff_ne] at hin
            refine ⟨_, _, _, _, kvs, wl, rfl, hD9, hC9, ch, fw, key, all, s89, lt, eh, step cl fun y h => ?_⟩
            rcases h with ⟨h1, _⟩ | ⟨_, h2⟩
            · exact absurd h1 hin.1
            · exact absurd h2 hin.2
          | true =>
            rw [Bool.or_eq_true, beq_iff_eq, beq_iff_eq] at hin
            refine ⟨.ref a, rfl, 2, rfl, a, _, rfl, s9 _ _ ha8, fun r2 H10 s10 h10 => ?_⟩
            rw [ec2] at h10
            have s90 := s89.trans s10
            have hD10 := s10 _ _ hD9
            have hC10 := s10 _ _ hC9
            have ha10 := s10 _ _ (s9 _ _ ha8)
            have hb10 := s10 _ _ (s9 _ _ hb8)
            obtain ⟨y, ey, jy, hy⟩ : ∃ y : Int, [t.one, t.other].sum - p = y ∧ ((t.one = p ∧ t.other = y) ∨ (t.one = y ∧ t.other = p)) ∧ (0 ≤ y ∧ y < n) := by
              have es : [t.one, t.other].sum = t.one + t.other := by simp
              rcases hin with h | h
              · exact ⟨t.other, by rw [es]; omega, .inl ⟨h, rfl⟩, okt.2.2.1, okt.2.2.2.1⟩
              · exact ⟨t.one, by rw [es]; omega, .inr ⟨rfl, h⟩, okt.1, okt.2.1⟩
            have uy : ∀ y', ((t.one = p ∧ t.other = y') ∨ (t.one = y' ∧ t.other = p)) → y' = y := fun y' h => by
              have ne := okt.2.2.2.2
              rcases h with ⟨h1, h2⟩ | ⟨h1, h2⟩ <;> rcases jy with ⟨g1, g2⟩ | ⟨g1, g2⟩ <;> omega
            have ady : Adj cs p y (t.foe ^^ u.foe) := ⟨xorT (t, u), List.mem_of_getElem? ec, rfl, jy⟩
            refine ⟨r2, _, rfl, SqT.of h10, .int p, rfl, _, p, rfl, rfl, ?_⟩
            show (tSeq _ _ : L2.TS) _ [some (.ref wa), some (.ref va), some (.ref D), some (.int i), some (.ref C), some (.int p), some (.ref a), some (.ref b), some (.int ([t.one, t.other].sum - p)), y9, none] H10
            rw [ey]
            have gp : DGet H10 D (.int p) (some (.bl bh)) := by
              rw [← eh]
              exact DGet.k (k := Sum.inl p) hD10
            refine ⟨.ref D, rfl, .int p, rfl, D, .bl bh, rfl, gp, .ref a, rfl, a, _, 2, _, rfl, rfl, SqT.of ha10, rfl, .ref b, rfl, b, _, 2, _, rfl, rfl, SqT.of hb10, rfl, rfl, rfl, ?_⟩
            rw [ne_due]
            generalize hdue : (bh ^^ (t.foe ^^ u.foe)) = due
            have gy' := DGet.k (k := (Sum.inl y : Key)) hD10
            have gl := ch.few
            cases e : valV kvs (Sum.inl y : Key) with
            | some v =>
              obtain ⟨_, c, mm, rfl, _⟩ := ch.rg y v e
              rw [e] at gy'
              refine ⟨.ref D, rfl, D, rfl, .inl ⟨_, .inl hD10⟩, .int y, rfl, .bl due, rfl, _, gy', .bl due, rfl, rfl, _, rfl, ?_⟩
              by_cases ecd : c = due
              · subst ecd
                have e1 : (!decide ((some (V.bl c)).getD (.bl c) = V.bl c)) = false := by cases c <;> rfl
                rw [e1]
                refine ⟨.int y, rfl, .ref D, rfl, D, _, rfl, gy', _, rfl, ?_⟩
                refine ⟨_, _, _, _, kvs, wl, rfl, hD10, hC10, ch, fw, key, all, s90, lt, eh, step cl fun y' h => ?_⟩
                rw [uy y' h, e, hdue]
              · have e1 : (!decide ((some (V.bl c)).getD (.bl due) = V.bl due)) = true := by cases c <;> cases due <;> first | rfl | exact absurd rfl ecd
                rw [e1]
                exact qn _ (ch.odd okc eh e ady (by rw [hdue]; exact ecd)) s90
            | none =>
              rw [e] at gy'
              refine ⟨.ref D, rfl, D, rfl, .inl ⟨_, .inl hD10⟩, .int y, rfl, .bl due, rfl, _, gy', .bl due, rfl, rfl, _, rfl, ?_⟩
              have e1 : (!decide ((none : Option V).getD (.bl due) = V.bl due)) = false := by cases due <;> rfl
              rw [e1]
              refine ⟨.int y, rfl, .ref D, rfl, D, _, rfl, gy', _, rfl, ?_⟩
              obtain ⟨_, b0, mm, eb0, lm, rp0⟩ := ch.rg p _ eh
              cases eb0
              have rpy := RP.step rp0 ady
              rw [hdue] at rpy
              have lp := lack_put (n := n) (v := .bl due) hy.1 hy.2 e
              refine ⟨.bl due, rfl, .ref D, rfl, .int y, rfl, D, _, rfl, DPut.k (k := Sum.inl y) hD10 (small1000 (show kvs.length ≤ 1000 by omega)), ?_⟩
              have hC11 : (upd H10 D (.dK (putK kvs (Sum.inl y) (.bl due)))) C = some (.lst (wl.map V.int)) := by rw [upd_ne hCD]; exact hC10
              have yp : y ≠ p := fun z => by rw [z, eh] at e; cases e
              have hput : ∀ z : Int, valV kvs (Sum.inl z : Key) ≠ none → valV (putK kvs (Sum.inl y) (.bl due)) (Sum.inl z : Key) ≠ none := fun z hz => by
                rw [valV_put]
                split
                · simp
                · exact hz
              refine ⟨.ref C, rfl, .inl ⟨rfl, _, SqL.of hC11⟩, .int y, rfl, C, _, _, rfl, rfl, hC11, by rw [List.length_map]; exact small1000 (by omega), ?_⟩
              refine ⟨_, _, _, _, putK kvs (Sum.inl y) (.bl due), wl ++ [y], rfl, by rw [upd_ne (Ne.symm hCD)]; exact upd_same, by rw [upd_same, List.map_append]; rfl, ch.put hy e lm rpy (.inl (by simp)) (fun z h => ?_), by rw [List.length_append]; simp only [List.length_cons, List.length_nil]; omega, fun z hz => ?_, fun z h0 h1 => hput z (all z h0 h1), Same.mut (fun b' o' eb' => ?_) nC0, by rw [List.length_append]; simp only [List.length_cons, List.length_nil]; omega, ?_, step (fun k c y' hk e2 e3 => ?_) fun y' h => ?_⟩
              · rcases h with h | h
                · exact .inl (List.mem_append_left _ h)
                · exact .inr h
              · rcases List.mem_append.mp hz with h | h
                · exact hput z (key z h)
                · rw [List.mem_singleton.mp h, valV_put, if_pos rfl]
                  simp
              · rw [upd_ne (fun z => by rw [z, nD] at eb'; cases eb')]
                exact s90 _ _ eb'
              · rw [valV_put, if_neg (fun z => yp (by cases z; rfl))]
                exact eh
              · have g := cl k c y' hk e2 e3
                rw [valV_put]
                split
                · rename_i z
                  rw [z, e] at g
                  cases g
                · exact g
              · rw [uy y' h, valV_put, if_pos rfl, hdue]
        · rintro σ' H7 ⟨y6, y7, y8, y9, kvs, wl, rfl, hD7, hC7, ch, fw, key, all, s7, lt, eh, cl⟩
          refine ⟨_, lt, _, _, _, _, _, kvs, wl, rfl, hD7, hC7, ⟨ch.rg, fun x b e nx y f ad => ?_, ch.few⟩, by omega, key, all, s7, rfl⟩
          by_cases ex : x = p
          · subst ex
            rw [eh] at e
            cases e
            obtain ⟨c, hc, rfl, jc⟩ := ad
            obtain ⟨k, hk⟩ := List.getElem?_of_mem hc
            have kl : k < cs.length := (List.getElem?_eq_some_iff.mp hk).1
            have lcs : cs.length = ts.length := by rw [← hcs]; exact betw_len ll
            exact cl k c y (by omega) hk jc
          · exact ch.cl x b e (fun h => h.elim nx ex) y f ad
      · have hwl : come = [] := by
          cases come with
          | nil => rfl
          | cons z zs => exact absurd rfl hb
        subst hwl
        exact ⟨_, _, _, _, _, _, _, kvs, rfl, hD5, ch4.mono (fun _ h => by simp at h), all4, s5⟩
    · rintro σ' H1 ⟨y3, y4, y5, y6, y7, y8, y9, kvs, rfl, hD, ch, all, s1⟩
      obtain ⟨tl, cons⟩ := ch.told okc all
      refine ⟨.ref wa, rfl, wa, _, 0, .int n, rfl, rfl, SqT.of (s1 _ _ hwa), rfl, n, rfl, by omega, by omega, fun Z nZ => ?_⟩
      rw [Int.toNat_natCast]
      have hD2 := same_new (o := .lst []) nZ _ _ hD
      refine lc_range (lo := 0) (n := n) (fun j H' => H' Z = some (.lst ((onesTo ((rng n).map (chS kvs)) j).map V.int)) ∧ H' D = some (.dK kvs) ∧ Same H1 H') ⟨upd_same, hD2, same_new nZ⟩ ?_ ?_
      · rintro j H2 hj ⟨hZ, hD3, s2⟩
        rw [show (0 : Int) + (j : Nat) = j from by omega]
        have lo := onesTo_len ((rng n).map (chS kvs)) j
        obtain ⟨b, eb⟩ : ∃ b, valV kvs (Sum.inl (j : Int) : Key) = some (.bl b) := by
          cases e : valV kvs (Sum.inl (j : Int) : Key) with
          | none => exact absurd e (all j (by omega) (by omega))
          | some v =>
            obtain ⟨_, b, m, rfl, _⟩ := ch.rg _ v e
            exact ⟨b, rfl⟩
        have gj : DGet H2 D (.int j) (some (.bl b)) := by
          rw [← eb]
          exact DGet.k (k := Sum.inl (j : Int)) hD3
        refine ⟨rfl, .ref D, rfl, .int j, rfl, D, .bl b, rfl, gj, b, rfl, ?_⟩
        have sdj : sd ((rng n).map (chS kvs)) (j : Int) = chS kvs j := by
          unfold sd rng
          rw [List.getD_eq_getElem?_getD, List.map_map, List.getElem?_map, List.getElem?_range (by omega)]
          rfl
        have st : onesTo ((rng n).map (chS kvs)) (j + 1) = onesTo ((rng n).map (chS kvs)) j ++ (if b = true then [(j : Int)] else []) := by
          rw [onesTo_succ, sdj]
          unfold chS
          rw [eb]
          cases b
          · rw [if_neg (by simp)]; rfl
          · rw [if_pos rfl]; rfl
        rw [st, List.map_append]
        have nZD : Z ≠ D := fun z => by rw [z, hD] at nZ; cases nZ
        cases b with
        | true => exact ⟨.int j, rfl, _, hZ, by rw [List.length_map]; exact small1000 (by omega), upd_same, by rw [upd_ne (Ne.symm nZD)]; exact hD3, Same.mut s2 nZ⟩
        | false =>
          simp only [Bool.false_eq_true, if_false, List.map_nil, List.append_nil]
          exact ⟨hZ, hD3, s2⟩
      · rintro H2 ⟨hZ, _, s2⟩
        refine ⟨Z, _, rfl, SqL.of hZ, fun r o od nr => ?_⟩
        exact q _ r _ tl cons ((s1.trans s2).trans (same_new nr)) ⟨o, od, upd_same⟩
end
/-! ### k26: another web of the frame -/
theorem framedI_snoc {ts us : List Tie} {i : Nat} {t u : Tie} (h : framedI (ts.take i) us = true) (hl : us.length = i) (et : ts[i]? = some t) (j : joinB t u.one u.other = true) : framedI (ts.take (i + 1)) (us ++ [u]) = true := by
  have hi : i < ts.length := (List.getElem?_eq_some_iff.mp et).1
  unfold framedI at h ⊢
  rw [List.take_add_one, et, List.zip_append (by rw [List.length_take]; omega), List.all_append, h]
  rw [Bool.true_and]
  show ([(t, u)].all fun p => joinB p.1 p.2.one p.2.other) = true
  simpa using j
theorem pick_kind {v : Int} (h0 : 0 ≤ v) (h1 : v < 2) : ∃ fo : Bool, atI [V.str "friend", V.str "foe"] v = some (.str (kindS fo)) := by
  have h01 : v = 0 ∨ v = 1 := by omega
  rcases h01 with e | e <;> subst e
  · exact ⟨false, rfl⟩
  · exact ⟨true, rfl⟩
def SameE (ts us : List Tie) : Prop := us.length = ts.length ∧ ∀ (i : Nat) (t u : Tie), ts[i]? = some t → us[i]? = some u → u.one = t.one ∧ u.other = t.other
theorem SameE.refl (ts : List Tie) : SameE ts ts := ⟨rfl, fun i t u h g => by rw [h] at g; cases g; exact ⟨rfl, rfl⟩⟩
theorem framed_mk {ts us : List Tie} (h : ∀ (i : Nat) (t u : Tie), ts[i]? = some t → us[i]? = some u → joinB t u.one u.other = true) : framedI ts us = true := by
  unfold framedI
  rw [List.all_eq_true]
  intro p hp
  obtain ⟨i, hi⟩ := List.getElem?_of_mem hp
  obtain ⟨h1, h2⟩ := List.getElem?_zip_eq_some.mp hi
  exact h i _ _ h1 h2
theorem framed_ends {ts us xs : List Tie} (h : framedI ts us = true) (e : SameE us xs) : framedI ts xs = true := framed_mk fun i t x et ex => by
  have il := (List.getElem?_eq_some_iff.mp ex).1
  have eu := List.getElem?_eq_getElem (show i < us.length by have := e.1; omega)
  obtain ⟨h1, h2⟩ := e.2 i _ _ eu ex
  rw [h1, h2]
  exact framed_at h et eu
theorem turn_ends (ps : List Int) (t : Tie) : (turnT ps t).one = t.one ∧ (turnT ps t).other = t.other := by
  unfold turnT
  split
  · exact ⟨rfl, rfl⟩
  · exact ⟨rfl, rfl⟩
theorem flips26 (b : Bool) : valV (mergeK [] [((Sum.inr "friend" : Key), V.str "foe"), (Sum.inr "foe", V.str "friend")]) (Sum.inr (kindS b)) = some (.str (kindS (!b))) := by
  cases b <;> decide
theorem tyL26 {K : PySem.W.Frag} {H : Hp} {L : Addr} {xs : List V} (h : H L = some (.lst xs)) : tyV K "list" (.ref L) H := .inl ⟨rfl, _, SqL.of h⟩
def spOther26 : Sp := fun vs H Q _ => ∃ (d : Addr) (b : Nat) (v : V) (p : Addr) (n : Int) (ts : List Tie) (ps : List Int), vs = [.ref d, v, .ref p] ∧ Well H d b ∧ b < 2 ^ 50 ∧ WebAt H v n ts ∧ ts.length ≤ 120 ∧ NoD H p (ps.map V.int) ∧ ps.Nodup ∧
  ∀ u us H', WebAt H' u n us → us.length = ts.length → framedI ts us = true → Well H' d (b + 120) → Kp d d H H' → Q u H'
def spWith26 : Sp := fun vs H Q _ => ∃ (d : Addr) (b : Nat) (v : V) (n : Int) (ts : List Tie), vs = [.ref d, v] ∧ Well H d b ∧ b < 2 ^ 50 ∧ WebAt H v n ts ∧ ts.length ≤ 120 ∧
  ∀ u us H', WebAt H' u n us → SameE ts us → Well H' d (b + 4) → Kp d d H H' → Q u H'
section
variable {P : Program} {w : World} {K : PySem.W.Frag} {mg : Str → Option Value} {base : Heap}
theorem ok_l_other {f : Addr} {fd : FuncData} (F : Fun K "_law_other" "_law_other" s_l_other f fd) (M : Free mg) (D_l_about : Df P w K mg base 1 "_law_about" ["_law_web_here", "_law_places_here"] spAbout) (D_l_draw : Df P w K mg base 1 "_law_draw" ["_law_well_here", "_law_most"] spDraw) : FnOk P w K mg base CX0 2 f fd ["_law_well_here", "_law_web_here", "_law_some"] spOther26 := by
  obtain ⟨f_l_about, fd_l_about, G_l_about, g_l_about, k_l_about, b_l_about⟩ := D_l_about
  obtain ⟨f_l_draw, fd_l_draw, G_l_draw, g_l_draw, k_l_draw, b_l_draw⟩ := D_l_draw
  refine F.ok sc_l_other (fun vs H Q E h => ?_) (fun cdv A outer s H vs Q E hr h => ?_)
  · obtain ⟨d, b, v, p, n, ts, ps, rfl, _⟩ := h
    rfl
  · obtain ⟨d, b, v, p, n, ts, ps, rfl, hD, hB, hW, few, hP, nd, q⟩ := h
    refine ⟨_, (pss_cons (ps_set (i := 3) sc_l_other.nd rfl (.inl rfl) (pe_lst pa_nil))
      (pss_cons (ps_for PassesOwn.never rfl (pi_tup (pe_ix ix_tup (pe_call G_l_about (hr.mono (by decide)) (by rfl) g_l_about k_l_about b_l_about .nil pass0 (pa_cons (pv 1) (pa_cons (pv 2) pa_nil))) pe_int (fun _ _ => rfl))) (pg_name (i := 4) sc_l_other.nd rfl (.inl rfl))
        (Evl.pss_cut (ps_if (pt_cmpR op_eq (pe_call G_l_draw (hr.mono (by decide)) (by rfl) g_l_draw k_l_draw b_l_draw .nil pass0 (pa_cons (pv 0) (pa_cons pe_int pa_nil))) pe_int (nomark _))
          (pss_one (ps_set (i := 4) sc_l_other.nd rfl (.inl rfl) (pe_tup (pa_cons (pe_ix ix_tup (pv 4) pe_int (fun _ _ => rfl)) (pa_cons (pe_ix ix_tup (pv 4) pe_int (fun _ _ => rfl)) (pa_cons (pe_ix ix_tup (pv 4) pe_int (fun _ _ => rfl)) pa_nil))))))
          pss_nil)
        (pss_one (ps_expr (pe_bm PySem.F.plainAttrs_list PySem.F.slot_list_append PySem.F.type_list_append mt_append (pv 3) (pa_cons (pv 4) pa_nil))))))
      (pss_one (ps_ret (pe_tup (pa_cons (pe_ix ix_tup (pv 1) pe_int (fun _ _ => rfl)) (pa_cons (pe_callTy call_tuple_of (by rfl) M.tuple (by decide +kernel) (pa_cons (pv 3) pa_nil)) pa_nil))))))), ?_⟩
    obtain ⟨wa, wb, us0, rfl, hwa, hwb, hp0⟩ := id hW
    refine ⟨Nat.zero_le _, fun Z nZ => ?_⟩
    have hZd := hD.ned nZ
    have s1 : Same H (upd H Z (.lst [])) := same_new nZ
    have hZ1 := upd_same (H := H) (a := Z) (o := .lst [])
    refine ⟨.ref wa, rfl, .ref p, rfl, .ref wa, p, n, ts, ps, rfl, hW.tk (Same.tk s1), few, hP.same s1, nd, fun u H2 s2 hU => ?_⟩
    have s12 := s1.trans s2
    obtain ⟨ua, ub, xs, rfl, hua, hub, hp⟩ := hU
    have l1 : xs.length = ts.length := by rw [Paired.length hp, List.length_map]
    have hD2 := hD.same s12
    refine ⟨ua, _, 1, .ref ub, rfl, rfl, SqT.of hua, rfl, ub, rfl, ⟨_, SqT.of hub⟩, ?_⟩
    refine for_tup (xs := xs) (fun i σ' H' => ∃ (y : Option V) (vs : List V) (us : List Tie), σ' = [some (.ref d), some (.ref wa), some (.ref p), some (.ref Z), y] ∧ H' Z = some (.lst vs) ∧ Paired (TieV H') vs us ∧ us.length = i ∧ framedI (ts.take i) us = true ∧ Well H' d (b + i) ∧ Kp d d H H' ∧ Kp d Z H2 H') ⟨none, [], [], rfl, s2 _ _ hZ1, .nil, rfl, rfl, hD2, Same.kp s12, fun _ _ _ _ h => h⟩ (fun i σ' H' _ h => by
      obtain ⟨y3, vs, us, _, _, _, _, _, _, _, k⟩ := h
      refine SqT.of (k _ _ (fun z => ?_) (fun z => ?_) hub)
      · obtain ⟨g, st, w0, e, _⟩ := hD2
        rw [z, e] at hub
        cases hub
      · rw [z, s2 _ _ hZ1] at hub
        cases hub) ?_ ?_
    · rintro i x σ' H1 ex ⟨y, vs, us, rfl, hZ, hv, hl, hf, D1, K1, K1'⟩
      obtain ⟨t2, et2, a, rfl, ha⟩ := Paired.at hp ex
      rw [List.getElem?_map] at et2
      obtain ⟨t, et, rfl⟩ := Option.map_eq_some_iff.mp et2
      have hi : i < xs.length := (List.getElem?_eq_some_iff.mp ex).1
      have ha1 : H1 a = some (.tup [.int (turnT ps t).one, .int (turnT ps t).other, .str (kindS (turnT ps t).foe)]) := K1' _ _ (fun z => by
        obtain ⟨g, st, w0, e, _⟩ := hD2
        rw [z, e] at ha
        cases ha) (fun z => by rw [z, s2 _ _ hZ1] at ha; cases ha) ha
      obtain ⟨t1, t2⟩ := turn_ends ps t
      refine ⟨fun σ' H' => ∃ (a' : Addr) (t' : Tie), σ' = [some (.ref d), some (.ref wa), some (.ref p), some (.ref Z), some (.ref a')] ∧ H' a' = some (.tup [.int t'.one, .int t'.other, .str (kindS t'.foe)]) ∧ joinB t t'.one t'.other = true ∧ H' Z = some (.lst vs) ∧ Paired (TieV H') vs us ∧ Well H' d (b + i + 1) ∧ Kp d d H H' ∧ Kp d Z H2 H', ?_, ?_⟩
      · refine ⟨.ref d, rfl, d, _, 2, rfl, D1, by omega, by decide, by decide, fun y H2' a2 b2 D2 K2 => ⟨rfl, _, rfl, ?_⟩⟩
        have ha2 := K2.tk D1 _ _ ha1
        have hZ2 := K2 _ _ hZd hZd hZ
        have hv2 := ties_tk (K2.tk D1) hv
        have K2' : Kp d Z H2 H2' := fun x o h1 h2 h3 => K2 _ _ h1 h1 (K1' _ _ h1 h2 h3)
        refine ite2 (fun _ => ?_) (fun _ => ?_)
        · refine ⟨.ref a, rfl, a, _, 1, _, rfl, rfl, SqT.of ha2, rfl, .ref a, rfl, a, _, 0, _, rfl, rfl, SqT.of ha2, rfl, .ref a, rfl, a, _, 2, _, rfl, rfl, SqT.of ha2, rfl, by show 3 ≤ sizeLine; decide, fun r nr => ?_⟩
          refine ⟨r, ⟨(turnT ps t).other, (turnT ps t).one, (turnT ps t).foe⟩, rfl, upd_same, ?_, same_new nr _ _ hZ2, ties_tk (Same.tk (same_new nr)) hv2, D2.new nr, (K1.trans K2).trans (Kp.new nr), fun x o h1 h2 h3 => same_new nr _ _ (K2' x o h1 h2 h3)⟩
          unfold joinB
          rw [t1, t2]
          simp
        · refine ⟨a, turnT ps t, rfl, ha2, ?_, hZ2, hv2, D2, K1.trans K2, K2'⟩
          rw [t1, t2]
          exact joinB_self t
      · rintro σ' H3 ⟨a', t', rfl, ha', hj, hZ2, hv2, D2, K2, K2'⟩
        have lv : vs.length = us.length := Paired.length hv2
        refine ⟨.ref Z, rfl, tyL26 hZ2, .ref a', rfl, Z, vs, _, rfl, rfl, hZ2, small1000 (by omega), ?_⟩
        exact ⟨_, vs ++ [.ref a'], us ++ [t'], rfl, upd_same, Paired.snoc (ties_tk (tk_lst hZ2) hv2) (show TieV _ _ t' from ⟨a', rfl, tk_lst hZ2 _ _ ha'⟩), by rw [List.length_append, hl]; rfl, framedI_snoc hf hl et hj, (D2.mut hZd).mono (by omega), K2.mut nZ, fun x o h1 h2 h3 => by
          rw [upd_ne h2]
          exact K2' x o h1 h2 h3⟩
    · rintro σ' H1 ⟨y, vs, us, rfl, hZ, hv, hl, hf, D1, K1, _⟩
      rw [l1, List.take_length] at hf
      refine ⟨.ref wa, rfl, wa, _, 0, .int n, rfl, rfl, SqT.of (K1.tk hD _ _ hwa), rfl, .ref Z, rfl, Z, vs, rfl, .inl ⟨SqL.of hZ, fun r nr => ⟨by show 2 ≤ sizeLine; decide, fun o no => ?_⟩⟩⟩
      have s4 : Same H1 _ := (same_new (o := .tup vs) nr).trans (same_new (o := .tup [.int n, .ref r]) no)
      exact q _ us _ ⟨o, r, vs, rfl, upd_same, same_new no _ _ upd_same, ties_tk (Same.tk s4) hv⟩ (by omega) hf ((D1.same s4).mono (by omega)) (K1.trans (Same.kp s4))
theorem ok_l_with_other_kinds {f : Addr} {fd : FuncData} (F : Fun K "_law_with_other_kinds" "_law_with_other_kinds" s_l_with_other_kinds f fd) (M : Free mg) (D_l_draw : Df P w K mg base 1 "_law_draw" ["_law_well_here", "_law_most"] spDraw) : FnOk P w K mg base CX0 2 f fd ["_law_well_here", "_law_web_here"] spWith26 := by
  obtain ⟨f_l_draw, fd_l_draw, G_l_draw, g_l_draw, k_l_draw, b_l_draw⟩ := D_l_draw
  refine F.ok sc_l_with_other_kinds (fun vs H Q E h => ?_) (fun cdv A outer s H vs Q E hr h => ?_)
  · obtain ⟨d, b, v, n, ts, rfl, _⟩ := h
    rfl
  · obtain ⟨d, b, v, n, ts, rfl, hD, hB, hW, few, q⟩ := h
    have hu := room1 hr
    refine ⟨_, (pss_cons (ps_set (i := 2) sc_l_with_other_kinds.nd rfl (.inl rfl) (pe_callTy call_list_of (by rfl) M.list (by decide +kernel) (pa_cons (pe_ix ix_tup (pv 1) pe_int (fun _ _ => rfl)) pa_nil)))
      (pss_cons (ps_for PassesOwn.never rfl (pi_range1 (by rfl) M.range (pa_cons (pe_op op_mul (pe_callTy call_int1 (by rfl) M.int (by decide +kernel) (pa_cons (pe_cmpR (op_neE hr.units0) (pv 2) (pe_lst pa_nil) (nomark _)) pa_nil)) (pe_op op_add pe_int (pe_call G_l_draw (hr.mono (by decide)) (by rfl) g_l_draw k_l_draw b_l_draw .nil pass0 (pa_cons (pv 0) (pa_cons pe_int pa_nil))))) pa_nil)) (pg_name (i := 3) sc_l_with_other_kinds.nd rfl (.inl rfl))
        (pss_cons (ps_set (i := 4) sc_l_with_other_kinds.nd rfl (.inl rfl) (pe_call G_l_draw (hr.mono (by decide)) (by rfl) g_l_draw k_l_draw b_l_draw .nil pass0 (pa_cons (pv 0) (pa_cons (pe_callB call_len_seq (by rfl) M.len PySem.boot_len (pa_cons (pv 2) pa_nil)) pa_nil))))
        (pss_one (ps_asg (pe_op op_catU (pe_slice sl_tupU (pe_ix ix_list (pv 2) (pv 4) (fun _ _ => rfl)) po_none (po_some pe_int)) (pe_tup (pa_cons (pe_dget hu (pe_disp (pps_cons pe_str pe_str (pps_cons pe_str pe_str pps_nil)) (by rfl) (by rfl) (fun z => by cases z) (by decide)) (pe_ix ix_tup (pe_ix ix_list (pv 2) (pv 4) (fun _ _ => rfl)) pe_int (fun _ _ => rfl)) (fun _ _ => rfl)) pa_nil))) (pg_sub (pv 2) (pv 4) set_list)))))
      (pss_one (ps_ret (pe_tup (pa_cons (pe_ix ix_tup (pv 1) pe_int (fun _ _ => rfl)) (pa_cons (pe_callTy call_tuple_of (by rfl) M.tuple (by decide +kernel) (pa_cons (pv 2) pa_nil)) pa_nil))))))), ?_⟩
    obtain ⟨wa, wb, us0, rfl, hwa, hwb, hp0⟩ := id hW
    have l0 : us0.length = ts.length := Paired.length hp0
    refine ⟨.ref wa, rfl, wa, _, 1, .ref wb, rfl, rfl, SqT.of hwa, rfl, wb, us0, rfl, .inr (SqT.of hwb), fun L nL => ?_⟩
    have s1 := same_new (o := .lst us0) nL
    have hLd := hD.ned nL
    have hL1 := upd_same (H := H) (a := L) (o := .lst us0)
    have D1 := hD.same s1
    refine ⟨.ref L, rfl, Nat.zero_le _, fun e ne => ⟨L, e, us0, rfl, rfl, SqL.of (same_new ne _ _ hL1), SqL.of upd_same, .inr ⟨_, rfl, ?_⟩⟩⟩
    have s2 := s1.trans (same_new (o := .lst []) ne)
    have hL2 := same_new (o := .lst []) ne _ _ hL1
    have D2 := D1.same (same_new (o := .lst []) ne)
    refine ⟨.ref d, rfl, d, b, 3, rfl, D2, by omega, by decide, by decide, fun y H3 a3 b3 D3 K3 => ⟨1, y, rfl, rfl, ?_⟩⟩
    have hp3 := ties_tk (K3.tk D2) (ties_tk (Same.tk s2) hp0)
    have hL3 := K3 _ _ hLd hLd hL2
    have K03 := (Same.kp (d := d) s2).trans K3
    obtain ⟨m, hm, m0, m3, mz⟩ : ∃ m : Int, m = (if (!us0.isEmpty) = true then 1 else 0) * (1 + y) ∧ 0 ≤ m ∧ m ≤ 3 ∧ (0 < m → 0 < us0.length) := by
      cases us0 with
      | nil => exact ⟨0, by simp, by omega, by omega, fun h => by omega⟩
      | cons a r => exact ⟨1 + y, by simp, by omega, by omega, fun _ => by simp⟩
    refine ⟨_, _, rfl, rfl, .inl (by split <;> exact ⟨by decide, by decide⟩), m, by rw [hm], by omega, by omega, ?_⟩
    refine for_range (lo := 0) (n := m.toNat) (fun i σ' H' => ∃ (y3 y4 : Option V) (vs : List V) (us : List Tie), σ' = [some (.ref d), some (.ref wa), some (.ref L), y3, y4] ∧ H' L = some (.lst vs) ∧ Paired (TieV H') vs us ∧ SameE ts us ∧ Well H' d (b + 1 + i) ∧ Kp d d H H') ⟨none, none, us0, ts, rfl, hL3, hp3, SameE.refl ts, D3, K03⟩ ?_ ?_
    · rintro i σ' H4 hi ⟨y3, y4, vs, us, rfl, hL, hv, se, D4, K4⟩
      have lv : vs.length = us.length := Paired.length hv
      have pos : 0 < us0.length := mz (by omega)
      have few' := se.1
      refine ⟨.ref d, rfl, .ref L, rfl, L, vs, rfl, .inl (SqL.of hL), d, _, vs.length, rfl, D4, by omega, by omega, by omega, fun z H5 a5 b5 D5 K5 => ?_⟩
      obtain ⟨j, rfl⟩ : ∃ j : Nat, z = j := ⟨z.toNat, by omega⟩
      have hL5 := K5 _ _ hLd hLd hL
      have hv5 := ties_tk (K5.tk D4) hv
      have jl : j < vs.length := by omega
      obtain ⟨t, et, c, ec, hc⟩ := Paired.at hv5 (List.getElem?_eq_getElem jl)
      have ev : vs[j]? = some (.ref c) := by rw [List.getElem?_eq_getElem jl, ec]
      have ixj : ixN vs.length (j : Int) = some j := by
        unfold ixN
        rw [if_pos (by omega), if_pos (by omega)]
        rfl
      refine ⟨.ref L, rfl, .int j, rfl, L, vs, j, .ref c, rfl, rfl, SqL.of hL5, atI_nat ev, 2, rfl, c, _, rfl, hc, fun r H6 s6 h6 => ?_⟩
      have ec2 : cutV [V.int t.one, V.int t.other, V.str (kindS t.foe)] none (some 2) = [V.int t.one, V.int t.other] := rfl
      rw [ec2] at h6
      refine fun B nB => ⟨upd_same, [((Sum.inr "friend" : Key), V.str "foe"), (Sum.inr "foe", V.str "friend")], rfl, by decide, ?_⟩
      rw [upd_upd]
      have hk := flips26 t.foe
      generalize mergeK [] [((Sum.inr "friend" : Key), V.str "foe"), (Sum.inr "foe", V.str "friend")] = kvs at hk ⊢
      have s7 : Same H6 (upd H6 B (.dK kvs)) := same_new nB
      have hB7 : (upd H6 B (.dK kvs)) B = some (.dK kvs) := upd_same
      have s57 := s6.trans s7
      refine ⟨.ref L, rfl, .int j, rfl, L, vs, j, .ref c, rfl, rfl, SqL.of (s57 _ _ hL5), atI_nat ev, c, _, 2, _, rfl, rfl, SqT.of (s57 _ _ hc), rfl, B, .str (kindS (!t.foe)), rfl, ?_, by show 1 ≤ sizeLine; decide, fun o no => ?_⟩
      · rw [← hk]
        exact DGet.k (k := Sum.inr (kindS t.foe)) hB7
      have e8 := same_new (o := .tup [.str (kindS (!t.foe))]) no
      refine ⟨r, o, _, _, rfl, rfl, e8 _ _ (s7 _ _ h6), upd_same, by show 3 ≤ 100000; decide, fun r5 H9 s9 h9 => ?_⟩
      have s59 := (s57.trans e8).trans s9
      have hL9 := s59 _ _ hL5
      refine ⟨.ref L, rfl, .int j, rfl, L, vs, j, j, rfl, rfl, hL9, ixj, ?_⟩
      refine ⟨_, _, vs.set j (.ref r5), us.set j ⟨t.one, t.other, !t.foe⟩, rfl, upd_same, paired_set (ties_tk (tk_lst hL9) (ties_tk (Same.tk s59) hv5)) ⟨r5, rfl, tk_lst hL9 _ _ h9⟩, ⟨by rw [List.length_set]; exact se.1, fun k u w eu ew => ?_⟩, ((D5.same s59).mut hLd).mono (by omega), ((K4.trans K5).trans (Same.kp s59)).mut nL⟩
      by_cases ek : k = j
      · subst ek
        rw [List.getElem?_set_self (by omega)] at ew
        cases ew
        obtain ⟨h1, h2⟩ := se.2 _ _ _ eu et
        exact ⟨h1, h2⟩
      · rw [List.getElem?_set_ne (fun z => ek z.symm)] at ew
        exact se.2 _ _ _ eu ew
    · rintro σ' H4 ⟨y3, y4, vs, us, rfl, hL, hv, se, D4, K4⟩
      refine ⟨.ref wa, rfl, wa, _, 0, .int n, rfl, rfl, SqT.of (K4.tk hD _ _ hwa), rfl, .ref L, rfl, L, vs, rfl, .inl ⟨SqL.of hL, fun r nr => ⟨by show 2 ≤ sizeLine; decide, fun o no => ?_⟩⟩⟩
      have s4 : Same H4 _ := (same_new (o := .tup vs) nr).trans (same_new (o := .tup [.int n, .ref r]) no)
      exact q _ us _ ⟨o, r, vs, rfl, upd_same, same_new no _ _ upd_same, ties_tk (Same.tk s4) hv⟩ se ((D4.same s4).mono (by omega)) (K4.trans (Same.kp s4))
end
/-! ### written tuples have no dict; t[::-1] keeps that -/
def tTupZ (t : TA) : TE := fun σ H Q => t σ H fun xs H1 => xs.length ≤ sizeLine ∧ ∀ p H', Same H1 H' → NoD H' p xs → H1 p = none → Q (.ref p) H'
section
variable {X : Cx}
theorem pe_tupZ {es : List Expr} {t : TA} {pos : Pos} {x1} (h : PA X es t) : PE X (.Tuple es x1 pos) (tTupZ t) := by
  refine ⟨fun pins s σ H Q I hq => ?_⟩
  refine wpAny_Tuple_spliced (thn (h.run pos pins s σ H _ I hq) fun us s1 ⟨xs, H1, I1, r, z, q⟩ => ⟨by rw [← r.length]; exact z, ?_⟩)
  have hf : H1 s1.heap.objs.size = none := I1.hok.fresh (Nat.le_refl _)
  refine ⟨.ref s1.heap.objs.size, upd H1 s1.heap.objs.size (.frz _ (.tup xs)), I1.laid (t' := s1.toks) (o := .frz _ (.tup xs)) (fun b u e => Heap.get?_push_of_some _ e) (Nat.le_refl _) ⟨Heap.get?_push_size _ rfl, z, us, r, ⟨_, Heap.get?_push_size _ rfl, rfl, _, rfl⟩⟩, rfl, q _ _ (same_new hf) ⟨_, ?_, upd_same⟩ hf⟩
  rfl
end
def tRevZ (te : TE) : TE := fun σ H Q => te σ H fun x H1 => ∃ a xs, x = .ref a ∧ NoD H1 a xs ∧ ∀ p H', Same H1 H' → NoD H' p xs.reverse → Q (.ref p) H'
theorem pe_revZ {X : Cx} {e : Expr} {te : TE} {k : Nat} {p1 p2 p3 pos : Pos} (he : PE X e te) : PE X (.Subscript e (.Slice none none (some (.UnaryOp .USub (.Constant (.int 1) k p1) p2)) p3) pos) (tRevZ te) := by
  refine ⟨fun pins s σ H Q I want => Subscript_ (thn (he.run pins s σ H _ I want) fun v s1 got => ?_)⟩
  obtain ⟨x, H1, I1, r1, a, xs, ex, hx, q⟩ := got
  subst ex
  obtain rfl : v = Value.ref a := r1
  have step : PO X (some (.UnaryOp .USub (.Constant (.int 1) k p1) p2)) (tPart (tUn (rU fun i => .int (-i)) (tC (.int 1)))) := po_some (pe_un un_neg pe_int)
  refine wpAny_Slice (thn (po_none.run pins s1 σ H1 (fun o H2 => o = none ∧ H2 = H1) I1 ⟨rfl, rfl⟩) fun vl s2 got2 => ?_)
  obtain ⟨_, _, I2, pl, rfl, rfl⟩ := got2
  refine thn (po_none.run pins s2 σ _ (fun o H3 => o = none ∧ H3 = _) I2 ⟨rfl, rfl⟩) fun vu s3 got3 => ?_
  obtain ⟨_, _, I3, pu, rfl, rfl⟩ := got3
  refine thn (step.run pins s3 σ _ (fun o H4 => o = some (-1) ∧ H4 = _) I3 ⟨1, rfl, -1, rfl, rfl, rfl⟩) fun vk s4 got4 => ?_
  obtain ⟨_, H4, I4, pk, rfl, rfl⟩ := got4
  cases pl
  cases pu
  have I5 : Inv X pins σ H4 { s4 with heap := s4.heap.push { cls := .type "slice", data := .fields #[.none, .none, vk] } } := I4.kept (t' := s4.toks) fun b ob z => Heap.get?_push_of_some _ z
  obtain ⟨its, rel, tup, small⟩ := I5.tuple (hx.sq (K := X.K))
  have hlen := rel.length
  show wpAny (model X.prog X.w) X.A (subscriptTail e (.Slice none none (some (.UnaryOp .USub (.Constant (.int 1) k p1) p2)) p3) (.ref a) (.ref s4.heap.objs.size)) (EP X pins σ Q) X.xe _
  refine tail_any (ops := [.ref a, .ref s4.heap.objs.size]) tup.typeIs PyProof.Rows.slot_tuple_getitem.lookup ?_ (by with_unfolding_all rfl)
  refine getItem_back tup (Heap.IsSliceOf.new _ .none .none vk) pk (by rw [List.size_toArray]; omega) ?_
  have hf := I5.hok.fresh (Nat.le_refl _)
  refine ⟨.ref _, _, I5.laid (t' := s4.toks) (o := .frz _ (.tup xs.reverse)) (fun b ob z => Heap.get?_push_of_some _ z) (Nat.le_refl _) ⟨Heap.get?_push_size _ rfl, by rw [List.length_reverse]; exact small, _, rel.reverse, IsTup.new _ _⟩, rfl, q _ _ (same_new hf) ⟨_, ?_, upd_same⟩⟩
  rfl
section
variable {P : Program} {w : World} {K : PySem.W.Frag} {mg : Str → Option Value} {base : Heap}
theorem ok_l_foes {f : Addr} {fd : FuncData} (F : Fun K "_law_foes" "_law_foes" s_l_foes f fd) (M : Free mg) : FnOk P w K mg base CX0 1 f fd ["_law_web_here", "_law_ring"] spFoes := by
  refine F.ok sc_l_foes (fun vs H Q E h => ?_) (fun cdv A outer s H vs Q E hr h => ?_)
  · obtain ⟨wv, n, ts, a, ta, p, es, rfl, _⟩ := h
    rfl
  · obtain ⟨wv, n, ts, a, ta, p, es, rfl, ⟨wa, wb, us, rfl, hwa, hwb, hp⟩, ha, hta, hes, lm, q⟩ := h
    refine ⟨_, (pss_one (ps_ret (pe_callB call_len_seq (by rfl) M.len PySem.boot_len (pa_cons (pe_lc (own := [("_law_tie", 2)]) (g := gName 2) (te := tVar 2) rfl sc_l_foes.nd (pi_tup (pe_ix ix_tup (pv 1) pe_int (fun _ _ => rfl))) (blkOk_by (N := N_l_foes) (sc := defScope s_l_foes) (own := [("_law_tie", 2)]) (by decide +kernel)) (fun _ _ _ _ _ => (pg_name (i := 2) sc_l_foes.nd rfl (.inl rfl))) (fun _ _ _ _ _ => (pts_one (pt_cmpR op_eq (pe_ix (r := rIxT K) ix_tup (pe_ix (r := rIxT K) ix_tup (pe_ix (r := rIxT K) ix_tup (pv 0) pe_int (fun _ _ => rfl)) (pv 2) (fun _ _ => rfl)) pe_int (fun _ _ => rfl)) pe_str (nomark _)))) (fun _ _ _ _ _ => (pv 2))) pa_nil)))), ?_⟩
    refine ⟨.ref a, rfl, a, _, 1, .ref ta, rfl, rfl, ha.sq, rfl, ta, rfl, ⟨_, hta.sq⟩, fun Z nZ => ?_⟩
    refine lc_tup (xs := es.map V.int) (fun j H' => H' = upd H Z (.lst (((es.take j).filter fun e => (tieAt ts e).foe).map V.int))) rfl (fun j H' _ h => by rw [h]; exact (hta.same (same_new nZ)).sq) ?_ ?_
    · rintro j x H' ex rfl
      rw [List.getElem?_map] at ex
      obtain ⟨e, he, rfl⟩ := Option.map_eq_some_iff.mp ex
      obtain ⟨z0, z1⟩ := hes e (List.mem_of_getElem? he)
      have hj := (List.getElem?_eq_some_iff.mp he).1
      have s1 := same_new (o := .lst (((es.take j).filter fun e => (tieAt ts e).foe).map V.int)) nZ
      obtain ⟨u, eu, cc, rfl, hcc⟩ := Paired.at' hp (tieAt_get z0 z1)
      refine ⟨rfl, .ref wa, rfl, wa, _, 1, .ref wb, rfl, rfl, SqT.of (s1 _ _ hwa), rfl, .int e, rfl, wb, us, e, .ref cc, rfl, rfl, SqT.of (s1 _ _ hwb), atI_of z0 eu, cc, _, 2, _, rfl, rfl, SqT.of (s1 _ _ hcc), rfl, rfl, _, rfl, ?_⟩
      rw [foesI_take ts es he, List.map_append]
      have lf : ((es.take j).filter fun e => (tieAt ts e).foe).length ≤ j := by
        have := List.length_filter_le (fun e => (tieAt ts e).foe) (es.take j)
        rw [List.length_take] at this
        omega
      cases hf : (tieAt ts e).foe with
      | true =>
        refine ⟨.int e, rfl, _, upd_same, by rw [List.length_map]; exact small1000 (by omega), ?_⟩
        funext b
        by_cases eb : b = Z
        · subst eb
          rw [upd_same, upd_same]
          rfl
        · rw [upd_ne eb, upd_ne eb, upd_ne eb]
      | false =>
        show upd H Z _ = upd H Z (.lst (((es.take j).filter fun e => (tieAt ts e).foe).map V.int ++ []))
        rw [List.append_nil]
    · rintro H' rfl
      rw [List.length_map, List.take_length]
      refine ⟨Z, _, rfl, .inl (SqL.of upd_same), ?_⟩
      rw [List.length_map]
      exact q _ (same_new nZ)
end
/-! ### k27: things, tuples without a dict all through -/
def Sc : V → Prop
  | .non => True
  | .bl _ => True
  | .int _ => True
  | .str _ => True
  | _ => False
theorem Sc.kn {H : Hp} {v : V} (h : Sc v) : Kn H v := by cases v <;> first | exact h | exact h.elim
theorem Sc.nop {H : Hp} {v : V} (h : Sc v) : parts H v = none := by cases v <;> first | rfl | exact h.elim
def Td : Nat → Hp → V → Prop
  | 0, _, v => Sc v
  | d + 1, H, v => Sc v ∨ ∃ a, v = .ref a ∧ ((∃ xs, H a = some (.lst xs)) ∨ (∃ kvs, H a = some (.dK kvs)) ∨ ∃ xs, NoD H a xs ∧ xs.length ≤ 300 ∧ ∀ x ∈ xs, Td d H x)
theorem Td.kn : ∀ {d : Nat} {H : Hp} {v : V}, Td d H v → Kn H v
  | 0, _, _, h => Sc.kn h
  | d + 1, _, _, h => by
    rcases h with h | ⟨a, rfl, ⟨xs, h⟩ | ⟨xs, h⟩ | ⟨xs, h, _⟩⟩
    · exact Sc.kn h
    · exact .inl ⟨xs, h⟩
    · exact .inr (.inr ⟨xs, h⟩)
    · exact .inr (.inl ⟨xs, .inr h⟩)
theorem parts_lst {H : Hp} {a : Addr} {xs : List V} (h : H a = some (.lst xs)) : parts H (.ref a) = none := by unfold parts; simp only [h]
theorem parts_dk {H : Hp} {a : Addr} {xs : List (Key × V)} (h : H a = some (.dK xs)) : parts H (.ref a) = none := by unfold parts; simp only [h]
theorem Td.parts {d : Nat} {H : Hp} {v : V} {xs : List V} (h : Td (d + 1) H v) (e : FF.parts H v = some xs) : ∃ a, v = .ref a ∧ NoD H a xs ∧ xs.length ≤ 300 ∧ ∀ x ∈ xs, Td d H x := by
  rcases h with h | ⟨a, rfl, ⟨ys, h⟩ | ⟨ys, h⟩ | ⟨ys, h, l, hx⟩⟩
  · rw [h.nop] at e; cases e
  · rw [parts_lst h] at e; cases e
  · rw [parts_dk h] at e; cases e
  · rw [parts_of' (.inr h)] at e
    cases e
    exact ⟨a, rfl, h, l, hx⟩
theorem Td.up : ∀ {d : Nat} {H : Hp} {v : V}, Td d H v → Td (d + 1) H v
  | 0, _, _, h => .inl h
  | d + 1, _, _, h => by
    rcases h with h | ⟨a, e, h | h | ⟨xs, h, l, hx⟩⟩
    · exact .inl h
    · exact .inr ⟨a, e, .inl h⟩
    · exact .inr ⟨a, e, .inr (.inl h)⟩
    · exact .inr ⟨a, e, .inr (.inr ⟨xs, h, l, fun x hm => (hx x hm).up⟩)⟩
theorem Td.ks : ∀ {d : Nat} {H H' : Hp} {v : V}, Td d H v → Ks H H' → Td d H' v
  | 0, _, _, _, h, _ => h
  | d + 1, _, _, _, h, s => by
    rcases h with h | ⟨a, e, ⟨xs, h⟩ | ⟨xs, h⟩ | ⟨xs, h, l, hx⟩⟩
    · exact .inl h
    · exact .inr ⟨a, e, .inl (s.lst _ _ h)⟩
    · exact .inr ⟨a, e, .inr (.inl (s.dct _ _ h))⟩
    · exact .inr ⟨a, e, .inr (.inr ⟨xs, h.ks s, l, fun x hm => (hx x hm).ks s⟩)⟩
theorem Td.same {d : Nat} {H H' : Hp} {v : V} (h : Td d H v) (s : Same H H') : Td d H' v := h.ks (Same.ks s)
theorem Td.row {d : Nat} {H : Hp} {v : V} (h : Td (d + 1) H v) : RowK H v := ⟨h.kn, fun xs e => by
  obtain ⟨a, _, _, l, hx⟩ := h.parts e
  exact ⟨fun x hm => (hx x hm).kn, by omega⟩⟩
theorem Td.thing {d : Nat} {H : Hp} {v : V} (h : Td (d + 2) H v) : Thing2 H v := ⟨h.kn, fun xs e x hm => by
  obtain ⟨a, _, _, l, hx⟩ := h.parts e
  exact (hx x hm).row⟩
theorem Td.judk {d : Nat} {H : Hp} {v : V} (h : Td (d + 3) H v) : JudK H v := ⟨h.kn, fun w y e => by
  obtain ⟨a, _, _, l, hx⟩ := h.parts e
  exact ⟨(hx w (by simp)).kn, (hx y (by simp)).row, (hx y (by simp)).thing⟩⟩
theorem Td.tup {d : Nat} {H : Hp} {a : Addr} {xs : List V} (h : NoD H a xs) (l : xs.length ≤ 300) (hx : ∀ x ∈ xs, Td d H x) : Td (d + 1) H (.ref a) := .inr ⟨a, rfl, .inr (.inr ⟨xs, h, l, hx⟩)⟩
theorem Td.sc {d : Nat} {H : Hp} {v : V} (h : Sc v) : Td d H v := by
  cases d with
  | zero => exact h
  | succ d => exact .inl h
theorem Td.ints {d : Nat} {H : Hp} {a : Addr} {ns : List Int} (h : NoD H a (ns.map V.int)) (l : ns.length ≤ 300) : Td (d + 1) H (.ref a) := .tup h (by rw [List.length_map]; exact l) fun x hm => by
  obtain ⟨i, _, rfl⟩ := List.mem_map.mp hm
  exact .sc True.intro
def numB (H : Hp) (n : Int) (v : V) : Bool := match parts H v with
  | some xs => xs.all (wbelow n)
  | none => false
def spNums27 : Sp := fun vs H Q _ => ∃ (v : V) (n : Int), vs = [v, .int n] ∧ RowK H v ∧ Q (.bl (numB H n v)) H
def spIsRing27 : Sp := fun vs H Q _ => ∃ (wv v : V) (n : Int) (ts : List Tie), vs = [wv, v] ∧ WebAt H wv n ts ∧ WebOk n ts ∧ Td 3 H v ∧ ∀ H', Same H H' → Q (.bl (ringB H n ts v)) H'
def spDue27 : Sp := fun vs H Q _ => ∃ (v u t : V) (n : Int) (ts us : List Tie), vs = [v, u, t] ∧ WebAt H v n ts ∧ WebAt H u n us ∧ WebOk n ts ∧ WebOk n us ∧ us.length = ts.length ∧ framedI ts us = true ∧ Td 4 H t ∧ ∀ H', Same H H' → Q (.bl (jB H n ts us t)) H'
section
variable {P : Program} {w : World} {K : PySem.W.Frag} {mg : Str → Option Value} {base : Heap}
theorem ok_l_are_numbers {f : Addr} {fd : FuncData} (F : Fun K "_law_are_numbers" "_law_are_numbers" s_l_are_numbers f fd) (M : Free mg) : FnOk P w K mg base CX0 1 f fd ["_law_thing", "_law_many"] spNums27 := by
  refine F.ok sc_l_are_numbers (fun vs H Q E h => ?_) (fun cdv A outer s H vs Q E hr h => ?_)
  · obtain ⟨v, n, rfl, _⟩ := h
    rfl
  · obtain ⟨v, n, rfl, hk, q⟩ := h
    refine ⟨_, (pss_cons (ps_if (pt_not (pt_val (pe_callB call_isi (by rfl) M.isinstance (by decide +kernel) (pa_cons (pv 0) (pa_cons (pe_bltn (v := .ty "tuple") (by rfl) M.tuple (by decide +kernel) rfl) pa_nil)))))
        (pss_one (ps_ret pe_bl))
        pss_nil)
      (pss_cons (ps_for PassesOwn.never rfl (pi_tup (pv 0)) (pg_name (i := 2) sc_l_are_numbers.nd rfl (.inl rfl))
        (pss_one (ps_if (PW.pt (pw_or (pt_not (pt_val (pe_callB call_isi (by rfl) M.isinstance (by decide +kernel) (pa_cons (pv 2) (pa_cons (pe_bltn (v := .ty "int") (by rfl) M.int (by decide +kernel) rfl) pa_nil))))) (pw_or (pt_val (pe_callB call_isi (by rfl) M.isinstance (by decide +kernel) (pa_cons (pv 2) (pa_cons (pe_bltn (v := .ty "bool") (by rfl) M.bool (by decide +kernel) rfl) pa_nil)))) (pw_or1 (pt_not (pt_chain op_le op_lt pe_int (pv 2) (pv 1)))))))
          (pss_one (ps_ret pe_bl))
          pss_nil)))
      (pss_one (ps_ret pe_bl)))), ?_⟩
    obtain ⟨t1, h1, e1⟩ := kn_tup (K := K) hk.1
    refine ⟨v, rfl, v, _, t1, _, _, rfl, .ty "tuple", h1, e1, _, rfl, ?_⟩
    unfold numB at q
    cases hi : isT H v with
    | false =>
      rw [parts_none hi] at q
      exact q
    | true =>
      obtain ⟨a, xs, rfl, ea⟩ := isT_at hi
      obtain ⟨kx, lx⟩ := hk.2 _ (parts_of' ea)
      rw [parts_of' ea] at q
      have q : Q (.bl (xs.all (wbelow n))) H := q
      refine ⟨.ref a, rfl, a, rfl, ⟨_, ea.sq⟩, ?_⟩
      refine for_tup (xs := xs) (fun i σ' H' => ∃ y2 : Option V, σ' = [some (.ref a), some (.int n), y2] ∧ H' = H ∧ (xs.take i).all (wbelow n) = true) ⟨none, rfl, rfl, rfl⟩ (fun i σ' H' _ h => by
        obtain ⟨_, _, rfl, _⟩ := h
        exact ea.sq) ?_ ?_
      · rintro i x σ' H' ex ⟨y2, rfl, rfl, hal⟩
        have hkx := kx x (List.mem_of_getElem? ex)
        have step : (xs.take (i + 1)).all (wbelow n) = wbelow n x := take_all ex hal
        have no : wbelow n x = false → xs.all (wbelow n) = false := fun hb => all_not ex hb
        obtain ⟨t1, h1, e1⟩ := kn_int (K := K) hkx
        obtain ⟨t2, h2, e2⟩ := kn_bool (K := K) hkx
        refine ⟨x, rfl, x, _, t1, _, _, rfl, .ty "int", h1, e1, _, rfl, ?_⟩
        have go : wbelow n x = true → ∃ y2 : Option V, ([some (.ref a), some (.int n), some x] : L2.St) = [some (.ref a), some (.int n), y2] ∧ H' = H' ∧ (xs.take (i + 1)).all (wbelow n) = true := fun hb => ⟨some x, rfl, rfl, step.trans hb⟩
        cases x with
        | int k =>
          refine ⟨.int k, rfl, .int k, _, t2, _, _, rfl, .ty "bool", h2, e2, _, rfl, ?_⟩
          refine ⟨.int k, rfl, 0, k, rfl, rfl, _, rfl, ?_⟩
          by_cases h0 : (0 : Int) ≤ k
          · rw [decide_eq_true h0]
            refine ⟨.int n, rfl, k, n, rfl, rfl, _, rfl, ?_⟩
            by_cases h1 : k < n
            · rw [decide_eq_true h1]
              exact go (by show (decide (0 ≤ k) && decide (k < n)) = true; rw [decide_eq_true h0, decide_eq_true h1]; rfl)
            · rw [decide_eq_false h1]
              rw [no (by show (decide (0 ≤ k) && decide (k < n)) = false; rw [decide_eq_false h1, Bool.and_false])] at q
              exact q
          · rw [decide_eq_false h0]
            rw [no (by show (decide (0 ≤ k) && decide (k < n)) = false; rw [decide_eq_false h0, Bool.false_and])] at q
            rw [if_neg (by decide)]
            exact ⟨_, rfl, q⟩
        | bl k =>
          rw [no rfl] at q
          exact ⟨.bl k, rfl, .bl k, _, t2, _, _, rfl, .ty "bool", h2, e2, _, rfl, q⟩
        | _ =>
          rw [no rfl] at q
          exact q
      · rintro σ' H' ⟨y2, rfl, rfl, hal⟩
        rw [List.take_length] at hal
        rw [hal] at q
        exact q
end
/-! ### k27: the law's own look at rings -/
theorem count_nd {ns : List Int} (h : ∀ (k : Nat) (x : Int), ns[k]? = some x → ns.count x = 1) : ns.Nodup := by
  rw [List.nodup_iff_count]
  intro x
  by_cases hx : x ∈ ns
  · obtain ⟨k, hk⟩ := List.getElem?_of_mem hx
    rw [h k x hk]
    exact Nat.le_refl _
  · rw [List.count_eq_zero_of_not_mem hx]
    decide
theorem tieAt_get' {ts : List Tie} {i : Int} (h0 : 0 ≤ i) (h1 : i < ts.length) : ts[i.toNat]? = some (tieAt ts i) := tieAt_get h0 h1
def listD (xs : List Int) : PyData := .list (xs.map PyData.int)
theorem shaped_listD (xs : List Int) : SeqAt.shaped (listD xs) = true := by
  unfold SeqAt.shaped listD
  rw [PyData.canLay0, PyData.depth, lay_ints, deep_ints]
  rfl
theorem eqvAll_ints : ∀ xs ys : List Int, PyData.eqvAll (xs.map PyData.int) (ys.map PyData.int) = decide (xs = ys)
  | [], [] => by simp [PyData.eqvAll]
  | [], y :: ys => by simp [PyData.eqvAll]
  | x :: xs, [] => by simp [PyData.eqvAll]
  | x :: xs, y :: ys => by
    rw [List.map_cons, List.map_cons, PyData.eqvAll, eqvAll_ints xs ys, PyData.eqv]
    by_cases h1 : x = y <;> by_cases h2 : xs = ys <;> simp [h1, h2]
theorem eqv_listD (xs ys : List Int) : PyData.eqv (listD xs) (listD ys) = decide (xs = ys) := by
  unfold listD
  rw [PyData.eqv]
  exact eqvAll_ints xs ys
theorem shaped_two (xs ys : List Int) : SeqAt.shaped (.list [listD xs, listD ys]) = true := by
  have d : ∀ zs, (listD zs).depth = 1 := fun zs => by unfold listD; rw [PyData.depth, deep_ints]
  have l : ∀ zs, (listD zs).canLay0 = true := fun zs => by unfold listD; rw [PyData.canLay0]; exact lay_ints zs
  unfold SeqAt.shaped
  rw [PyData.canLay0, PyData.canLayAll0, PyData.canLayAll0, PyData.canLayAll0, l, l, PyData.depth, PyData.depthAll, PyData.depthAll, PyData.depthAll, d, d]
  rfl
section
variable {P : Program} {w : World} {K : PySem.W.Frag} {mg : Str → Option Value} {base : Heap}
set_option maxHeartbeats 4000000 in
theorem ok_l_is_ring {f : Addr} {fd : FuncData} (F : Fun K "_law_is_ring" "_law_is_ring" s_l_is_ring f fd) (M : Free mg) (D_l_are_numbers : Df P w K mg base 1 "_law_are_numbers" ["_law_thing", "_law_many"] spNums27) : FnOk P w K mg base CX0 2 f fd ["_law_web_here", "_law_thing"] spIsRing27 := by
  obtain ⟨f_l_are_numbers, fd_l_are_numbers, G_l_are_numbers, g_l_are_numbers, k_l_are_numbers, b_l_are_numbers⟩ := D_l_are_numbers
  refine F.ok sc_l_is_ring (fun vs H Q E h => ?_) (fun cdv A outer s H vs Q E hr h => ?_)
  · obtain ⟨wv, v, n, ts, rfl, _⟩ := h
    rfl
  · obtain ⟨wv, v, n, ts, rfl, hW, ok, hv, q⟩ := h
    refine ⟨_, (pss_cons (ps_if (PW.pt (pw_or (pt_not (pt_val (pe_callB call_isi (by rfl) M.isinstance (by decide +kernel) (pa_cons (pv 1) (pa_cons (pe_bltn (v := .ty "tuple") (by rfl) M.tuple (by decide +kernel) rfl) pa_nil))))) (pw_or (pt_cmpR op_ne (pe_callB call_len_seq (by rfl) M.len PySem.boot_len (pa_cons (pv 1) pa_nil)) pe_int (nomark _)) (pw_or1 (pt_not (pt_val (pe_call G_l_are_numbers (hr.mono (by decide)) (by rfl) g_l_are_numbers k_l_are_numbers b_l_are_numbers .nil pass0 (pa_cons (pe_ix ix_tup (pv 1) pe_int (fun _ _ => rfl)) (pa_cons (pe_ix ix_tup (pv 0) pe_int (fun _ _ => rfl)) pa_nil)))))))))
        (pss_one (ps_ret pe_bl))
        pss_nil)
      (pss_cons (ps_asg (pv 1) (pg_tup rfl (pgs_cons (pg_name (i := 2) sc_l_is_ring.nd rfl (.inl rfl)) (pgs_cons (pg_name (i := 3) sc_l_is_ring.nd rfl (.inl rfl)) pgs_nil))))
      (pss_cons (ps_if (PW.pt (pw_or (pt_not (pt_val (pe_call G_l_are_numbers (hr.mono (by decide)) (by rfl) g_l_are_numbers k_l_are_numbers b_l_are_numbers .nil pass0 (pa_cons (pv 3) (pa_cons (pe_callB call_len_seq (by rfl) M.len PySem.boot_len (pa_cons (pe_ix ix_tup (pv 0) pe_int (fun _ _ => rfl)) pa_nil)) pa_nil))))) (pw_or (pt_cmpR op_lt (pe_callB call_len_seq (by rfl) M.len PySem.boot_len (pa_cons (pv 2) pa_nil)) pe_int (nomark _)) (pw_or1 (pt_cmpR op_ne (pe_callB call_len_seq (by rfl) M.len PySem.boot_len (pa_cons (pv 2) pa_nil)) (pe_callB call_len_seq (by rfl) M.len PySem.boot_len (pa_cons (pv 3) pa_nil)) (nomark _))))))
        (pss_one (ps_ret pe_bl))
        pss_nil)
      (pss_cons (ps_for PassesOwn.never rfl (pi_range1 (by rfl) M.range (pa_cons (pe_callB call_len_seq (by rfl) M.len PySem.boot_len (pa_cons (pv 2) pa_nil)) pa_nil)) (pg_name (i := 4) sc_l_is_ring.nd rfl (.inl rfl))
        (pss_cons (ps_set (i := 5) sc_l_is_ring.nd rfl (.inl rfl) (pe_lst (pa_cons (pe_ix ix_tup (pv 2) (pv 4) (fun _ _ => rfl)) (pa_cons (pe_ix ix_tup (pv 2) (pe_op op_mod (pe_op op_add (pv 4) pe_int) (pe_callB call_len_seq (by rfl) M.len PySem.boot_len (pa_cons (pv 2) pa_nil))) (fun _ _ => rfl)) pa_nil))))
        (pss_cons (ps_if (PW.pt (pw_or (pt_cmpR op_ne (pe_bmT PySem.F.slot_tuple_count PySem.F.type_tuple_count mt_tcount (pv 2) (pa_cons (pe_ix ix_tup (pv 2) (pv 4) (fun _ _ => rfl)) pa_nil)) pe_int (nomark _)) (pw_or1 (pt_cmpR op_ne (pe_bmT PySem.F.slot_tuple_count PySem.F.type_tuple_count mt_tcount (pv 3) (pa_cons (pe_ix ix_tup (pv 3) (pv 4) (fun _ _ => rfl)) pa_nil)) pe_int (nomark _)))))
          (pss_one (ps_ret pe_bl))
          pss_nil)
        (pss_one (ps_if (pt_cmpR (op_notInD (room65 hr)) (pe_callTy call_list_of (by rfl) M.list (by decide +kernel) (pa_cons (pe_slice sl_tupU (pe_ix ix_tup (pe_ix ix_tup (pv 0) pe_int (fun _ _ => rfl)) (pe_ix ix_tup (pv 3) (pv 4) (fun _ _ => rfl)) (fun _ _ => rfl)) po_none (po_some pe_int)) pa_nil)) (pe_lst (pa_cons (pv 5) (pa_cons (pe_revL (pv 5)) pa_nil))) rfl)
          (pss_one (ps_ret pe_bl))
          pss_nil)))))
      (pss_one (ps_ret pe_bl)))))), ?_⟩
    obtain ⟨wa, wb, us, rfl, hwa, hwb, hp⟩ := id hW
    obtain ⟨t1, h1, e1⟩ := kn_tup (K := K) hv.kn
    have lus : us.length = ts.length := Paired.length hp
    have few := ok.few
    refine ⟨v, rfl, v, _, t1, _, _, rfl, .ty "tuple", h1, e1, _, rfl, ?_⟩
    cases hi : isT H v with
    | false =>
      have e2 : ringB H n ts v = false := by unfold ringB; rw [parts_none hi]
      rw [e2] at q
      exact q _ (Same.refl H)
    | true =>
    obtain ⟨r, xs, rfl, er⟩ := isT_at hi
    have hpv := parts_of' er
    refine ⟨.ref r, rfl, r, _, rfl, .inr er.sq, rfl, _, rfl, ?_⟩
    match xs, hpv, er with
    | [], hpv, er =>
      have e2 : ringB H n ts (.ref r) = false := by unfold ringB; rw [hpv]
      rw [e2] at q
      exact q _ (Same.refl H)
    | [_], hpv, er =>
      have e2 : ringB H n ts (.ref r) = false := by unfold ringB; rw [hpv]
      rw [e2] at q
      exact q _ (Same.refl H)
    | _ :: _ :: _ :: zs, hpv, er =>
      have e2 : ringB H n ts (.ref r) = false := by unfold ringB; rw [hpv]
      rw [e2] at q
      rw [show decide (V.int ((_ :: _ :: _ :: zs : List V).length : Nat) = V.int 2) = false from decide_eq_false (fun z => by have := V.int.inj z; simp only [List.length_cons] at this; omega)]
      exact q _ (Same.refl H)
    | [pv', tv], hpv, er =>
    have e2 : ringB H n ts (.ref r) = ringP n ts (parts H pv') (parts H tv) := by unfold ringB; rw [hpv]
    rw [e2] at q
    obtain ⟨_, _, _, _, hx⟩ := hv.parts hpv
    have hP := hx pv' (by simp)
    have hQ := hx tv (by simp)
    clear e1 e2 h1 hi
    refine ⟨.ref r, rfl, r, _, 0, pv', rfl, rfl, er.sq, rfl, .ref wa, rfl, wa, _, 0, .int n, rfl, rfl, SqT.of hwa, rfl, pv', n, rfl, hP.row, _, rfl, ?_⟩
    cases hn1 : numB H n pv' with
    | false =>
      have e : ringP n ts (parts H pv') (parts H tv) = false := by
        unfold numB at hn1
        cases h1 : parts H pv' with
        | none => rfl
        | some ps =>
          cases h2 : parts H tv with
          | none => rfl
          | some es =>
            rw [h1] at hn1
            have hn1 : ps.all (wbelow n) = false := hn1
            show ((ps.all (wbelow n) && _) && _) = false
            rw [hn1, Bool.false_and, Bool.false_and]
      rw [e] at q
      exact q _ (Same.refl H)
    | true =>
    refine ⟨.ref r, rfl, r, _, rfl, er.sq, rfl, _, _, rfl, _, _, rfl, rfl, ?_⟩
    refine ⟨tv, rfl, .ref wa, rfl, wa, _, 1, .ref wb, rfl, rfl, SqT.of hwa, rfl, wb, us, rfl, .inr (SqT.of hwb), tv, _, rfl, hQ.row, _, rfl, ?_⟩
    rw [lus]
    cases hn2 : numB H (ts.length : Nat) tv with
    | false =>
      have e : ringP n ts (parts H pv') (parts H tv) = false := by
        unfold numB at hn2
        cases h1 : parts H pv' with
        | none => rfl
        | some ps =>
          cases h2 : parts H tv with
          | none => rfl
          | some es =>
            rw [h2] at hn2
            have hn2 : es.all (wbelow (ts.length : Nat)) = false := hn2
            show (_ && ((es.all (wbelow (ts.length : Nat)) && _) && _)) = false
            rw [hn2, Bool.false_and, Bool.false_and, Bool.and_false]
      rw [e] at q
      exact q _ (Same.refl H)
    | true =>
    unfold numB at hn1 hn2
    cases h1 : parts H pv' with
    | none => rw [h1] at hn1; cases hn1
    | some ps =>
    cases h2 : parts H tv with
    | none => rw [h2] at hn2; cases hn2
    | some es =>
    rw [h1] at hn1
    rw [h2] at hn2
    rw [h1, h2] at q
    have hn1 : ps.all (wbelow n) = true := hn1
    have hn2 : es.all (wbelow (ts.length : Nat)) = true := hn2
    obtain ⟨a, rfl, ha, lps, _⟩ := hP.parts h1
    obtain ⟨b, rfl, hb, les, _⟩ := hQ.parts h2
    obtain ⟨rs, rfl, rsb⟩ := ints_of hn1
    obtain ⟨ms, rfl, msb⟩ := ints_of hn2
    rw [List.length_map] at lps les
    have eR : ringP n ts (some (rs.map V.int)) (some (ms.map V.int)) = (decide rs.Nodup && (decide ms.Nodup && (decide (2 ≤ rs.length) && (decide (rs.length = ms.length) && ringI ts rs ms)))) := by
      show ((_ && decide (rs.map V.int).Nodup) && ((_ && decide (ms.map V.int).Nodup) && _)) = _
      rw [hn1, hn2, Bool.true_and, Bool.true_and, toI_map, toI_map, List.length_map, List.length_map]
      congr 1
      · exact decide_eq_decide.mpr nodup_ints
      · congr 1
        exact decide_eq_decide.mpr nodup_ints
    rw [eR] at q
    refine ⟨.ref a, rfl, a, _, rfl, .inr ha.sq, _, 2, rfl, rfl, _, rfl, ?_⟩
    rw [List.length_map]
    by_cases l2 : 2 ≤ rs.length
    case neg =>
      rw [decide_eq_false l2, Bool.false_and, Bool.and_false, Bool.and_false] at q
      rw [decide_eq_true (show ((rs.length : Nat) : Int) < 2 by omega)]
      exact q _ (Same.refl H)
    rw [decide_eq_false (show ¬ ((rs.length : Nat) : Int) < 2 by omega)]
    refine ⟨.ref a, rfl, a, _, rfl, .inr ha.sq, .ref b, rfl, b, _, rfl, .inr hb.sq, rfl, _, rfl, ?_⟩
    rw [List.length_map, List.length_map]
    by_cases l1 : rs.length = ms.length
    case neg =>
      rw [decide_eq_false l1, Bool.false_and, Bool.and_false, Bool.and_false, Bool.and_false] at q
      rw [show decide (V.int (rs.length : Nat) = V.int (ms.length : Nat)) = false from decide_eq_false (fun z => l1 (by have := V.int.inj z; omega))]
      exact q _ (Same.refl H)
    rw [decide_eq_true l2, decide_eq_true l1, Bool.true_and, Bool.true_and] at q
    rw [l1, decide_eq_true rfl]
    have qF : decide rs.Nodup = false ∨ decide ms.Nodup = false ∨ ringI ts rs ms = false → ∀ H', Same H H' → Q (.bl false) H' := fun h H' s => by
      have e : (decide rs.Nodup && (decide ms.Nodup && ringI ts rs ms)) = false := by
        rcases h with h | h | h
        · rw [h, Bool.false_and]
        · rw [h, Bool.false_and, Bool.and_false]
        · rw [h, Bool.and_false, Bool.and_false]
      rw [← e]
      exact q _ s
    refine ⟨.ref a, rfl, a, _, rfl, .inr ha.sq, _, rfl, by omega, by rw [List.length_map]; omega, ?_⟩
    rw [List.length_map, Int.toNat_natCast]
    have gD : ∀ {zs : List Int} {k : Nat}, k < zs.length → zs[k]? = some (zs.getD k 0) := fun h => by
      rw [List.getD_eq_getElem?_getD, List.getElem?_eq_getElem h]
      rfl
    have nrs : ∀ {zs : List Int} {k : Nat} {x : Int}, zs[k]? = some x → zs.count x ≠ 1 → decide zs.Nodup = false := fun e h => decide_eq_false fun nd => h (by rw [nd.count, if_pos (List.mem_of_getElem? e)])
    refine for_range (lo := 0) (n := rs.length) (fun k σ' H' => ∃ y4 y5 : Option V, σ' = [some (.ref wa), some (.ref r), some (.ref a), some (.ref b), y4, y5] ∧ Same H H' ∧ ∀ j : Nat, j < k → rs.count (rs.getD j 0) = 1 ∧ ms.count (ms.getD j 0) = 1 ∧ joinB (tieAt ts (ms.getD j 0)) (rs.getD j 0) (rs.getD ((j + 1) % rs.length) 0) = true) ⟨none, none, rfl, Same.refl _, fun j h => absurd h (Nat.not_lt_zero _)⟩ ?_ (fun σ' H' h => by
      obtain ⟨_, _, rfl, s, al⟩ := h
      have n1 : rs.Nodup := count_nd fun k x e => by
        have hk := (List.getElem?_eq_some_iff.mp e).1
        have := (al k hk).1
        rw [List.getD_eq_getElem?_getD, e] at this
        exact this
      have n2 : ms.Nodup := count_nd fun k x e => by
        have hk := (List.getElem?_eq_some_iff.mp e).1
        have := (al k (by omega)).2.1
        rw [List.getD_eq_getElem?_getD, e] at this
        exact this
      have n3 : ringI ts rs ms = true := by
        unfold ringI
        rw [List.all_eq_true]
        intro k hk
        exact (al k (by have := List.mem_range.mp hk; omega)).2.2
      rw [decide_eq_true n1, decide_eq_true n2, n3] at q
      exact q _ s)
    rintro k σ' H1 hk ⟨y4, y5, rfl, s1, al⟩
    rw [show (0 : Int) + (k : Nat) = k from by omega]
    obtain ⟨x, ex⟩ : ∃ x, rs.getD k 0 = x := ⟨_, rfl⟩
    obtain ⟨y, ey⟩ : ∃ y, rs.getD ((k + 1) % rs.length) 0 = y := ⟨_, rfl⟩
    obtain ⟨m, em⟩ : ∃ m, ms.getD k 0 = m := ⟨_, rfl⟩
    have e1 : rs[k]? = some x := by rw [← ex]; exact gD hk
    have e2 : rs[(k + 1) % rs.length]? = some y := by rw [← ey]; exact gD (Nat.mod_lt _ (by omega))
    have e3 : ms[k]? = some m := by rw [← em]; exact gD (by omega)
    obtain ⟨m0, m1⟩ := msb m (List.mem_of_getElem? e3)
    have e4 := tieAt_get (ts := ts) m0 m1
    generalize htt : tieAt ts m = t at e4
    have ha1 := ha.same s1
    have hb1 := hb.same s1
    have at1 : ∀ {zs : List Int} {i : Nat} {z : Int}, zs[i]? = some z → atI (zs.map V.int) (i : Int) = some (.int z) := fun h => atI_nat (by rw [List.getElem?_map, h]; rfl)
    refine ⟨.ref a, rfl, .int k, rfl, a, _, k, .int x, rfl, rfl, ha1.sq, at1 e1, .ref a, rfl, .int k, rfl, k, 1, rfl, rfl, .ref a, rfl, a, _, rfl, .inr ha1.sq, _, _, rfl, rfl, by rw [List.length_map]; omega, a, _, ((k + 1) % rs.length : Nat), .int y, rfl, by rw [List.length_map]; rfl, ha1.sq, at1 e2, by show 2 ≤ sizeLine; decide, fun p np => ?_⟩
    have s2 := s1.trans (same_new (o := .lst [.int x, .int y]) np)
    have ha2 := ha.same s2
    have hb2 := hb.same s2
    have hp2 := upd_same (H := H1) (a := p) (o := .lst [.int x, .int y])
    generalize upd H1 p (.lst [.int x, .int y]) = H2 at s2 ha2 hb2 hp2
    refine ⟨.ref a, rfl, ⟨a, _, rfl, ha2⟩, .ref a, rfl, .int k, rfl, a, _, k, .int x, rfl, rfl, ha2.sq, at1 e1, a, rs, x, rfl, rfl, ha2.sq, rfl, _, rfl, ?_⟩
    by_cases c1 : rs.count x = 1
    case neg =>
      rw [show decide (V.int (rs.count x : Nat) = V.int 1) = false from decide_eq_false (fun z => c1 (by have := V.int.inj z; omega))]
      exact qF (.inl (nrs e1 c1)) _ s2
    rw [c1]
    refine ⟨.ref b, rfl, ⟨b, _, rfl, hb2⟩, .ref b, rfl, .int k, rfl, b, _, k, .int m, rfl, rfl, hb2.sq, at1 e3, b, ms, m, rfl, rfl, hb2.sq, rfl, _, rfl, ?_⟩
    by_cases c2 : ms.count m = 1
    case neg =>
      rw [show decide (V.int (ms.count m : Nat) = V.int 1) = false from decide_eq_false (fun z => c2 (by have := V.int.inj z; omega))]
      exact qF (.inr (.inl (nrs e3 c2))) _ s2
    rw [c2]
    obtain ⟨u, eu, c, rfl, hc⟩ := Paired.at' hp e4
    have hc2 := s2 _ _ hc
    refine ⟨.ref wa, rfl, wa, _, 1, .ref wb, rfl, rfl, SqT.of (s2 _ _ hwa), rfl, .ref b, rfl, .int k, rfl, b, _, k, .int m, rfl, rfl, hb2.sq, at1 e3, wb, us, m, .ref c, rfl, rfl, SqT.of (s2 _ _ hwb), atI_of m0 eu, 2, rfl, c, _, rfl, hc2, fun r1 H3 s3 h3 => ?_⟩
    have ec : cutV [V.int t.one, V.int t.other, V.str (kindS t.foe)] none (some 2) = [t.one, t.other].map V.int := rfl
    rw [ec] at h3
    refine ⟨r1, _, rfl, .inr (SqT.of h3), fun l nl => ?_⟩
    have s4 := s3.trans (same_new (o := .lst ([t.one, t.other].map V.int)) nl)
    have hp4 := s4 _ _ hp2
    refine ⟨.ref p, rfl, .ref p, rfl, p, _, rfl, SqL.of hp4, fun p' np' => ⟨by show 2 ≤ sizeLine; decide, fun L nL => ?_⟩⟩
    have e5 := same_new (o := .lst [V.int x, V.int y].reverse) np'
    have e6 := same_new (o := .lst [.ref p, .ref p']) nL
    have dl : ∀ {H' : Hp} {a : Addr} {zs : List Int}, H' a = some (.lst (zs.map V.int)) → Dp K H' (.ref a) (listD zs) := fun h => .lst (SqL.of h) (dp_ints _)
    refine ⟨listD [t.one, t.other], [listD [x, y], listD [y, x]], dl (e6 _ _ (e5 _ _ upd_same)), .lst (SqL.of upd_same) (.cons (dl (zs := [x, y]) (e6 _ _ (e5 _ _ hp4))) (.cons (dl (zs := [y, x]) (e6 _ _ upd_same)) .nil)), shaped_listD _, shaped_two _ _, _, rfl, ?_⟩
    have ea : ([listD [x, y], listD [y, x]].any fun z => PyData.eqv z (listD [t.one, t.other])) = joinB t x y := by
      rw [List.any_cons, List.any_cons, List.any_nil, Bool.or_false, eqv_listD, eqv_listD]
      unfold joinB
      congr 1
      · rw [Bool.eq_iff_iff, Bool.and_eq_true, decide_eq_true_iff, decide_eq_true_iff, decide_eq_true_iff]
        constructor
        · intro z
          simp only [List.cons.injEq, and_true] at z
          exact ⟨z.1.symm, z.2.symm⟩
        · intro z
          rw [z.1, z.2]
      · rw [Bool.eq_iff_iff, Bool.and_eq_true, decide_eq_true_iff, decide_eq_true_iff, decide_eq_true_iff]
        constructor
        · intro z
          simp only [List.cons.injEq, and_true] at z
          exact ⟨z.1.symm, z.2.symm⟩
        · intro z
          rw [z.1, z.2]
    rw [ea]
    have s7 := s2.trans (s4.trans (e5.trans e6))
    cases hj : joinB t x y with
    | false =>
      refine qF (.inr (.inr ?_)) _ s7
      unfold ringI
      rw [Bool.eq_false_iff]
      intro z
      rw [List.all_eq_true] at z
      have := z k (List.mem_range.mpr (by omega))
      rw [em, ex, ey, htt, hj] at this
      cases this
    | true =>
      refine ⟨_, _, rfl, s7, fun j hjk => ?_⟩
      by_cases e : j = k
      · subst e
        rw [ex, ey, em, htt]
        exact ⟨c1, c2, hj⟩
      · exact al j (by omega)
end
/-! ### sorted(set(t)) of a tuple of ints, any number of them -/
section
open L2
variable {P : Program} {w : World} {A : PySem.Around} {E : Value → Shared → Prop} {s : Shared} {a : Addr}
theorem sorted_setN {S : Int → Bool} {n : Nat} {Q : Value → Shared → Prop} (R : SetR w s.heap a S n) (hh : A.handled = none) (h4 : n ≤ 4000)
    (hQ : ∀ s' p (out : Array Value) (c : Nat) (ns : List Int), (∀ b o, s.heap.get? b = some o → s'.heap.get? b = some o) → s'.gens = s.gens → s'.os = s.os → s.heap.objs.size ≤ p →
      s'.heap.get? p = some (seqObj "list" out c) → IntsAre out.toList ns → ns.Pairwise (· < ·) → (∀ k, k ∈ ns ↔ S k = true) → ns.length = n → Q (.ref p) s') :
    wpAny (model P w) A (call (.builtin "sorted") [.ref a]) Q E s := by
  obtain ⟨o, es, ep, t, ho, hex, hd, g, nd, hm, hb, hf, hn, hr, hl⟩ := R
  refine Calls.call_function_entry kind_sorted plain_sorted entry_sorted (args_sorted1 _) ?_
  unfold Builtin.«sorted»
  refine wpAny_bind (m := checkCount "sorted" 1 1 _) (wpAny_pure ?_)
  refine wpAny_bind (collect_set (A := A.in1) hh ⟨o, ho, hex.1, hd⟩ hf hb hr hl fun s1 vs k1 hz g1 o1 pm => ?_)
  have hvl : vs.length = n := by rw [pm.length_eq, List.length_map, Array.length_toList]; exact hn
  have hI : IntsAre vs (vs.map Builtin.Re.reRawOf) := L2.ints_of vs fun v hv => by
    obtain ⟨e, he, q⟩ := List.mem_map.mp (pm.mem_iff.mp hv)
    obtain ⟨k, tk, h1, _⟩ := g e he
    exact ⟨k, tk, by rw [← q]; exact h1⟩
  have pk : (vs.map Builtin.Re.reRawOf).Perm (es.toList.map keyOf) := by
    have q := pm.map Builtin.Re.reRawOf
    rw [List.map_map] at q
    exact q
  refine wpAny_bind (wpAny_newList ?_ (by rw [hvl, sizeLine_eq]; omega))
  have hoL : (s1.heap.push (seqObj "list" vs.toArray 0)).get? s1.heap.objs.size = some (seqObj "list" vs.toArray 0) := Heap.get?_push_size _ rfl
  refine wpAny_bind (wpAny_holding (wpAny_call_entry slot_list_sort ⟨_, hoL, rfl⟩ entry_list_sort (SrtO.list_sort_ord SrtO.swo_int hoL (by rw [hvl, sizeLine_eq]; omega) (fun h2 => SrtO.ints_sortable hI h2) fun out h1 h2 => ⟨_, rfl, ?_⟩) (args_list_sort _)))
  obtain ⟨a1, a2, a3⟩ := SrtO.ints_out hI h1 h2
  obtain ⟨c, hc⟩ := sortedHeap_at (vs := vs) (out := out.toArray) hoL
  have pn : (out.map SrtO.iv).Perm (es.toList.map keyOf) := a2.trans pk
  refine wpAny_pure ⟨_, rfl, hQ _ s1.heap.objs.size out.toArray c (out.map SrtO.iv) (fun b u e => ?_) g1 o1 hz hc (by simpa using a1) (lt_of_le_nodup _ a3 (pn.nodup_iff.mpr nd)) (fun k => by rw [pn.mem_iff, ← hm k]) ?_⟩
  · have q := k1 b u e
    have hlt := Heap.lt_size q
    show (sortedHeap (s1.heap.push (seqObj "list" vs.toArray 0)) s1.heap.objs.size vs out.toArray).get? b = some u
    rw [sortedHeap_old (Nat.ne_of_lt hlt) (by rw [size_push']; exact Nat.lt_succ_of_lt hlt)]
    exact Heap.get?_push_of_some _ q
  · rw [pn.length_eq, List.length_map, Array.length_toList]; exact hn
end
def tSortSet (K : PySem.W.Frag) (ta : TE) : TE := fun σ H Q => ta σ H fun x H1 => ∃ (l : Addr) (ns : List Int), x = .ref l ∧ SqT K H1 l (ns.map V.int) ∧ ns.length ≤ 4000 ∧ ∀ (ks : List Int) (p : Addr), ks.Pairwise (· < ·) → (∀ k, k ∈ ks ↔ k ∈ ns) → H1 p = none → Q (.ref p) (upd H1 p (.lst (ks.map V.int)))
theorem pe_sortSetT {X : Cx} {a : Expr} {ta : TE} {p p2 q pos : Pos} (hg : Gl X "sorted") (hm : X.mg "sorted" = none) (hg2 : Gl X "set") (hm2 : X.mg "set" = none) (ha : PE X a ta) (hc : X.calm = true := by rfl)
    (na : starEach [a] X.env = (false, eval a X.env) :: starEach [] X.env := by rfl) : PE X (.Call (.Name "sorted" p) [.Call (.Name "set" p2) [a] [] q] [] pos) (tSortSet X.K ta) := by
  refine ⟨fun pins s σ H Q I want => Call_ (ld_blt I hg hm (show bootBuiltins "sorted" = some (.builtin "sorted") by decide +kernel) (PyProof.Rows.callWith_builtin1 (PyProof.Rows.args_cons (Call_ (ld_blt I hg2 hm2 PyProof.Rows.boot_set (PyProof.Rows.callWith_type1 (PyProof.Rows.args_cons (thn (ha.run pins s σ H _ I want) fun v s1 got => PyProof.Rows.args_nil ?_) na) na rfl))) rfl) rfl rfl))⟩
  obtain ⟨x, H1, J, r1, l, ns, ex, hq, hl, q1⟩ := got
  subst ex
  obtain rfl : v = Value.ref l := r1
  obtain ⟨its, rel, tup, _⟩ := J.tuple hq
  refine call_set_tupI ns (J.ok.hd hc) tup (by simpa using rel.ints) (by unfold scanBound; omega) fun h' tk c hS hcl kp => PyProof.Rows.args_nil ?_
  have J2 : Inv X pins σ H1 { s1 with heap := h', toks := tk } := J.kept kp
  have cl : c ≤ 4000 := by
    obtain ⟨o, es, ep, t, ho, hex, hd, _, nd, mem, _, hf, hn, _⟩ := hS
    have len : (es.toList.map keyOf).length = c := by rw [List.length_map, Array.length_toList, hn]
    have := sub_len nd (ns := ns) fun y hy => by
      have := (mem y).mpr hy
      exact of_decide_eq_true this
    omega
  obtain ⟨s2, es2⟩ : ∃ s2 : Shared, s2 = { s1 with heap := h', toks := tk } := ⟨_, rfl⟩
  rw [← es2] at J2
  show wpAny _ _ _ _ _ { s1 with heap := h', toks := tk }
  rw [← es2]
  refine sorted_setN (by rw [es2]; exact hS) (J2.ok.hd hc) cl fun s' p out c' ks k g o hp hg' hi hs hm' hl' => ?_
  have hlen : (ks.map V.int).length ≤ sizeLine := by rw [List.length_map, hl', sizeLine_eq]; omega
  have hn : H1 p = none := J2.hok.fresh hp
  have J3 : Inv X pins σ (upd H1 p (.lst (ks.map V.int))) { s2 with heap := s'.heap, gens := s'.gens, drawn := s'.drawn, toks := s'.toks } :=
    J2.call (ch := []) (Un.laid k hp hn) (J2.hok.laid k hp ⟨hlen, out.toList, c', vals_of_ints hi, hg'⟩) (by rw [g]; exact J2.bare) (fun _ z => nomatch z)
  have e : s' = { s2 with heap := s'.heap, gens := s'.gens, drawn := s'.drawn, toks := s'.toks } := by
    cases s'
    cases s2
    cases o
    rfl
  rw [e]
  exact ⟨.ref p, _, J3, rfl, q1 ks p hs (fun z => by rw [hm' z, decide_eq_true_iff]) hn⟩
/-! ### k27: what is due -/
def isS : V → Bool
  | .str _ => true
  | _ => false
theorem kn_str {K : PySem.W.Frag} {H : Hp} {v : V} (h : Kn H v) : ∃ t, TyX K H v t ∧ PySem.W.kitOne K t (.type "str") = some (isS v) := by
  cases v with
  | non => exact ⟨_, .base .non, kit_ty (r := false) (by decide +kernel)⟩
  | bl b => exact ⟨_, .base (.bl b), kit_ty (r := false) (by decide +kernel)⟩
  | int i => exact ⟨_, .base (.int i), kit_ty (r := false) (by decide +kernel)⟩
  | str x => exact ⟨_, .base (.str x), kit_ty (r := true) (by decide +kernel)⟩
  | ref a =>
    rcases h with ⟨xs, h⟩ | ⟨xs, h⟩ | ⟨xs, h⟩
    · exact ⟨_, .base (.lst h), kit_ty (r := false) (by decide +kernel)⟩
    · exact ⟨_, h.tyx, kit_ty (r := false) (by decide +kernel)⟩
    · exact ⟨_, .base (.dK h), kit_ty (r := false) (by decide +kernel)⟩
  | byt b => exact h.elim
  | flt b => exact h.elim
  | ty n => exact h.elim
theorem foes_two {ts us : List Tie} (ll : us.length = ts.length) : ∀ {ms : List Int}, (∀ m ∈ ms, 0 ≤ m ∧ m < (ts.length : Int)) → (foesI ts ms + foesI us ms) % 2 = foesI (betw ts us) ms % 2
  | [], _ => rfl
  | m :: ms, h => by
    have ih := foes_two ll (ms := ms) fun x hx => h x (List.mem_cons_of_mem _ hx)
    obtain ⟨m0, m1⟩ := h m (by simp)
    have et := tieAt_get (ts := ts) m0 m1
    have eu := tieAt_get (ts := us) m0 (by omega)
    have ec := betw_get et eu
    have ec2 : tieAt (betw ts us) m = xorT (tieAt ts m, tieAt us m) := by
      have z := tieAt_get (ts := betw ts us) m0 (by rw [betw_len ll]; exact m1)
      rw [ec] at z
      exact (Option.some.inj z).symm
    have st : ∀ zs : List Tie, foesI zs (m :: ms) = (if (tieAt zs m).foe = true then 1 else 0) + foesI zs ms := fun zs => by
      unfold foesI
      rw [List.filter_cons]
      split
      · rw [List.length_cons]; omega
      · omega
    rw [st, st, st, ec2]
    show _ = ((if ((tieAt ts m).foe ^^ (tieAt us m).foe) = true then 1 else 0) + _) % 2
    cases (tieAt ts m).foe <;> cases (tieAt us m).foe <;> simp <;> omega
theorem ring_betw {H : Hp} {n : Int} {ts us : List Tie} (ll : us.length = ts.length) (v : V) : ringB H n (betw ts us) v = ringB H n ts v := by
  unfold ringB
  cases parts H v with
  | none => rfl
  | some xs =>
    match xs with
    | [] => rfl
    | [_] => rfl
    | _ :: _ :: _ :: _ => rfl
    | [p, t] =>
      show ringP n (betw ts us) (parts H p) (parts H t) = ringP n ts (parts H p) (parts H t)
      cases parts H p with
      | none => rfl
      | some ps =>
        cases parts H t with
        | none => rfl
        | some es =>
          show (_ && (unl ((betw ts us).length : Nat) (some es) && (_ && (_ && ringI (betw ts us) _ _)))) = (_ && (unl (ts.length : Nat) (some es) && (_ && (_ && ringI ts _ _))))
          rw [betw_len ll]
          cases hu : unl (ts.length : Nat) (some es) with
          | false => rfl
          | true =>
            have hb : es.all (wbelow (ts.length : Nat)) = true := (Bool.and_eq_true_iff.mp hu).1
            obtain ⟨ms, rfl, msb⟩ := ints_of hb
            congr 4
            unfold ringI
            rw [toI_map]
            have ea : ∀ {l : List Nat} {f g : Nat → Bool}, (∀ x ∈ l, f x = g x) → l.all f = l.all g := fun {l f g} h => by
              rw [Bool.eq_iff_iff, List.all_eq_true, List.all_eq_true]
              exact ⟨fun z x hx => (h x hx) ▸ z x hx, fun z x hx => (h x hx) ▸ z x hx⟩
            refine ea fun k hk => ?_
            have hk := List.mem_range.mp hk
            have hm : ms.getD k 0 ∈ ms := by
              rw [List.getD_eq_getElem?_getD, List.getElem?_eq_getElem hk]
              exact List.getElem_mem hk
            obtain ⟨m0, m1⟩ := msb _ hm
            have et := tieAt_get (ts := ts) m0 m1
            have eu := tieAt_get (ts := us) m0 (by omega)
            have ec := betw_get et eu
            have z := tieAt_get (ts := betw ts us) m0 (by rw [betw_len ll]; exact m1)
            rw [ec] at z
            rw [← Option.some.inj z]
            rfl
section
variable {P : Program} {w : World} {K : PySem.W.Frag} {mg : Str → Option Value} {base : Heap}
set_option maxHeartbeats 4000000 in
theorem ok_l_due {f : Addr} {fd : FuncData} (F : Fun K "_law_due" "_law_due" s_l_due f fd) (M : Free mg) (m_set : mg "set" = none) (m_sorted : mg "sorted" = none) (D_l_are_numbers : Df P w K mg base 1 "_law_are_numbers" ["_law_thing", "_law_many"] spNums27) (D_l_about : Df P w K mg base 1 "_law_about" ["_law_web_here", "_law_places_here"] spAbout) (D_l_is_ring : Df P w K mg base 2 "_law_is_ring" ["_law_web_here", "_law_thing"] spIsRing27) (D_l_foes : Df P w K mg base 1 "_law_foes" ["_law_web_here", "_law_ring"] spFoes) : FnOk P w K mg base CX0 3 f fd ["_law_one", "_law_other_here", "_law_thing"] spDue27 := by
  obtain ⟨f_l_are_numbers, fd_l_are_numbers, G_l_are_numbers, g_l_are_numbers, k_l_are_numbers, b_l_are_numbers⟩ := D_l_are_numbers
  obtain ⟨f_l_about, fd_l_about, G_l_about, g_l_about, k_l_about, b_l_about⟩ := D_l_about
  obtain ⟨f_l_is_ring, fd_l_is_ring, G_l_is_ring, g_l_is_ring, k_l_is_ring, b_l_is_ring⟩ := D_l_is_ring
  obtain ⟨f_l_foes, fd_l_foes, G_l_foes, g_l_foes, k_l_foes, b_l_foes⟩ := D_l_foes
  refine F.ok sc_l_due (fun vs H Q E h => ?_) (fun cdv A outer s H vs Q E hr h => ?_)
  · obtain ⟨v, u, t, n, ts, us, rfl, _⟩ := h
    rfl
  · obtain ⟨v, u, t, n, ts, us, rfl, hW, hU, ok, ok', ll, hf, hj, q⟩ := h
    refine ⟨_, (pss_cons (ps_if (PW.pt (pw_or (pt_not (pt_val (pe_callB call_isi (by rfl) M.isinstance (by decide +kernel) (pa_cons (pv 2) (pa_cons (pe_bltn (v := .ty "tuple") (by rfl) M.tuple (by decide +kernel) rfl) pa_nil))))) (pw_or (pt_cmpR op_ne (pe_callB call_len_seq (by rfl) M.len PySem.boot_len (pa_cons (pv 2) pa_nil)) pe_int (nomark _)) (pw_or1 (pt_not (pt_val (pe_callB call_isi (by rfl) M.isinstance (by decide +kernel) (pa_cons (pe_ix ix_tup (pv 2) pe_int (fun _ _ => rfl)) (pa_cons (pe_bltn (v := .ty "str") (by rfl) M.str (by decide +kernel) rfl) pa_nil)))))))))
        (pss_one (ps_ret pe_bl))
        pss_nil)
      (pss_cons (ps_if (pt_cmpR (op_eqAS hr.units0) (pe_ix ix_tup (pv 2) pe_int (fun _ _ => rfl)) pe_str (nomark _))
        (pss_cons (ps_if (PW.pt (pw_or (pt_not (pt_val (pe_call G_l_are_numbers (hr.mono (by decide)) (by rfl) g_l_are_numbers k_l_are_numbers b_l_are_numbers .nil pass0 (pa_cons (pe_ix ix_tup (pv 2) pe_int (fun _ _ => rfl)) (pa_cons (pe_ix ix_tup (pv 0) pe_int (fun _ _ => rfl)) pa_nil))))) (pw_or1 (pt_cmpR (op_neD hr.units) (pe_callTy call_list_of (by rfl) M.list (by decide +kernel) (pa_cons (pe_ix ix_tup (pv 2) pe_int (fun _ _ => rfl)) pa_nil)) (pe_sortSetT (by rfl) m_sorted (by rfl) m_set (pe_ix ix_tup (pv 2) pe_int (fun _ _ => rfl))) (nomark _)))))
          (pss_one (ps_ret pe_bl))
          pss_nil)
        (pss_one (ps_ret (pe_cmpR (op_eqD hr.units) (pe_lc (own := [("_law_tie", 3)]) (g := (gName 3)) (tt := tYes) rfl sc_l_due.nd (pi_tup (pe_ix ix_tup (pe_call G_l_about (hr.mono (by decide)) (by rfl) g_l_about k_l_about b_l_about .nil pass0 (pa_cons (pv 0) (pa_cons (pe_ix ix_tup (pv 2) pe_int (fun _ _ => rfl)) pa_nil))) pe_int (fun _ _ => rfl))) (blkOk_by (N := N_l_due) (sc := defScope s_l_due) (own := [("_law_tie", 3)]) (by decide +kernel)) (fun _ _ _ _ _ => (pg_name (i := 3) sc_l_due.nd rfl (.inl rfl))) (fun _ _ _ _ _ => pts_nil) (fun _ _ _ _ _ => (pe_ix (r := rIxT K) ix_tup (pv 3) pe_int (fun _ _ => rfl)))) (pe_lc (own := [("_law_tie", 3)]) (g := (gName 3)) (tt := tYes) rfl sc_l_due.nd (pi_tup (pe_ix ix_tup (pv 1) pe_int (fun _ _ => rfl))) (blkOk_by (N := N_l_due) (sc := defScope s_l_due) (own := [("_law_tie", 3)]) (by decide +kernel)) (fun _ _ _ _ _ => (pg_name (i := 3) sc_l_due.nd rfl (.inl rfl))) (fun _ _ _ _ _ => pts_nil) (fun _ _ _ _ _ => (pe_ix (r := rIxT K) ix_tup (pv 3) pe_int (fun _ _ => rfl)))) (nomark _)))))
        pss_nil)
      (pss_cons (ps_if (PW.pt (pw_or (pt_cmpR op_ne (pe_ix ix_tup (pv 2) pe_int (fun _ _ => rfl)) pe_str (nomark _)) (pw_or1 (pt_not (pt_val (pe_call G_l_is_ring (hr.mono (by decide)) (by rfl) g_l_is_ring k_l_is_ring b_l_is_ring .nil pass0 (pa_cons (pv 0) (pa_cons (pe_ix ix_tup (pv 2) pe_int (fun _ _ => rfl)) pa_nil))))))))
        (pss_one (ps_ret pe_bl))
        pss_nil)
      (pss_one (ps_ret (pe_cmpR op_eq (pe_op op_mod (pe_op op_add (pe_call G_l_foes (hr.mono (by decide)) (by rfl) g_l_foes k_l_foes b_l_foes .nil pass0 (pa_cons (pv 0) (pa_cons (pe_ix ix_tup (pv 2) pe_int (fun _ _ => rfl)) pa_nil))) (pe_call G_l_foes (hr.mono (by decide)) (by rfl) g_l_foes k_l_foes b_l_foes .nil pass0 (pa_cons (pv 1) (pa_cons (pe_ix ix_tup (pv 2) pe_int (fun _ _ => rfl)) pa_nil)))) pe_int) pe_int (nomark _))))))), ?_⟩
    obtain ⟨t1, h1, e1⟩ := kn_tup (K := K) hj.kn
    refine ⟨t, rfl, t, _, t1, _, _, rfl, .ty "tuple", h1, e1, _, rfl, ?_⟩
    cases hi : isT H t with
    | false =>
      have e2 : jB H n ts us t = false := by unfold jB; rw [parts_none hi]
      rw [e2] at q
      exact q _ (Same.refl H)
    | true =>
    obtain ⟨a, xs, rfl, ea⟩ := isT_at hi
    have hpv := parts_of' ea
    refine ⟨.ref a, rfl, a, _, rfl, .inr ea.sq, rfl, _, rfl, ?_⟩
    match xs, hpv, ea with
    | [], hpv, ea =>
      have e2 : jB H n ts us (.ref a) = false := by unfold jB; rw [hpv]
      rw [e2] at q
      exact q _ (Same.refl H)
    | [_], hpv, ea =>
      have e2 : jB H n ts us (.ref a) = false := by unfold jB; rw [hpv]
      rw [e2] at q
      exact q _ (Same.refl H)
    | _ :: _ :: _ :: zs, hpv, ea =>
      have e2 : jB H n ts us (.ref a) = false := by unfold jB; rw [hpv]
      rw [e2] at q
      rw [show decide (V.int ((_ :: _ :: _ :: zs : List V).length : Nat) = V.int 2) = false from decide_eq_false (fun z => by have := V.int.inj z; simp only [List.length_cons] at this; omega)]
      exact q _ (Same.refl H)
    | [x, y], hpv, ea =>
    have e2 : jB H n ts us (.ref a) = (if decide (x = .str "turned") = true then riseB H n y && decide (foeK (ts.map (turnT (rowI H y))) = foeK us) else decide (x = .str "ring") && oddB H n (betw ts us) y) := by unfold jB; rw [hpv]
    rw [e2] at q
    obtain ⟨_, _, _, _, hx⟩ := hj.parts hpv
    have hX := hx x (by simp)
    have hY := hx y (by simp)
    clear e1 e2 h1 hi
    obtain ⟨t2, h2, e2⟩ := kn_str (K := K) hX.kn
    refine ⟨.ref a, rfl, a, _, 0, x, rfl, rfl, ea.sq, rfl, x, _, t2, _, _, rfl, .ty "str", h2, e2, _, rfl, ?_⟩
    cases hs : isS x with
    | false =>
      have n1 : ∀ z : Str, decide (x = .str z) = false := fun z => decide_eq_false (fun e => by rw [e] at hs; cases hs)
      rw [n1, n1, if_neg (by decide), Bool.false_and] at q
      exact q _ (Same.refl H)
    | true =>
    refine ⟨.ref a, rfl, a, _, 0, x, rfl, rfl, ea.sq, rfl, _, rfl, hX.kn, _, rfl, ite2 (fun hw => ?_) (fun hw => ?_)⟩
    · rw [if_pos hw] at q
      obtain ⟨wa, wb, xs', rfl, hwa, hwb, hp⟩ := id hW
      refine ⟨.ref a, rfl, a, _, 1, y, rfl, rfl, ea.sq, rfl, .ref wa, rfl, wa, _, 0, .int n, rfl, rfl, SqT.of hwa, rfl, y, n, rfl, hY.row, _, rfl, ?_⟩
      cases hn : numB H n y with
      | false =>
        have e : riseB H n y = false := by
          unfold numB at hn
          unfold riseB
          cases h1 : parts H y with
          | none => rfl
          | some ps =>
            rw [h1] at hn
            have hn : ps.all (wbelow n) = false := hn
            show (ps.all (wbelow n) && _) = false
            rw [hn, Bool.false_and]
        rw [e, Bool.false_and] at q
        exact q _ (Same.refl H)
      | true =>
      unfold numB at hn
      cases h1 : parts H y with
      | none => rw [h1] at hn; cases hn
      | some ps =>
      rw [h1] at hn
      have hn : ps.all (wbelow n) = true := hn
      obtain ⟨pa, rfl, hpa, lps, _⟩ := hY.parts h1
      obtain ⟨ks, rfl, ksb⟩ := ints_of hn
      rw [List.length_map] at lps
      have eR : riseB H n (.ref pa) = decide (ks.Pairwise (· < ·)) := by
        unfold riseB
        rw [h1]
        show (_ && chainB (ks.map V.int)) = _
        rw [hn, Bool.true_and, Bool.eq_iff_iff, chain_ints, decide_eq_true_iff]
      have eI : rowI H (.ref pa) = ks := by unfold rowI; rw [h1]; exact toI_map ks
      rw [eR, eI] at q
      refine ⟨.ref a, rfl, a, _, 1, .ref pa, rfl, rfl, ea.sq, rfl, pa, _, rfl, .inr hpa.sq, fun l1 nl1 => ?_⟩
      have s1 := same_new (o := .lst (ks.map V.int)) nl1
      have hl1 := upd_same (H := H) (a := l1) (o := .lst (ks.map V.int))
      generalize upd H l1 (.lst (ks.map V.int)) = H1 at s1 hl1
      have ea1 := ea.same s1
      have hpa1 := hpa.same s1
      refine ⟨.ref a, rfl, a, _, 1, .ref pa, rfl, rfl, ea1.sq, rfl, pa, ks, rfl, hpa1.sq, by omega, fun zs l2 pz mz nl2 => ?_⟩
      have s2 := same_new (o := .lst (zs.map V.int)) nl2
      have hl2 := upd_same (H := H1) (a := l2) (o := .lst (zs.map V.int))
      generalize upd H1 l2 (.lst (zs.map V.int)) = H2 at s2 hl2
      have dl : ∀ {H' : Hp} {a : Addr} {zs : List Int}, H' a = some (.lst (zs.map V.int)) → Dp K H' (.ref a) (listD zs) := fun h => .lst (SqL.of h) (dp_ints _)
      refine ⟨listD ks, listD zs, dl (s2 _ _ hl1), dl hl2, shaped_listD _, shaped_listD _, _, rfl, ?_⟩
      rw [eqv_listD]
      have s12 := s1.trans s2
      by_cases hrise : ks.Pairwise (· < ·)
      case neg =>
        rw [decide_eq_false hrise, Bool.false_and] at q
        rw [decide_eq_false (fun z => hrise ((sorted_same pz mz).mp z))]
        exact q _ s12
      rw [decide_eq_true ((sorted_same pz mz).mpr hrise)]
      rw [decide_eq_true hrise, Bool.true_and] at q
      have ea2 := ea1.same s2
      have hW2 := hW.tk (Same.tk s12)
      refine ⟨.ref wa, rfl, .ref a, rfl, a, _, 1, .ref pa, rfl, rfl, ea2.sq, rfl, .ref wa, pa, n, ts, ks, rfl, hW2, ok.few, hpa1.same s2, hrise.imp fun h => by omega, fun z H3 s3 hZ => ?_⟩
      obtain ⟨za, zb, vs, rfl, hza, hzb, hq⟩ := hZ
      have lvs : vs.length = (ts.map (turnT ks)).length := Paired.length hq
      have few := ok.few
      have lmt : (ts.map (turnT ks)).length = ts.length := List.length_map ..
      refine ⟨za, _, 1, .ref zb, rfl, rfl, SqT.of hza, rfl, zb, rfl, ⟨_, SqT.of hzb⟩, fun Z nZ => ?_⟩
      refine lc_tup (K := K) (xs := vs) (fun i H' => H' Z = some (.lst (((ts.map (turnT ks)).take i).map fun t => V.str (kindS t.foe))) ∧ Same H3 H') ⟨upd_same, same_new nZ⟩ (fun i H' _ h => SqT.of (h.2 _ _ hzb)) ?_ ?_
      · rintro i x H4 ex ⟨hZ4, s4⟩
        obtain ⟨t, et, c, rfl, hc⟩ := Paired.at hq ex
        have il := (List.getElem?_eq_some_iff.mp et).1
        refine ⟨rfl, .ref c, rfl, c, _, 2, _, rfl, rfl, SqT.of (s4 _ _ hc), rfl, _, hZ4, by rw [List.length_map, List.length_take]; exact small1000 (by omega), ?_, Same.mut s4 nZ⟩
        rw [upd_same, List.take_add_one, et, List.map_append]
        rfl
      rintro H4 ⟨hZ4, s4⟩
      rw [List.take_of_length_le (by omega)] at hZ4
      have s04 := (s12.trans s3).trans s4
      obtain ⟨ua, ub, vs', rfl, hua, hub, hq'⟩ := hU.tk (Same.tk s04)
      have lvs' : vs'.length = us.length := Paired.length hq'
      have few' := ok'.few
      refine ⟨.ref ua, rfl, ua, _, 1, .ref ub, rfl, rfl, SqT.of hua, rfl, ub, rfl, ⟨_, SqT.of hub⟩, fun Y nY => ?_⟩
      refine lc_tup (K := K) (xs := vs') (fun i H' => H' Y = some (.lst ((us.take i).map fun t => V.str (kindS t.foe))) ∧ Same H4 H') ⟨upd_same, same_new nY⟩ (fun i H' _ h => SqT.of (h.2 _ _ hub)) ?_ ?_
      · rintro i x H5 ex ⟨hY5, s5⟩
        obtain ⟨t, et, c, rfl, hc⟩ := Paired.at hq' ex
        have il := (List.getElem?_eq_some_iff.mp et).1
        refine ⟨rfl, .ref c, rfl, c, _, 2, _, rfl, rfl, SqT.of (s5 _ _ hc), rfl, _, hY5, by rw [List.length_map, List.length_take]; exact small1000 (by omega), ?_, Same.mut s5 nY⟩
        rw [upd_same, List.take_add_one, et, List.map_append]
        rfl
      rintro H5 ⟨hY5, s5⟩
      rw [List.take_of_length_le (by omega)] at hY5
      refine ⟨_, _, kinds_dp (s5 _ _ hZ4), kinds_dp hY5, shaped_kindsD _, shaped_kindsD _, ?_⟩
      rw [eqv_kinds]
      exact q _ (s04.trans s5)
    · rw [if_neg hw] at q
      refine ⟨.ref a, rfl, a, _, 0, x, rfl, rfl, ea.sq, rfl, ?_⟩
      obtain ⟨z, rfl⟩ : ∃ z, x = .str z := by cases x <;> first | exact ⟨_, rfl⟩ | cases hs
      refine ⟨rfl, _, rfl, ?_⟩
      cases hz : decide (V.str z = V.str "ring") with
      | false =>
        rw [hz, Bool.false_and] at q
        exact q _ (Same.refl H)
      | true =>
      rw [hz, Bool.true_and] at q
      refine ⟨v, rfl, .ref a, rfl, a, _, 1, y, rfl, rfl, ea.sq, rfl, v, y, n, ts, rfl, hW, ok, hY, fun H1 s1 => ⟨_, rfl, ?_⟩⟩
      have eO : oddB H n (betw ts us) y = (ringB H n ts y && (match parts H y with
        | some [_, t] => (match parts H t with
          | some es => decide (foesI (betw ts us) (es.map toI) % 2 = 1)
          | none => false)
        | _ => false)) := by
        unfold oddB
        rw [ring_betw ll] <;> rfl
      cases hb : ringB H n ts y with
      | false =>
        rw [eO, hb, Bool.false_and] at q
        exact q _ s1
      | true =>
      obtain ⟨r, pa, ta, pn, en, rfl, hr', hpa, hta, _, hen, _, _, _, _, _⟩ := ring_is hb
      have eO2 : oddB H n (betw ts us) (.ref r) = decide (foesI (betw ts us) en % 2 = 1) := by
        rw [eO, hb, Bool.true_and, parts_of' hr']
        simp only [parts_of' hta, toI_map]
      rw [eO2] at q
      have lm : en.length ≤ 1000 := by
        obtain ⟨_, _, _, _, hz2⟩ := hY.parts (parts_of' hr')
        obtain ⟨_, _, _, l3, _⟩ := (hz2 (.ref ta) (by simp)).parts (parts_of' hta)
        rw [List.length_map] at l3
        omega
      have ea1 := ea.same s1
      refine ⟨v, rfl, .ref a, rfl, a, _, 1, .ref r, rfl, rfl, ea1.sq, rfl, v, n, ts, r, ta, .ref pa, en, rfl, hW.tk (Same.tk s1), hr'.same s1, hta.same s1, hen, lm, fun H2 s2 => ?_⟩
      have s12 := s1.trans s2
      refine ⟨u, rfl, .ref a, rfl, a, _, 1, .ref r, rfl, rfl, (ea.same s12).sq, rfl, u, n, us, r, ta, .ref pa, en, rfl, hU.tk (Same.tk s12), hr'.same s12, hta.same s12, fun e he => by rw [ll]; exact hen e he, lm, fun H3 s3 => ?_⟩
      refine ⟨_, _, rfl, rfl, _, 2, rfl, rfl, show (0 : Int) < 2 by decide, rfl, ?_⟩
      have e3 : decide (V.int ((((foesI ts en : Nat) : Int) + ((foesI us en : Nat) : Int)) % 2) = V.int 1) = decide (foesI (betw ts us) en % 2 = 1) := by
        rw [← foes_two ll hen, decide_eq_decide]
        constructor
        · intro z
          have := V.int.inj z
          omega
        · intro z
          congr 1
          omega
      rw [← e3] at q
      exact q _ (s12.trans s3)
end
/-! ### k27: the places that ties lead to -/
def spCome27 : Sp := fun vs H Q _ => ∃ (v : V) (n : Nat) (s : Int) (ts : List Tie), vs = [v, .int s] ∧ WebAt H v n ts ∧ WebOk n ts ∧ 0 ≤ s ∧ s < n ∧ ∀ r (bs : List Bool) H', Same H H' → H' r = some (.lst (bs.map V.bl)) → bs.length = n → Q (.ref r) H'
structure CmI (n : Nat) (kvs : List (Key × V)) (ws : List Int) : Prop where
  val : ∀ x v, valV kvs (Sum.inl x : Key) = some v → v = .bl true
  few : kvs.length + lackN n kvs ≤ n
  wait : ws.length + lackN n kvs ≤ n
theorem CmI.put {n : Nat} {kvs : List (Key × V)} {ws : List Int} (h : CmI n kvs ws) {y : Int} (h0 : 0 ≤ y) (h1 : y < n) (no : valV kvs (Sum.inl y : Key) = none) : CmI n (putK kvs (Sum.inl y) (.bl true)) (ws ++ [y]) ∧ 2 * lackN n (putK kvs (Sum.inl y) (.bl true)) + (ws ++ [y]).length < 2 * lackN n kvs + ws.length := by
  have lp := lack_put (v := .bl true) h0 h1 no
  have pl := putK_le kvs (Sum.inl y) (.bl true)
  have a := h.few
  have b := h.wait
  refine ⟨⟨fun x v e => ?_, by omega, by simp only [List.length_append, List.length_cons, List.length_nil]; omega⟩, by simp only [List.length_append, List.length_cons, List.length_nil]; omega⟩
  rw [valV_put] at e
  split at e
  · exact (Option.some.inj e).symm
  · exact h.val x v e
section
variable {P : Program} {w : World} {K : PySem.W.Frag} {mg : Str → Option Value} {base : Heap}
set_option maxHeartbeats 4000000 in
theorem ok_l_come {f : Addr} {fd : FuncData} (F : Fun K "_law_come" "_law_come" s_l_come f fd) (M : Free mg) : FnOk P w K mg base CX0 1 f fd ["_law_web_here", "_law_start"] spCome27 := by
  refine F.ok sc_l_come (fun vs H Q E h => ?_) (fun cdv A outer s H vs Q E hr h => ?_)
  · obtain ⟨v, n, s, ts, rfl, _⟩ := h
    rfl
  · obtain ⟨v, n, s, ts, rfl, hW, ok, hs0, hs1, q⟩ := h
    have hu := room1 hr
    refine ⟨_, (pss_cons (ps_set (i := 2) sc_l_come.nd rfl (.inr rfl) (pe_disp (pps_cons (pv 1) pe_bl pps_nil) (by rfl) (by rfl) (fun z => by cases z) (by decide)))
      (pss_cons (ps_set (i := 3) sc_l_come.nd rfl (.inl rfl) (pe_lst (pa_cons (pv 1) pa_nil)))
      (pss_cons (ps_while PassesOwn.never (pt_cmpR (op_neE hr.units0) (pv 3) (pe_lst pa_nil) (nomark _))
        (pss_cons (ps_set (i := 4) sc_l_come.nd rfl (.inl rfl) (pe_bm0 PySem.F.plainAttrs_list PySem.F.slot_list_pop PySem.F.type_list_pop mt_pop (pv 3)))
        (pss_one (ps_for PassesOwn.never rfl (pi_tup (pe_ix ix_tup (pv 0) pe_int (fun _ _ => rfl))) (pg_name (i := 5) sc_l_come.nd rfl (.inl rfl))
          (pss_one (ps_if (PW.pt (pw_and (pt_cmpR op_in_seq (pv 4) (pe_slice sl_tupU (pv 5) po_none (po_some pe_int)) rfl) (pw_and1 (pt_cmp (pc_dnotin hu (pe_op op_sub (pe_callB (cr_sumTI rfl) (by rfl) M.sum (by decide +kernel) (pa_cons (pe_slice sl_tupU (pv 5) po_none (po_some pe_int)) pa_nil)) (pv 4)) (pv 2))))))
            (pss_cons (ps_dput hu (pv 2) (pe_op op_sub (pe_callB (cr_sumTI rfl) (by rfl) M.sum (by decide +kernel) (pa_cons (pe_slice sl_tupU (pv 5) po_none (po_some pe_int)) pa_nil)) (pv 4)) pe_bl rfl)
            (pss_one (ps_expr (pe_bm PySem.F.plainAttrs_list PySem.F.slot_list_append PySem.F.type_list_append mt_append (pv 3) (pa_cons (pe_op op_sub (pe_callB (cr_sumTI rfl) (by rfl) M.sum (by decide +kernel) (pa_cons (pe_slice sl_tupU (pv 5) po_none (po_some pe_int)) pa_nil)) (pv 4)) pa_nil)))))
            pss_nil))))))
      (pss_one (ps_ret (pe_lc (own := [("_law_place", 6)]) (g := (gName 6)) (tt := tYes) rfl sc_l_come.nd (pi_range1 (by rfl) M.range (pa_cons (pe_ix ix_tup (pv 0) pe_int (fun _ _ => rfl)) pa_nil)) (blkOk_by (N := N_l_come) (sc := defScope s_l_come) (own := [("_law_place", 6)]) (by decide +kernel)) (fun _ _ _ _ _ => (pg_name (i := 6) sc_l_come.nd rfl (.inl rfl))) (fun _ _ _ _ _ => pts_nil) (fun _ _ _ _ _ => (pe_cmp (pc_din hu (pv 6) (pv 2)))))))))), ?_⟩
    obtain ⟨wa, wb, xs, rfl, hwa, hwb, hp⟩ := hW
    have lx : xs.length = ts.length := Paired.length hp
    have n1 := ok.lo
    have n40 := ok.hi
    have few := ok.few
    refine fun D nD => ⟨.int s, rfl, upd_same, [(Sum.inl s, .bl true)], rfl, by show 1 ≤ 15; decide, ?_⟩
    have sD : Same H (upd (upd H D (.dK [])) D (.dK (mergeK [] [(Sum.inl s, V.bl true)]))) := fun b o e => by rw [upd_ne (ne_of_none e nD), upd_ne (ne_of_none e nD)]; exact e
    have hD : (upd (upd H D (.dK [])) D (.dK (mergeK [] [(Sum.inl s, V.bl true)]))) D = some (.dK (putK [] (Sum.inl s) (.bl true))) := upd_same
    generalize (upd (upd H D (.dK [])) D (.dK (mergeK [] [(Sum.inl s, V.bl true)]))) = H1 at sD hD
    refine ⟨.int s, rfl, by show 1 ≤ sizeLine; decide, fun C nC => ?_⟩
    have nC0 : H C = none := sD.free nC
    have hCD : C ≠ D := fun z => by rw [z, hD] at nC; cases nC
    have hD2 := same_new (o := .lst [.int s]) nC _ _ hD
    have hC2 : (upd H1 C (.lst [.int s])) C = some (.lst ([s].map V.int)) := upd_same (H := H1) (a := C) (o := .lst [.int s])
    have s2 := sD.trans (same_new (o := .lst [.int s]) nC)
    generalize upd H1 C (.lst [.int s]) = H2 at hD2 hC2 s2
    have c0 : CmI n [] [] := ⟨(fun x v e => by cases e), by have := lack_le n []; simpa using this, by have := lack_le n []; simpa using this⟩
    have c1 := (c0.put hs0 hs1 rfl).1
    refine ⟨fun m σ' H' => ∃ (y4 y5 : Option V) (kvs : List (Key × V)) (ws : List Int), σ' = [some (.ref wa), some (.int s), some (.ref D), some (.ref C), y4, y5, none] ∧ H' D = some (.dK kvs) ∧ H' C = some (.lst (ws.map V.int)) ∧ CmI n kvs ws ∧ Same H H' ∧ m = 2 * lackN n kvs + ws.length, ⟨_, _, _, _, _, rfl, hD2, hC2, c1, s2, rfl⟩, ?_⟩
    clear hD2 hC2 s2 c0 c1 hD sD
    rintro m σ' H4 ⟨y4, y5, kvs, ws, rfl, hD4, hC4, c4, s4, hm⟩
    refine ⟨.ref C, rfl, Nat.zero_le _, fun e1 ne1 => ⟨C, e1, _, rfl, rfl, SqL.of (same_new ne1 _ _ hC4), SqL.of upd_same, _, rfl, ?_⟩⟩
    have hD5 := same_new (o := .lst []) ne1 _ _ hD4
    have hC5 := same_new (o := .lst []) ne1 _ _ hC4
    have s5 := s4.trans (same_new (o := .lst []) ne1)
    generalize upd H4 e1 (.lst []) = H5 at hD5 hC5 s5
    clear hD4 hC4 s4 ne1
    refine ite2 (fun hb => ?_) (fun hb => ?_)
    · cases hwl : ws with
      | nil => rw [hwl] at hb; cases hb
      | cons z zs =>
      obtain ⟨wl, p, ep⟩ : ∃ (wl : List Int) (p : Int), z :: zs = wl ++ [p] := ⟨(z :: zs).dropLast, (z :: zs).getLast (by simp), (List.dropLast_concat_getLast (by simp)).symm⟩
      rw [hwl, ep] at hC5 c4 hm
      have e3 : ((wl ++ [p]).map V.int).dropLast = wl.map V.int := by simp
      refine ⟨fun σ' H' => ∃ m', m' < m ∧ ∃ (y4 y5 : Option V) (kvs : List (Key × V)) (ws : List Int), σ' = [some (.ref wa), some (.int s), some (.ref D), some (.ref C), y4, y5, none] ∧ H' D = some (.dK kvs) ∧ H' C = some (.lst (ws.map V.int)) ∧ CmI n kvs ws ∧ Same H H' ∧ m' = 2 * lackN n kvs + ws.length, fun _ _ h => h, ?_⟩
      refine ⟨.ref C, rfl, .inl ⟨rfl, _, SqL.of hC5⟩, C, _, .int p, rfl, rfl, hC5, by simp, ?_⟩
      rw [e3]
      have hD6 : (upd H5 C (.lst (wl.map V.int))) D = some (.dK kvs) := by rw [upd_ne (Ne.symm hCD)]; exact hD5
      have hC6 : (upd H5 C (.lst (wl.map V.int))) C = some (.lst (wl.map V.int)) := upd_same
      have s6 : Same H (upd H5 C (.lst (wl.map V.int))) := Same.mut s5 nC0
      generalize upd H5 C (.lst (wl.map V.int)) = H6 at hD6 hC6 s6
      rw [List.length_append] at hm
      simp only [List.length_cons, List.length_nil] at hm
      have c6 : CmI n kvs wl := ⟨c4.val, c4.few, by have := c4.wait; rw [List.length_append] at this; omega⟩
      refine ⟨.ref wa, rfl, wa, _, 1, .ref wb, rfl, rfl, SqT.of (s6 _ _ hwa), rfl, wb, rfl, ⟨_, SqT.of (s6 _ _ hwb)⟩, ?_⟩
      refine for_tup (xs := xs) (fun j σ' H' => ∃ (y5 : Option V) (kvs : List (Key × V)) (wl : List Int), σ' = [some (.ref wa), some (.int s), some (.ref D), some (.ref C), some (.int p), y5, none] ∧ H' D = some (.dK kvs) ∧ H' C = some (.lst (wl.map V.int)) ∧ CmI n kvs wl ∧ Same H H' ∧ 2 * lackN n kvs + wl.length < m) ⟨_, kvs, wl, rfl, hD6, hC6, c6, s6, by omega⟩ (fun j σ' H' _ h => by
        obtain ⟨_, _, _, _, _, _, _, s7, _⟩ := h
        exact SqT.of (s7 _ _ hwb)) ?_ ?_
      · clear hD6 hC6 s6 hD5 hC5 s5 c4 c6 hm
        rintro j x σ' H7 gx ⟨y5, kvs, wl, rfl, hD7, hC7, c7, s7, lt⟩
        obtain ⟨t, et, a, rfl, ha⟩ := Paired.at hp gx
        have okt := ok.ok t (List.mem_of_getElem? et)
        have ec2 : cutV [V.int t.one, V.int t.other, V.str (kindS t.foe)] none (some 2) = [t.one, t.other].map V.int := rfl
        have ha7 := s7 _ _ ha
        refine ⟨.int p, rfl, .ref a, rfl, 2, rfl, a, _, rfl, ha7, fun r H9 s9 h9 => ?_⟩
        rw [ec2] at h9
        refine ⟨r, _, rfl, .inr (SqT.of h9), rfl, flat_ints _, _, rfl, ?_⟩
        have s89 := s7.trans s9
        have hD9 := s9 _ _ hD7
        have hC9 := s9 _ _ hC7
        rw [show inV (.int p) ([t.one, t.other].map V.int) = (t.one == p || t.other == p) from in_two p _ _]
        cases hin : (t.one == p || t.other == p) with
        | false => exact ⟨_, kvs, wl, rfl, hD9, hC9, c7, s89, lt⟩
        | true =>
          rw [Bool.or_eq_true, beq_iff_eq, beq_iff_eq] at hin
          have hy : 0 ≤ ([t.one, t.other].sum - p) ∧ ([t.one, t.other].sum - p) < n := by
            have es : [t.one, t.other].sum = t.one + t.other := by simp
            rcases hin with h | h
            · have := okt.2.2.1; have := okt.2.2.2.1; rw [es]; omega
            · have := okt.1; have := okt.2.1; rw [es]; omega
          refine ⟨.ref a, rfl, 2, rfl, a, _, rfl, s9 _ _ ha7, fun r2 H10 s10 h10 => ?_⟩
          rw [ec2] at h10
          refine ⟨r2, _, rfl, SqT.of h10, .int p, rfl, _, _, rfl, rfl, ?_⟩
          have s90 := s89.trans s10
          have hD10 := s10 _ _ hD9
          have hC10 := s10 _ _ hC9
          refine ⟨.ref D, rfl, D, _, rfl, DGet.k (k := Sum.inl ([t.one, t.other].sum - p)) hD10, _, rfl, ?_⟩
          cases e : valV kvs (Sum.inl ([t.one, t.other].sum - p) : Key) with
          | some v => exact ⟨_, kvs, wl, rfl, hD10, hC10, c7, s90, lt⟩
          | none =>
            obtain ⟨c8, lt8⟩ := c7.put hy.1 hy.2 e
            have fw := c7.few
            have ww := c7.wait
            refine ⟨.ref D, rfl, .ref a, rfl, 2, rfl, a, _, rfl, s10 _ _ (s9 _ _ ha7), fun r3 H11 s11 h11 => ?_⟩
            rw [ec2] at h11
            refine ⟨r3, _, rfl, SqT.of h11, .int p, rfl, _, _, rfl, rfl, ?_⟩
            have hD11 := s11 _ _ hD10
            have hC11 := s11 _ _ hC10
            refine ⟨D, _, rfl, DPut.k (k := Sum.inl ([t.one, t.other].sum - p)) hD11 (small1000 (show kvs.length ≤ 1000 by omega)), ?_⟩
            have s12 : Same H (upd H11 D (.dK (putK kvs (Sum.inl ([t.one, t.other].sum - p)) (.bl true)))) := Same.mut (s90.trans s11) nD
            have hC12 : (upd H11 D (.dK (putK kvs (Sum.inl ([t.one, t.other].sum - p)) (.bl true)))) C = some (.lst (wl.map V.int)) := by rw [upd_ne hCD]; exact hC11
            have hD12 : (upd H11 D (.dK (putK kvs (Sum.inl ([t.one, t.other].sum - p)) (.bl true)))) D = some (.dK (putK kvs (Sum.inl ([t.one, t.other].sum - p)) (.bl true))) := upd_same
            generalize upd H11 D (.dK (putK kvs (Sum.inl ([t.one, t.other].sum - p)) (.bl true))) = H12 at s12 hC12 hD12
            refine ⟨.ref C, rfl, .inl ⟨rfl, _, SqL.of hC12⟩, .ref a, rfl, 2, rfl, a, _, rfl, s12 _ _ ha, fun r4 H13 s13 h13 => ?_⟩
            rw [ec2] at h13
            refine ⟨r4, _, rfl, SqT.of h13, .int p, rfl, _, _, rfl, rfl, ?_⟩
            have hC13 := s13 _ _ hC12
            refine ⟨C, _, _, rfl, rfl, hC13, by rw [List.length_map]; exact small1000 (by omega), ?_⟩
            refine ⟨_, putK kvs (Sum.inl ([t.one, t.other].sum - p)) (.bl true), wl ++ [([t.one, t.other].sum - p)], rfl, by rw [upd_ne (Ne.symm hCD)]; exact s13 _ _ hD12, by rw [upd_same, List.map_append]; rfl, c8, Same.mut (s12.trans s13) nC0, by omega⟩
      · rintro σ' H7 ⟨y5, kvs, wl, rfl, hD7, hC7, c7, s7, lt⟩
        exact ⟨_, lt, _, _, kvs, wl, rfl, hD7, hC7, c7, s7, rfl⟩
    · refine ⟨.ref wa, rfl, wa, _, 0, .int n, rfl, rfl, SqT.of (s5 _ _ hwa), rfl, n, rfl, by omega, by omega, fun Z nZ => ?_⟩
      rw [Int.toNat_natCast]
      have hZD : Z ≠ D := fun z => by rw [z, hD5] at nZ; cases nZ
      refine lc_range (lo := 0) (n := n) (fun j H' => ∃ bs : List Bool, H' Z = some (.lst (bs.map V.bl)) ∧ bs.length = j ∧ H' D = some (.dK kvs) ∧ Same H5 H') ⟨[], upd_same, rfl, same_new nZ _ _ hD5, same_new nZ⟩ ?_ ?_
      · rintro j H6 hj ⟨bs, hZ, lb, hD6, s6⟩
        rw [show (0 : Int) + (j : Nat) = j from by omega]
        refine ⟨rfl, .int j, rfl, .ref D, rfl, D, _, rfl, DGet.k (k := Sum.inl (j : Int)) hD6, _, hZ, by rw [List.length_map]; exact small1000 (by omega), bs ++ [_], by rw [upd_same, List.map_append]; rfl, by rw [List.length_append, lb]; rfl, by rw [upd_ne (Ne.symm hZD)]; exact hD6, Same.mut s6 nZ⟩
      · rintro H6 ⟨bs, hZ, lb, _, s6⟩
        exact q Z bs _ (s5.trans s6) hZ lb
end
/-! ### k27: a walk -/
theorem flat_cut {xs : List V} (h : xs.all flatV = true) (lo hi : Option Int) : (cutV xs lo hi).all flatV = true := by
  rw [List.all_eq_true] at h ⊢
  intro x hx
  exact h x (List.mem_of_mem_drop (List.mem_of_mem_take hx))
theorem cut_ints (ns : List Int) (lo hi : Option Int) : ∃ zs : List Int, cutV (ns.map V.int) lo hi = zs.map V.int ∧ zs.length ≤ ns.length := by
  unfold cutV
  refine ⟨(ns.drop _).take _, by rw [List.map_take, List.map_drop], ?_⟩
  rw [List.length_take, List.length_drop]
  omega
theorem atI_neg1 {xs : List V} {x : V} : atI (xs ++ [x]) (-1) = some x := by
  unfold atI ixN
  have l : (xs ++ [x]).length = xs.length + 1 := by rw [List.length_append]; rfl
  rw [if_neg (by decide), if_pos (by omega), l]
  show (xs ++ [x])[((-1 : Int) + ((xs.length + 1 : Nat) : Int)).toNat]? = some x
  rw [show ((-1 : Int) + ((xs.length + 1 : Nat) : Int)).toNat = xs.length by omega, List.getElem?_append_right (Nat.le_refl _)]
  simp
theorem ints_neg1 {ws : List Int} {p : Int} : atI ((ws ++ [p]).map V.int) (-1) = some (.int p) := by
  rw [List.map_append]
  exact atI_neg1
theorem Well.ne_tup {H : Hp} {d a : Addr} {b : Nat} {xs : List V} (D : Well H d b) (h : H a = some (.tup xs)) : a ≠ d := fun z => by
  obtain ⟨g, st, k, e1, _⟩ := D
  rw [z, e1] at h
  cases h
theorem Kp.same' {d c : Addr} {H H' : Hp} (s : Same H H') : Kp d c H H' := fun b u _ _ h => s _ _ h
theorem first_of : ∀ {ns : List Int} {p : Int}, p ∈ ns → ∃ j : Nat, ns[j]? = some p ∧ ∀ (m : Nat) (z' : Int), m < j → ns[m]? = some z' → z' ≠ p
  | [], _, h => by simp at h
  | x :: xs, p, h => by
    by_cases e : x = p
    · exact ⟨0, by rw [e]; rfl, fun m z' hm => absurd hm (Nat.not_lt_zero _)⟩
    · obtain ⟨j, h1, h2⟩ := first_of ((List.mem_cons.mp h).resolve_left (fun z => e z.symm))
      refine ⟨j + 1, h1, fun m z' hm g => ?_⟩
      cases m with
      | zero => cases g; exact e
      | succ m => exact h2 m z' (by omega) g
def spWalked : Sp := fun vs H Q _ => ∃ (d : Addr) (b : Nat) (v : V) (n : Nat) (ts : List Tie), vs = [.ref d, v] ∧ Well H d b ∧ b < 2 ^ 51 ∧ WebAt H v n ts ∧ WebOk n ts ∧
  ∀ r pa ta (ps es : List Int) H', NoD H' r [.ref pa, .ref ta] → NoD H' pa (ps.map V.int) → NoD H' ta (es.map V.int) → ps.length ≤ 100 → es.length ≤ 100 → Well H' d (b + 100) → Kp d d H H' → Q (.ref r) H'
section
variable {P : Program} {w : World} {K : PySem.W.Frag} {mg : Str → Option Value} {base : Heap}
set_option maxHeartbeats 4000000 in
theorem ok_l_walked {f : Addr} {fd : FuncData} (F : Fun K "_law_walked" "_law_walked" s_l_walked f fd) (M : Free mg) (m_enumerate : mg "enumerate" = none) (D_l_draw : Df P w K mg base 1 "_law_draw" ["_law_well_here", "_law_most"] spDraw) : FnOk P w K mg base CX0 2 f fd ["_law_well_here", "_law_web_here"] spWalked := by
  obtain ⟨f_l_draw, fd_l_draw, G_l_draw, g_l_draw, k_l_draw, b_l_draw⟩ := D_l_draw
  refine F.ok sc_l_walked (fun vs H Q E h => ?_) (fun cdv A outer s H vs Q E hr h => ?_)
  · obtain ⟨d, b, v, n, ts, rfl, _⟩ := h
    rfl
  · obtain ⟨d, b, v, n, ts, rfl, hD, hB, hW, ok, q⟩ := h
    refine ⟨_, (pss_cons (ps_set (i := 2) sc_l_walked.nd rfl (.inr rfl) (pe_lst (pa_cons (pe_call G_l_draw (hr.mono (by decide)) (by rfl) g_l_draw k_l_draw b_l_draw .nil pass0 (pa_cons (pv 0) (pa_cons (pe_ix ix_tup (pv 1) pe_int (fun _ _ => rfl)) pa_nil))) pa_nil)))
      (pss_cons (ps_set (i := 3) sc_l_walked.nd rfl (.inr rfl) (pe_lst pa_nil))
      (pss_cons (ps_for PassesOwn.never rfl (pi_range1 (by rfl) M.range (pa_cons (pe_op op_add (pe_ix ix_tup (pv 1) pe_int (fun _ _ => rfl)) pe_int) pa_nil)) (pg_name (i := 4) sc_l_walked.nd rfl (.inl rfl))
        (pss_cons (ps_setLc (i := 5) (own := [("_law_number", 6), ("_law_tie", 7)]) (g := (gTup K 2 (gCons (gName 6) (gCons (gName 7) gNil)))) (te := tVar 6) rfl sc_l_walked.nd rfl rfl (sw_true rfl rfl rfl (by decide +kernel)) (pi_enumT (by rfl) m_enumerate (pa_cons (pe_ix ix_tup (pv 1) pe_int (fun _ _ => rfl)) pa_nil)) (blkOk_by (N := N_l_walked) (sc := defScope s_l_walked) (own := [("_law_number", 6), ("_law_tie", 7)]) (by decide +kernel)) (fun _ _ _ _ _ => (pg_tup rfl (pgs_cons (pg_name (i := 6) sc_l_walked.nd rfl (.inl rfl)) (pgs_cons (pg_name (i := 7) sc_l_walked.nd rfl (.inl rfl)) pgs_nil)))) (fun _ _ _ _ _ => (pts_one (PW.pt (pw_and (pt_cmpR (r := rIn K false) op_in_seq (pe_ix (r := rIxL K) ix_list (pv 2) (pe_un un_neg pe_int) (fun _ _ => rfl)) (pe_slice sl_tupU (pv 7) po_none (po_some pe_int)) rfl) (pw_and1 (pt_cmpR (r := rIn K true) op_notIn_seq (pv 6) (pe_slice (r := rSlL K) sl_list (pv 3) (po_some (pe_un un_neg pe_int)) po_none) rfl)))))) (fun _ _ _ _ _ => (pv 6)))
        (pss_one (ps_if (PW.pt (pw_and (pt_cmpR (op_neE hr.units0) (pv 5) (pe_lst pa_nil) (nomark _)) (pw_and1 (pt_cmpR op_notIn_seq (pe_ix ix_list (pv 2) (pe_un un_neg pe_int) (fun _ _ => rfl)) (pe_slice sl_list (pv 2) po_none (po_some (pe_un un_neg pe_int))) rfl))))
          (pss_cons (ps_expr (pe_bm PySem.F.plainAttrs_list PySem.F.slot_list_append PySem.F.type_list_append mt_append (pv 3) (pa_cons (pe_ix ix_list (pv 5) (pe_call G_l_draw (hr.mono (by decide)) (by rfl) g_l_draw k_l_draw b_l_draw .nil pass0 (pa_cons (pv 0) (pa_cons (pe_callB call_len_seq (by rfl) M.len PySem.boot_len (pa_cons (pv 5) pa_nil)) pa_nil))) (fun _ _ => rfl)) pa_nil)))
          (pss_one (ps_expr (pe_bm PySem.F.plainAttrs_list PySem.F.slot_list_append PySem.F.type_list_append mt_append (pv 2) (pa_cons (pe_op op_sub (pe_callB (cr_sumTI rfl) (by rfl) M.sum (by decide +kernel) (pa_cons (pe_slice sl_tupU (pe_ix ix_tup (pe_ix ix_tup (pv 1) pe_int (fun _ _ => rfl)) (pe_ix ix_list (pv 3) (pe_un un_neg pe_int) (fun _ _ => rfl)) (fun _ _ => rfl)) po_none (po_some pe_int)) pa_nil)) (pe_ix ix_list (pv 2) (pe_un un_neg pe_int) (fun _ _ => rfl))) pa_nil)))))
          pss_nil))))
      (pss_cons (ps_set (i := 8) sc_l_walked.nd rfl (.inl rfl) (pe_bm PySem.F.plainAttrs_list PySem.F.slot_list_index PySem.F.type_list_index mt_index (pv 2) (pa_cons (pe_ix ix_list (pv 2) (pe_un un_neg pe_int) (fun _ _ => rfl)) pa_nil)))
      (pss_one (ps_ret (pe_tupZ (pa_cons (pe_callTy call_tuple_ofZ (by rfl) M.tuple (by decide +kernel) (pa_cons (pe_slice sl_list (pv 2) (po_some (pv 8)) (po_some (pe_un un_neg pe_int))) pa_nil)) (pa_cons (pe_callTy call_tuple_ofZ (by rfl) M.tuple (by decide +kernel) (pa_cons (pe_slice sl_list (pv 3) (po_some (pv 8)) po_none) pa_nil)) pa_nil))))))))), ?_⟩
    obtain ⟨wa, wb, us, rfl, hwa, hwb, hp⟩ := hW
    have lus : us.length = ts.length := Paired.length hp
    have n1 := ok.lo
    have n40 := ok.hi
    have few := ok.few
    have nab : (n : Int).natAbs < 2 ^ 120 := by rw [Int.natAbs_natCast]; exact Nat.lt_of_le_of_lt (show n ≤ 40 by omega) (by decide)
    have wne := hD.ne_tup hwa
    have bne := hD.ne_tup hwb
    refine ⟨.ref d, rfl, .ref wa, rfl, wa, _, 0, .int n, rfl, rfl, SqT.of hwa, rfl, d, b, n, rfl, hD, by omega, by omega, nab, fun v0 H1 a1 b1 D1 K1 => ⟨by show 1 ≤ sizeLine; decide, fun L nL => ?_⟩⟩
    have Ld := D1.ned nL
    have nL0 := K1.free nL Ld Ld
    have D2 := D1.new (o := .lst [.int v0]) nL
    have K2 := K1.trans (Kp.new (o := .lst [.int v0]) nL)
    have hL2 : (upd H1 L (.lst [.int v0])) L = some (.lst (([] ++ [v0] : List Int).map V.int)) := upd_same
    generalize upd H1 L (.lst [.int v0]) = H2 at D2 K2 hL2
    refine ⟨Nat.zero_le _, fun M nM => ?_⟩
    have Md := D2.ned nM
    have nM0 := K2.free nM Md Md
    have ML : M ≠ L := fun z => by rw [z, hL2] at nM; cases nM
    have D3 := D2.new (o := .lst []) nM
    have K3 := K2.trans (Kp.new (o := .lst []) nM)
    have hL3 := same_new (o := .lst []) nM _ _ hL2
    have hM3 : (upd H2 M (.lst [])) M = some (.lst (([] : List Int).map V.int)) := upd_same
    generalize upd H2 M (.lst []) = H3 at D3 K3 hL3 hM3
    clear hL2 D2 K2 D1 K1 nL nM
    refine ⟨.ref wa, rfl, wa, _, 0, .int n, rfl, rfl, SqT.of (K3 _ _ wne wne hwa), rfl, n, 1, rfl, rfl, (n : Int) + 1, rfl, by omega, by omega, ?_⟩
    rw [show ((n : Int) + 1).toNat = n + 1 by omega]
    refine for_range (lo := 0) (n := n + 1) (fun i σ' H' => ∃ (y4 y5 : Option V) (ws : List Int) (p : Int) (es : List Int), σ' = [some (.ref d), some (.ref wa), some (.ref L), some (.ref M), y4, y5, none, none, none] ∧ H' L = some (.lst ((ws ++ [p]).map V.int)) ∧ H' M = some (.lst (es.map V.int)) ∧ ws.length ≤ i ∧ es.length ≤ i ∧ Well H' d (b + 1 + i) ∧ Kp d d H H') ⟨none, none, [], v0, [], rfl, hL3, hM3, Nat.le_refl _, Nat.le_refl _, D3, K3⟩ ?_ ?_
    · clear hL3 hM3 D3 K3
      rintro i σ' H4 hi ⟨y4, y5, ws, p, es, rfl, hL, hM, lw, le, D4, K4⟩
      have hwa4 := K4 _ _ wne wne hwa
      have hwb4 := K4 _ _ bne bne hwb
      refine ⟨.ref wa, rfl, wa, _, 1, .ref wb, rfl, rfl, SqT.of hwa4, rfl, wb, us, rfl, SqT.of hwb4, fun Z nZ => ?_⟩
      have Zd := D4.ned nZ
      have ZL : Z ≠ L := fun z => by rw [z, hL] at nZ; cases nZ
      have ZM : Z ≠ M := fun z => by rw [z, hM] at nZ; cases nZ
      refine lc_it (walk_enumT (xs := us)) (fun j H' => ∃ zs : List Int, H' Z = some (.lst (zs.map V.int)) ∧ zs.length ≤ j ∧ (∀ z ∈ zs, 0 ≤ z ∧ z < (j : Int)) ∧ Same H4 H') ⟨[], upd_same, Nat.le_refl _, fun z hz => (by simp at hz), same_new nZ⟩ (fun j H' _ h => by
        obtain ⟨zs, _, _, _, s⟩ := h
        exact SqT.of (s _ _ hwb4)) ?_ ?_
      · rintro j x H5 H6 hj ⟨zs, hZ, lz, zb, s5⟩ ⟨T, x1, y, rfl, nT, rfl, e1, e2⟩
        obtain rfl : V.int (j : Nat) = x1 := Option.some.inj e1
        obtain ⟨t, et, c, rfl, hc⟩ := Paired.at hp e2
        have s6 := s5.trans (same_new (o := .tup [.int (j : Nat), .ref c]) nT)
        have hZ6 := same_new (o := .tup [.int (j : Nat), .ref c]) nT _ _ hZ
        refine ⟨T, _, rfl, SqT.of upd_same, rfl, _, _, rfl, _, _, rfl, rfl, rfl, ?_⟩
        generalize upd H5 T (.tup [.int (j : Nat), .ref c]) = H6 at s6 hZ6
        have cne := hD.ne_tup hc
        have hc6 := s6 _ _ (K4 _ _ cne cne hc)
        refine ⟨.ref L, rfl, 1, rfl, L, _, -1, .int p, rfl, rfl, SqL.of (s6 _ _ hL), ints_neg1, .ref c, rfl, 2, rfl, c, _, rfl, hc6, fun r H7 s7 h7 => ?_⟩
        have ec2 : cutV [V.int t.one, V.int t.other, V.str (kindS t.foe)] none (some 2) = [t.one, t.other].map V.int := rfl
        rw [ec2] at h7
        refine ⟨r, _, rfl, .inr (SqT.of h7), rfl, flat_ints _, _, rfl, ?_⟩
        have s67 := s6.trans s7
        have hZ7 := s7 _ _ hZ6
        cases hin : inV (.int p) ([t.one, t.other].map V.int) with
        | false => exact ⟨zs, hZ7, by omega, fun z hz => by have := zb z hz; omega, s67⟩
        | true =>
          refine ⟨.int (j : Nat), rfl, .ref M, rfl, 1, rfl, -1, rfl, M, _, rfl, SqL.of (s67 _ _ hM), fun q' nq => ?_⟩
          have s8 := s67.trans (same_new (o := .lst (cutV (es.map V.int) (some (-1)) none)) nq)
          have hZ8 := same_new (o := .lst (cutV (es.map V.int) (some (-1)) none)) nq _ _ hZ7
          refine ⟨q', _, rfl, .inl (SqL.of upd_same), rfl, flat_cut (flat_ints _) _ _, _, rfl, ?_⟩
          generalize upd H7 q' (.lst (cutV (es.map V.int) (some (-1)) none)) = H8 at s8 hZ8
          cases hni : inV (.int (j : Nat)) (cutV (es.map V.int) (some (-1)) none) with
          | true => exact ⟨zs, hZ8, by omega, fun z hz => by have := zb z hz; omega, s8⟩
          | false =>
            refine ⟨.int (j : Nat), rfl, _, hZ8, by rw [List.length_map]; exact small1000 (by omega), zs ++ [(j : Int)], by rw [upd_same, List.map_append]; rfl, by rw [List.length_append]; show zs.length + 1 ≤ j + 1; omega, fun z hz => ?_, Same.mut s8 nZ⟩
            rcases List.mem_append.mp hz with h | h
            · have := zb z h; omega
            · rw [List.mem_singleton.mp h]; omega
      · rintro H5 ⟨zs, hZ, lz, zb, s5⟩
        have D5 := D4.same s5
        have K5 := K4.trans (Kp.same' s5)
        have hL5 := s5 _ _ hL
        have hM5 := s5 _ _ hM
        refine ⟨.ref Z, rfl, Nat.zero_le _, fun e1 ne1 => ⟨Z, e1, _, rfl, rfl, SqL.of (same_new ne1 _ _ hZ), SqL.of upd_same, _, rfl, ?_⟩⟩
        have D6 := D5.new (o := .lst []) ne1
        have K6 := K5.trans (Kp.new (o := .lst []) ne1)
        have hL6 := same_new (o := .lst []) ne1 _ _ hL5
        have hM6 := same_new (o := .lst []) ne1 _ _ hM5
        have hZ6 := same_new (o := .lst []) ne1 _ _ hZ
        generalize upd H5 e1 (.lst []) = H6 at D6 K6 hL6 hM6 hZ6
        clear D5 K5 hL5 hM5 hZ s5 D4 K4 hL hM ne1
        have out : ∀ y5 H', H' L = some (.lst ((ws ++ [p]).map V.int)) → H' M = some (.lst (es.map V.int)) → Well H' d (b + 1 + i) → Kp d d H H' → ∃ (y4 y5' : Option V) (ws : List Int) (p : Int) (es : List Int), ([some (.ref d), some (.ref wa), some (.ref L), some (.ref M), some (.int (0 + (i : Nat))), y5, none, none, none] : L2.St) = [some (.ref d), some (.ref wa), some (.ref L), some (.ref M), y4, y5', none, none, none] ∧ H' L = some (.lst ((ws ++ [p]).map V.int)) ∧ H' M = some (.lst (es.map V.int)) ∧ ws.length ≤ i + 1 ∧ es.length ≤ i + 1 ∧ Well H' d (b + 1 + (i + 1)) ∧ Kp d d H H' := fun y5 H' h1 h2 h3 h4 => ⟨_, y5, ws, p, es, rfl, h1, h2, by omega, by omega, h3.mono (by omega), h4⟩
        cases hzs : zs with
        | nil =>
          exact out _ _ hL6 hM6 D6 K6
        | cons z0 zr =>
        rw [← hzs]
        have zpos : 0 < zs.length := by rw [hzs]; simp
        rw [show (!(zs.map V.int).isEmpty) = true by rw [hzs]; rfl]
        refine ⟨.ref L, rfl, 1, rfl, L, _, -1, .int p, rfl, rfl, SqL.of hL6, ints_neg1, .ref L, rfl, 1, rfl, -1, rfl, L, _, rfl, SqL.of hL6, fun q' nq => ?_⟩
        have D7 := D6.new (o := .lst (cutV ((ws ++ [p]).map V.int) none (some (-1)))) nq
        have K7 := K6.trans (Kp.new (o := .lst (cutV ((ws ++ [p]).map V.int) none (some (-1)))) nq)
        have hL7 := same_new (o := .lst (cutV ((ws ++ [p]).map V.int) none (some (-1)))) nq _ _ hL6
        have hM7 := same_new (o := .lst (cutV ((ws ++ [p]).map V.int) none (some (-1)))) nq _ _ hM6
        have hZ7 := same_new (o := .lst (cutV ((ws ++ [p]).map V.int) none (some (-1)))) nq _ _ hZ6
        refine ⟨q', _, rfl, .inl (SqL.of upd_same), rfl, flat_cut (flat_ints _) _ _, _, rfl, ?_⟩
        generalize upd H6 q' (.lst (cutV ((ws ++ [p]).map V.int) none (some (-1)))) = H7 at D7 K7 hL7 hM7 hZ7
        clear D6 K6 hL6 hM6 hZ6 nq
        cases hin : inV (.int p) (cutV ((ws ++ [p]).map V.int) none (some (-1))) with
        | true => exact out _ _ hL7 hM7 D7 K7
        | false =>
        refine ⟨.ref M, rfl, .inl ⟨rfl, _, SqL.of hM7⟩, .ref Z, rfl, .ref d, rfl, .ref Z, rfl, Z, _, rfl, .inl (SqL.of hZ7), d, b + 1 + i, _, rfl, D7, by omega, by rw [List.length_map]; omega, ?_, fun w H8 a8 b8 D8 K8 => ?_⟩
        · rw [List.length_map, Int.natAbs_natCast]
          exact Nat.lt_of_le_of_lt (show zs.length ≤ 1000 by omega) (by decide)
        rw [List.length_map] at b8
        have hwl : w.toNat < zs.length := by omega
        obtain ⟨e, he⟩ : ∃ e, zs[w.toNat]? = some e := ⟨_, List.getElem?_eq_getElem hwl⟩
        obtain ⟨e0, e1'⟩ := zb e (List.mem_of_getElem? he)
        have hZ8 := K8 _ _ Zd Zd hZ7
        have hL8 := K8 _ _ Ld Ld hL7
        have hM8 := K8 _ _ Md Md hM7
        have K08 := K7.trans K8
        refine ⟨Z, _, w, .int e, rfl, rfl, SqL.of hZ8, atI_of a8 (by rw [List.getElem?_map, he]; rfl), M, _, _, rfl, rfl, hM8, by rw [List.length_map]; exact small1000 (by omega), ?_⟩
        have D9 := D8.mut (o := .lst (es.map V.int ++ [.int e])) Md
        have K9 := K08.mut (o := .lst (es.map V.int ++ [.int e])) nM0
        have hL9 : (upd H8 M (.lst (es.map V.int ++ [.int e]))) L = some (.lst ((ws ++ [p]).map V.int)) := by rw [upd_ne (Ne.symm ML)]; exact hL8
        have hM9 : (upd H8 M (.lst (es.map V.int ++ [.int e]))) M = some (.lst ((es ++ [e]).map V.int)) := by rw [upd_same, List.map_append]; rfl
        generalize upd H8 M (.lst (es.map V.int ++ [.int e])) = H9 at D9 K9 hL9 hM9
        have hwa9 := K9 _ _ wne wne hwa
        have hwb9 := K9 _ _ bne bne hwb
        obtain ⟨t, et⟩ : ∃ t, ts[e.toNat]? = some t := ⟨_, List.getElem?_eq_getElem (by omega)⟩
        obtain ⟨u, eu, c, rfl, hc⟩ := Paired.at' hp et
        have cne := hD.ne_tup hc
        refine ⟨.ref L, rfl, .inl ⟨rfl, _, SqL.of hL9⟩, .ref wa, rfl, wa, _, 1, .ref wb, rfl, rfl, SqT.of hwa9, rfl, .ref M, rfl, 1, rfl, M, _, -1, .int e, rfl, rfl, SqL.of hM9, ints_neg1, wb, us, e, .ref c, rfl, rfl, SqT.of hwb9, atI_of e0 eu, 2, rfl, c, _, rfl, K9 _ _ cne cne hc, fun r H10 s10 h10 => ?_⟩
        have ec2 : cutV [V.int t.one, V.int t.other, V.str (kindS t.foe)] none (some 2) = [t.one, t.other].map V.int := rfl
        rw [ec2] at h10
        have hL10 := s10 _ _ hL9
        refine ⟨r, _, rfl, SqT.of h10, .ref L, rfl, 1, rfl, L, _, -1, .int p, rfl, rfl, SqL.of hL10, ints_neg1, _, _, rfl, rfl, L, _, _, rfl, rfl, hL10, by rw [List.length_map, List.length_append]; show ws.length + 1 < sizeLine; exact small1000 (by omega), ?_⟩
        refine ⟨_, _, ws ++ [p], _, es ++ [e], rfl, by rw [upd_same, List.map_append (l₁ := ws ++ [p])]; rfl, by rw [upd_ne ML]; exact s10 _ _ hM9, by rw [List.length_append]; show ws.length + 1 ≤ i + 1; omega, by rw [List.length_append]; show es.length + 1 ≤ i + 1; omega, ((D9.same s10).mut Ld).mono (by omega), (K9.trans (Kp.same' s10)).mut nL0⟩
    · rintro σ' H4 ⟨y4, y5, ws, p, es, rfl, hL, hM, lw, le, D4, K4⟩
      have hl : ∃ j : Nat, (ws ++ [p])[j]? = some p ∧ ∀ (m : Nat) (z' : Int), m < j → (ws ++ [p])[m]? = some z' → z' ≠ p := by
        by_cases hx : p ∈ ws ++ [p]
        · exact first_of hx
        · exact absurd (by simp) hx
      obtain ⟨j, ej, nj⟩ := hl
      have jl := (List.getElem?_eq_some_iff.mp ej).1
      refine ⟨.ref L, rfl, .inl ⟨rfl, _, SqL.of hL⟩, .ref L, rfl, 1, rfl, L, _, -1, .int p, rfl, rfl, SqL.of hL, ints_neg1, L, _, .int p, j, .int p, rfl, rfl, SqL.of hL, rfl, flat_ints _, by rw [List.getElem?_map, ej]; rfl, by simp [eqV], fun m z' hm e => ?_, ?_⟩
      · rw [List.getElem?_map] at e
        obtain ⟨z, hz, rfl⟩ := Option.map_eq_some_iff.mp e
        have := nj m z hm hz
        simp [eqV, this]
      obtain ⟨zs, ez, lz⟩ := cut_ints (ws ++ [p]) (some (j : Int)) (some (-1))
      obtain ⟨fs, ef, lf⟩ := cut_ints es (some (j : Int)) none
      rw [List.length_append] at lz
      have lz : zs.length ≤ ws.length + 1 := lz
      refine ⟨.ref L, rfl, .int (j : Nat), rfl, _, rfl, 1, rfl, -1, rfl, L, _, rfl, SqL.of hL, fun r1 nr1 => ?_⟩
      rw [ez]
      have s1 := same_new (o := .lst (zs.map V.int)) nr1
      refine ⟨r1, _, rfl, SqL.of upd_same, fun t1 o1 od1 nt1 => ?_⟩
      have s2 := s1.trans (same_new (o := .frz o1 (.tup (zs.map V.int))) nt1)
      have h1 : NoD (upd (upd H4 r1 (.lst (zs.map V.int))) t1 (.frz o1 (.tup (zs.map V.int)))) t1 (zs.map V.int) := ⟨o1, od1, upd_same⟩
      generalize upd (upd H4 r1 (.lst (zs.map V.int))) t1 (.frz o1 (.tup (zs.map V.int))) = H5 at s2 h1
      refine ⟨.ref M, rfl, .int (j : Nat), rfl, _, rfl, M, _, rfl, SqL.of (s2 _ _ hM), fun r2 nr2 => ?_⟩
      rw [ef]
      refine ⟨r2, _, rfl, SqL.of upd_same, fun t2 o2 od2 nt2 => ?_⟩
      have s3 := (same_new (o := .lst (fs.map V.int)) nr2).trans (same_new (o := .frz o2 (.tup (fs.map V.int))) nt2)
      have h2 : NoD (upd (upd H5 r2 (.lst (fs.map V.int))) t2 (.frz o2 (.tup (fs.map V.int)))) t2 (fs.map V.int) := ⟨o2, od2, upd_same⟩
      generalize upd (upd H5 r2 (.lst (fs.map V.int))) t2 (.frz o2 (.tup (fs.map V.int))) = H6 at s3 h2
      refine ⟨by show 2 ≤ sizeLine; decide, fun o H7 s7 h7 _ => ?_⟩
      have s47 := (s2.trans s3).trans s7
      exact q o t1 t2 zs fs H7 h7 ((h1.same s3).same s7) (h2.same s7) (by omega) (by omega) ((D4.same s47).mono (by omega)) (K4.trans (Kp.same' s47))
end
/-! ### k27: a row spoilt -/
theorem pick_mem {xs : List V} {w : Int} (h0 : 0 ≤ w) (h1 : w < (xs.length : Int)) : ∃ x, atI xs w = some x ∧ x ∈ xs := by
  have h : w.toNat < xs.length := by omega
  exact ⟨xs[w.toNat], atI_of h0 (List.getElem?_eq_getElem h), List.getElem_mem h⟩
def spRowSp : Sp := fun vs H Q _ => ∃ (d : Addr) (b : Nat) (p : Addr) (ns : List Int) (m : Int), vs = [.ref d, .ref p, .int m] ∧ Well H d b ∧ b < 2 ^ 51 ∧ NoD H p (ns.map V.int) ∧ ns.length ≤ 100 ∧ 0 ≤ m ∧ m ≤ 1000 ∧
  ∀ u H', Td 2 H' u → Well H' d (b + 4) → Kp d d H H' → Q u H'
theorem nab_small {m : Int} (h0 : 0 ≤ m) (h1 : m ≤ 100000) : m.natAbs < 2 ^ 120 := Nat.lt_of_le_of_lt (show m.natAbs ≤ 100000 by omega) (by decide)
theorem Td.intz {d : Nat} {H : Hp} {i : Int} : Td d H (.int i) := .sc True.intro
section
variable {P : Program} {w : World} {K : PySem.W.Frag} {mg : Str → Option Value} {base : Heap}
set_option maxHeartbeats 4000000 in
theorem ok_l_row_spoilt {f : Addr} {fd : FuncData} (F : Fun K "_law_row_spoilt" "_law_row_spoilt" s_l_row_spoilt f fd) (M : Free mg) (D_l_draw : Df P w K mg base 1 "_law_draw" ["_law_well_here", "_law_most"] spDraw) : FnOk P w K mg base CX0 2 f fd ["_law_well_here", "_law_row", "_law_most"] spRowSp := by
  obtain ⟨f_l_draw, fd_l_draw, G_l_draw, g_l_draw, k_l_draw, b_l_draw⟩ := D_l_draw
  refine F.ok sc_l_row_spoilt (fun vs H Q E h => ?_) (fun cdv A outer s H vs Q E hr h => ?_)
  · obtain ⟨d, b, p, ns, m, rfl, _⟩ := h
    rfl
  · obtain ⟨d, b, p, ns, m, rfl, hD, hB, hp, ln, m0, m1, q⟩ := h
    refine ⟨_, (pss_cons (ps_set (i := 1) sc_l_row_spoilt.nd rfl (.inl rfl) (pe_callTy call_list_of (by rfl) M.list (by decide +kernel) (pa_cons (pv 1) pa_nil)))
      (pss_cons (ps_set (i := 3) sc_l_row_spoilt.nd rfl (.inl rfl) (pe_call G_l_draw (hr.mono (by decide)) (by rfl) g_l_draw k_l_draw b_l_draw .nil pass0 (pa_cons (pv 0) (pa_cons pe_int pa_nil))))
      (pss_cons (ps_set (i := 4) sc_l_row_spoilt.nd rfl (.inl rfl) (pe_call G_l_draw (hr.mono (by decide)) (by rfl) g_l_draw k_l_draw b_l_draw .nil pass0 (pa_cons (pv 0) (pa_cons (pe_op op_add (pe_callB call_len_seq (by rfl) M.len PySem.boot_len (pa_cons (pv 1) pa_nil)) pe_int) pa_nil))))
      (pss_cons (ps_set (i := 5) sc_l_row_spoilt.nd rfl (.inl rfl) (pe_ix ix_list (pe_lst (pa_cons (pe_call G_l_draw (hr.mono (by decide)) (by rfl) g_l_draw k_l_draw b_l_draw .nil pass0 (pa_cons (pv 0) (pa_cons (pe_op op_add (pv 2) pe_int) pa_nil))) (pa_cons (pe_un un_neg pe_int) (pa_cons pe_bl (pa_cons pe_bl (pa_cons pe_non (pa_cons pe_str (pa_cons (pe_tupZ (pa_cons pe_int pa_nil)) (pa_cons (pe_op op_pow pe_int pe_int) pa_nil))))))))) (pe_call G_l_draw (hr.mono (by decide)) (by rfl) g_l_draw k_l_draw b_l_draw .nil pass0 (pa_cons (pv 0) (pa_cons pe_int pa_nil))) (fun _ _ => rfl)))
      (pss_cons (ps_if (pt_cmpR op_eq (pv 3) pe_int (nomark _))
        (pss_one (ps_ret (pv 1)))
        pss_nil)
      (Evl.pss_cut (ps_if (PW.pt (pw_or (pt_cmpR op_lt (pv 3) pe_int (nomark _)) (pw_or1 (pt_cmpR (op_eqE hr.units0) (pv 1) (pe_lst pa_nil) (nomark _)))))
        (pss_one (ps_expr (pe_bm PySem.F.plainAttrs_list PySem.F.slot_list_insert PySem.F.type_list_insert mt_insert (pv 1) (pa_cons (pv 4) (pa_cons (pv 5) pa_nil)))))
        (pss_one (ps_if (pt_cmpR op_eq (pv 3) pe_int (nomark _))
          (pss_one (ps_expr (pe_bm PySem.F.plainAttrs_list PySem.F.slot_list_pop PySem.F.type_list_pop mt_popAt (pv 1) (pa_cons (pe_op op_sub (pv 4) (pe_callTy call_int1 (by rfl) M.int (by decide +kernel) (pa_cons (pe_cmpR op_eq (pv 4) (pe_callB call_len_seq (by rfl) M.len PySem.boot_len (pa_cons (pv 1) pa_nil)) (nomark _)) pa_nil))) pa_nil))))
          (pss_one (ps_if (pt_cmpR op_eq (pv 3) pe_int (nomark _))
            (pss_one (ps_expr (pe_bm PySem.F.plainAttrs_list PySem.F.slot_list_insert PySem.F.type_list_insert mt_insert (pv 1) (pa_cons (pv 4) (pa_cons (pe_ix ix_list (pv 1) (pe_op op_sub (pv 4) (pe_callTy call_int1 (by rfl) M.int (by decide +kernel) (pa_cons (pe_cmpR op_eq (pv 4) (pe_callB call_len_seq (by rfl) M.len PySem.boot_len (pa_cons (pv 1) pa_nil)) (nomark _)) pa_nil))) (fun _ _ => rfl)) pa_nil)))))
            (pss_one (ps_if (pt_cmpR op_eq (pv 3) pe_int (nomark _))
              (pss_one (ps_set (i := 1) sc_l_row_spoilt.nd rfl (.inl rfl) (pe_op op_cat (pe_slice sl_list (pv 1) (po_some (pv 4)) po_none) (pe_slice sl_list (pv 1) po_none (po_some (pv 4))))))
              (pss_one (ps_if (pt_cmpR op_eq (pv 3) pe_int (nomark _))
                (pss_one (ps_expr (pe_bm0 PySem.F.plainAttrs_list PySem.F.slot_list_reverse PySem.F.type_list_reverse mt_reverse (pv 1))))
                (pss_cons (ps_set (i := 4) sc_l_row_spoilt.nd rfl (.inl rfl) (pe_op op_sub (pv 4) (pe_callTy call_int1 (by rfl) M.int (by decide +kernel) (pa_cons (pe_cmpR op_eq (pv 4) (pe_callB call_len_seq (by rfl) M.len PySem.boot_len (pa_cons (pv 1) pa_nil)) (nomark _)) pa_nil))))
                (pss_one (ps_asg (pe_ix ix_list (pe_lst (pa_cons (pe_op op_add (pe_ix ix_list (pv 1) (pv 4) (fun _ _ => rfl)) pe_int) (pa_cons (pe_op op_sub (pe_ix ix_list (pv 1) (pv 4) (fun _ _ => rfl)) pe_int) (pa_cons (pv 5) pa_nil)))) (pe_op op_sub (pv 3) pe_int) (fun _ _ => rfl)) (pg_sub (pv 1) (pv 4) set_list)))))))))))))
      (pss_one (ps_ret (pe_callTy call_tuple_ofZ (by rfl) M.tuple (by decide +kernel) (pa_cons (pv 1) pa_nil)))))))))), ?_⟩
    have hpl : ∀ x ∈ ns.map V.int, ∃ i, x = V.int i := fun x hx => by
      obtain ⟨i, _, rfl⟩ := List.mem_map.mp hx
      exact ⟨i, rfl⟩
    refine ⟨.ref p, rfl, p, _, rfl, .inr hp.sq, fun L nL => ?_⟩
    have Ld := hD.ned nL
    have D1 := hD.new (o := .lst (ns.map V.int)) nL
    have K1 : Kp d d H _ := Kp.new (o := .lst (ns.map V.int)) nL
    have hL1 : (upd H L (.lst (ns.map V.int))) L = some (.lst (ns.map V.int)) := upd_same
    generalize upd H L (.lst (ns.map V.int)) = H1 at D1 K1 hL1
    refine ⟨.ref d, rfl, d, b, 10, rfl, D1, by omega, by decide, by decide, fun wy H2 a2 b2 D2 K2 => ?_⟩
    have hL2 := K2 _ _ Ld Ld hL1
    refine ⟨.ref d, rfl, .ref L, rfl, L, _, rfl, .inl (SqL.of hL2), _, 1, rfl, rfl, d, b + 1, _, rfl, D2, by omega, by rw [List.length_map]; omega, ?_, fun at' H3 a3 b3 D3 K3 => ?_⟩
    · rw [List.length_map]
      exact nab_small (by omega) (by omega)
    rw [List.length_map] at b3
    have hL3 := K3 _ _ Ld Ld hL2
    have K03 := (K1.trans K2).trans K3
    refine ⟨.ref d, rfl, .int m, rfl, m, 1, rfl, rfl, d, b + 1 + 1, _, rfl, D3, by omega, by omega, nab_small (by omega) (by omega), fun v4 H4 a4 b4 D4 K4 => ?_⟩
    have hL4 := K4 _ _ Ld Ld hL3
    have K04 := K03.trans K4
    clear hL1 hL2 hL3 D1 D2 D3 K1 K2 K3 K03
    refine ⟨1, rfl, by show 1 ≤ sizeLine; decide, fun o H5 s5 h5 _ => ⟨10, 40, rfl, rfl, ⟨by decide, by decide, by decide⟩, by show 8 ≤ sizeLine; decide, fun l nl => ?_⟩⟩
    have s6 := s5.trans (same_new (o := .lst [.int v4, .int (-1), .bl true, .bl false, .non, .str "0", .ref o, .int (10 ^ (40 : Int).toNat)]) nl)
    have h6 := h5.same (same_new (o := .lst [.int v4, .int (-1), .bl true, .bl false, .non, .str "0", .ref o, .int (10 ^ (40 : Int).toNat)]) nl)
    have hl6 : (upd H5 l (.lst [.int v4, .int (-1), .bl true, .bl false, .non, .str "0", .ref o, .int (10 ^ (40 : Int).toNat)])) l = some (.lst [.int v4, .int (-1), .bl true, .bl false, .non, .str "0", .ref o, .int (10 ^ (40 : Int).toNat)]) := upd_same
    generalize hz : ([.int v4, .int (-1), .bl true, .bl false, .non, .str "0", .ref o, .int (10 ^ (40 : Int).toNat)] : List V) = zs at s6 h6 hl6
    generalize upd H5 l (.lst zs) = H6 at s6 h6 hl6
    have D6 := D4.same s6
    have hL6 := s6 _ _ hL4
    have K06 := K04.trans (Kp.same' s6)
    have ld : l ≠ d := fun z => by
      obtain ⟨g, st, k, e1, _⟩ := D4
      have := s5 _ _ e1
      rw [← z] at this
      rw [this] at nl
      cases nl
    have lz : (zs.length : Int) = 8 := by rw [← hz]; rfl
    have tz : ∀ x ∈ zs, Td 1 H6 x := fun x hx => by
      rw [← hz] at hx
      simp only [List.mem_cons, List.not_mem_nil, or_false] at hx
      rcases hx with rfl | rfl | rfl | rfl | rfl | rfl | rfl | rfl
      · exact .intz
      · exact .intz
      · exact .sc True.intro
      · exact .sc True.intro
      · exact .sc True.intro
      · exact .sc True.intro
      · exact Td.tup h6 (by show 1 ≤ 300; decide) fun x hx => by rw [List.mem_singleton.mp hx]; exact .intz
      · exact .intz
    clear hz s5 h5 nl s6 h6 hL4 D4 K04
    refine ⟨.ref d, rfl, d, b + 1 + 1 + 1, 8, rfl, D6, by omega, by decide, by decide, fun w7 H7 a7 b7 D7 K7 => ?_⟩
    obtain ⟨one, eone, mone⟩ := pick_mem (xs := zs) a7 (by omega)
    have tone := (tz one mone).ks (K7.ks D6 D7)
    have hL7 := K7 _ _ Ld Ld hL6
    have K07 := K06.trans K7
    refine ⟨l, zs, w7, one, rfl, rfl, SqL.of (K7 _ _ ld ld hl6), eone, ?_⟩
    clear tz lz eone mone hl6 ld hL6 D6 K06 K7 a7 b7
    have nL0 : H L = none := nL
    have D7 : Well H7 d (b + 4) := D7.mono (by omega)
    have lst2 : ∀ {H' : Hp} {a : Addr} {xs : List V}, H' a = some (.lst xs) → Td 2 H' (.ref a) := fun h => .inr ⟨_, rfl, .inl ⟨_, h⟩⟩
    refine ⟨.int wy, rfl, rfl, _, rfl, ite2 (fun _ => ⟨_, rfl, q _ _ (lst2 hL7) D7 K07⟩) (fun _ => ?_)⟩
    refine ⟨fun σ' H' => ∃ (L' : Addr) (xs : List V) (y3 y4 y5 : Option V), σ' = [some (.ref d), some (.ref L'), some (.int m), y3, y4, y5] ∧ H' L' = some (.lst xs) ∧ (∀ x ∈ xs, Td 1 H' x) ∧ xs.length ≤ 202 ∧ Well H' d (b + 4) ∧ Kp d d H H', ?_, ?_⟩
    · have lns : (ns.map V.int).length = ns.length := List.length_map ..
      -- insert one
      have ins : ∀ (H8 : Hp), Same H7 H8 → ∀ x, Td 1 H8 x → H8 L = some (.lst (ns.map V.int)) → ∃ (L' : Addr) (xs : List V) (y3 y4 y5 : Option V), ([some (.ref d), some (.ref L), some (.int m), some (.int wy), some (.int at'), some one] : L2.St) = [some (.ref d), some (.ref L'), some (.int m), y3, y4, y5] ∧ (upd H8 L (.lst ((ns.map V.int).take at'.toNat ++ [x] ++ (ns.map V.int).drop at'.toNat))) L' = some (.lst xs) ∧ (∀ z ∈ xs, Td 1 (upd H8 L (.lst ((ns.map V.int).take at'.toNat ++ [x] ++ (ns.map V.int).drop at'.toNat))) z) ∧ xs.length ≤ 202 ∧ Well (upd H8 L (.lst ((ns.map V.int).take at'.toNat ++ [x] ++ (ns.map V.int).drop at'.toNat))) d (b + 4) ∧ Kp d d H (upd H8 L (.lst ((ns.map V.int).take at'.toNat ++ [x] ++ (ns.map V.int).drop at'.toNat))) := fun H8 s8 x tx h8 => by
        refine ⟨L, _, _, _, _, rfl, upd_same, fun y hy => ?_, ?_, (D7.same s8).mut Ld, (K07.trans (Kp.same' s8)).mut nL0⟩
        · rcases List.mem_append.mp hy with hy | hy
          · rcases List.mem_append.mp hy with hy | hy
            · obtain ⟨i, rfl⟩ := hpl y (List.mem_of_mem_take hy)
              exact .intz
            · rw [List.mem_singleton.mp hy]
              exact tx.ks (Ks.mut h8)
          · obtain ⟨i, rfl⟩ := hpl y (List.mem_of_mem_drop hy)
            exact .intz
        · rw [List.length_append, List.length_append, List.length_take, List.length_drop, lns]
          show min _ _ + 1 + _ ≤ 202
          omega
      refine ⟨.int wy, rfl, wy, 3, rfl, rfl, _, rfl, ?_⟩
      cases c3 : decide (wy < 3) with
      | true =>
        exact ⟨.ref L, rfl, .inl ⟨rfl, _, SqL.of hL7⟩, .int at', rfl, one, rfl, L, _, at', one, rfl, rfl, hL7, by rw [lns]; exact small1000 (by omega), a3, by omega, ins H7 (Same.refl _) one tone hL7⟩
      | false =>
      refine ⟨.ref L, rfl, Nat.zero_le _, fun e1 ne1 => ⟨L, e1, _, rfl, rfl, SqL.of (same_new ne1 _ _ hL7), SqL.of upd_same, _, rfl, ?_⟩⟩
      have s8 := same_new (o := .lst []) ne1
      have hL8 := s8 _ _ hL7
      generalize upd H7 e1 (.lst []) = H8 at s8 hL8
      have tone8 := tone.same s8
      have D8 := D7.same s8
      have K08 := K07.trans (Kp.same' s8)
      cases cE : (ns.map V.int).isEmpty with
      | true =>
        exact ⟨.ref L, rfl, .inl ⟨rfl, _, SqL.of hL8⟩, .int at', rfl, one, rfl, L, _, at', one, rfl, rfl, hL8, by rw [lns]; exact small1000 (by omega), a3, by omega, ins H8 s8 one tone8 hL8⟩
      | false =>
      have pos : 0 < ns.length := by
        cases ns with
        | nil => cases cE
        | cons x r => simp
      obtain ⟨k, ek, k0, k1⟩ : ∃ k : Int, at' - (if decide (V.int at' = V.int ((ns.map V.int).length : Nat)) = true then 1 else 0) = k ∧ 0 ≤ k ∧ k < (ns.length : Int) := by
        refine ⟨_, rfl, ?_⟩
        rw [lns]
        by_cases e : at' = (ns.length : Int)
        · rw [if_pos (decide_eq_true (by rw [e]))]
          omega
        · rw [if_neg (fun z => e (V.int.inj (of_decide_eq_true z)))]
          omega
      obtain ⟨x, hx⟩ : ∃ x, ns[k.toNat]? = some x := ⟨_, List.getElem?_eq_getElem (by omega)⟩
      have hxm : atI (ns.map V.int) k = some (.int x) := atI_of k0 (by rw [List.getElem?_map, hx]; rfl)
      have stay : ∀ {zs : List V} {y4 y5 : Option V} {H9 : Hp}, H9 L = some (.lst zs) → (∀ x ∈ zs, ∃ i, x = V.int i) → zs.length ≤ 202 → Well H9 d (b + 4) → Kp d d H H9 → ∃ (L' : Addr) (xs : List V) (y3 y4' y5' : Option V), ([some (.ref d), some (.ref L), some (.int m), some (.int wy), y4, y5] : L2.St) = [some (.ref d), some (.ref L'), some (.int m), y3, y4', y5'] ∧ H9 L' = some (.lst xs) ∧ (∀ x ∈ xs, Td 1 H9 x) ∧ xs.length ≤ 202 ∧ Well H9 d (b + 4) ∧ Kp d d H H9 := fun h1 h2 h3 h4 h5 => ⟨L, _, _, _, _, rfl, h1, fun x hx => by
        obtain ⟨i, rfl⟩ := h2 x hx
        exact .intz, h3, h4, h5⟩
      refine ⟨.int wy, rfl, rfl, _, rfl, ite2 (fun _ => ?_) (fun h3 => ?_)⟩
      · refine ⟨.ref L, rfl, .inl ⟨rfl, _, SqL.of hL8⟩, .int at', rfl, .int at', rfl, .ref L, rfl, L, _, rfl, .inl (SqL.of hL8), rfl, .inr ⟨_, rfl, ?_⟩⟩
        refine ⟨at', _, rfl, rfl, L, _, _, k.toNat, .int x, rfl, rfl, hL8, ?_, ?_, ?_, by rw [List.getElem?_map, hx]; rfl, ?_⟩
        · rw [ek]; omega
        · rw [ek]; omega
        · rw [ek, lns]
          unfold seqIndex?
          simp only [show ¬ k < 0 by omega, if_false]
          rw [if_pos (by simp; omega)]
        · refine stay upd_same (fun y hy => hpl y (List.mem_of_mem_eraseIdx hy)) ?_ (D8.mut Ld) (K08.mut nL0)
          have := List.length_eraseIdx_le (ns.map V.int) k.toNat
          omega
      refine ⟨.int wy, rfl, rfl, _, rfl, ite2 (fun _ => ?_) (fun h4 => ?_)⟩
      · refine ⟨.ref L, rfl, .inl ⟨rfl, _, SqL.of hL8⟩, .int at', rfl, .ref L, rfl, .int at', rfl, .int at', rfl, .ref L, rfl, L, _, rfl, .inl (SqL.of hL8), rfl, .inr ⟨_, rfl, ?_⟩⟩
        refine ⟨at', _, rfl, rfl, L, _, _, .int x, rfl, rfl, SqL.of hL8, by rw [ek]; exact hxm, L, _, at', .int x, rfl, rfl, hL8, by rw [lns]; exact small1000 (by omega), a3, by omega, ins H8 s8 (.int x) .intz hL8⟩
      refine ⟨.int wy, rfl, rfl, _, rfl, ite2 (fun _ => ?_) (fun h5 => ?_)⟩
      · obtain ⟨us1, eu1, lu1⟩ := cut_ints ns (some at') none
        obtain ⟨us2, eu2, lu2⟩ := cut_ints ns none (some at')
        refine ⟨.ref L, rfl, .int at', rfl, _, rfl, L, _, rfl, SqL.of hL8, fun r1 nr1 => ?_⟩
        rw [eu1]
        have s9 := same_new (o := .lst (us1.map V.int)) nr1
        have hr1 : (upd H8 r1 (.lst (us1.map V.int))) r1 = some (.lst (us1.map V.int)) := upd_same
        generalize upd H8 r1 (.lst (us1.map V.int)) = H9 at s9 hr1
        refine ⟨.ref L, rfl, .int at', rfl, _, rfl, L, _, rfl, SqL.of (s9 _ _ hL8), fun r2 nr2 => ?_⟩
        rw [eu2]
        have s10 := same_new (o := .lst (us2.map V.int)) nr2
        have hr2 : (upd H9 r2 (.lst (us2.map V.int))) r2 = some (.lst (us2.map V.int)) := upd_same
        generalize upd H9 r2 (.lst (us2.map V.int)) = H10 at s10 hr2
        have hr1' := s10 _ _ hr1
        refine ⟨r1, r2, _, _, rfl, rfl, hr1', hr2, ?_, fun r3 nr3 => ?_⟩
        · rw [List.length_map, List.length_map]
          exact Nat.le_of_lt (small1000 (by omega))
        have s11 := s8.trans ((s9.trans s10).trans (same_new (o := .lst (us1.map V.int ++ us2.map V.int)) nr3))
        exact ⟨r3, _, _, _, _, rfl, upd_same, fun y hy => (by
          rcases List.mem_append.mp hy with h | h
          · obtain ⟨i, _, rfl⟩ := List.mem_map.mp h
            exact .intz
          · obtain ⟨i, _, rfl⟩ := List.mem_map.mp h
            exact .intz), by
          rw [List.length_append, List.length_map, List.length_map]
          omega, D7.same s11, K07.trans (Kp.same' s11)⟩
      refine ⟨.int wy, rfl, rfl, _, rfl, ite2 (fun _ => ?_) (fun h6 => ?_)⟩
      · refine ⟨.ref L, rfl, .inl ⟨rfl, _, SqL.of hL8⟩, L, _, rfl, rfl, hL8, ?_⟩
        exact stay upd_same (fun y hy => hpl y (List.mem_reverse.mp hy)) (by rw [List.length_reverse, lns]; omega) (D8.mut Ld) (K08.mut nL0)
      have n7 : 7 ≤ wy := by
        have e : ∀ j : Int, ¬ (decide (V.int wy = V.int j) = true) → wy ≠ j := fun j h z => h (decide_eq_true (by rw [z]))
        have := of_decide_eq_false c3
        have := e 3 h3
        have := e 4 h4
        have := e 5 h5
        have := e 6 h6
        omega
      subst ek
      refine ⟨.int at', rfl, .int at', rfl, .ref L, rfl, L, _, rfl, .inl (SqL.of hL8), rfl, .inr ⟨_, rfl, at', _, rfl, rfl, ?_⟩⟩
      refine ⟨.ref L, rfl, _, rfl, L, _, _, .int x, rfl, rfl, SqL.of hL8, hxm, x, 1, rfl, rfl, .ref L, rfl, _, rfl, L, _, _, .int x, rfl, rfl, SqL.of hL8, hxm, x, 1, rfl, rfl, one, rfl, by show 3 ≤ sizeLine; decide, fun l2 nl2 => ?_⟩
      obtain ⟨y, ey, my⟩ := pick_mem (xs := [V.int (x + 1), V.int (x - 1), one]) (w := wy - 7) (by omega) (by show wy - 7 < 3; omega)
      have s9 := same_new (o := .lst [V.int (x + 1), V.int (x - 1), one]) nl2
      have hl2 : (upd H8 l2 (.lst [V.int (x + 1), V.int (x - 1), one])) l2 = some (.lst [V.int (x + 1), V.int (x - 1), one]) := upd_same
      generalize upd H8 l2 (.lst [V.int (x + 1), V.int (x - 1), one]) = H9 at s9 hl2
      have ty : Td 1 H9 y := by
        simp only [List.mem_cons, List.not_mem_nil, or_false] at my
        rcases my with rfl | rfl | rfl
        · exact .intz
        · exact .intz
        · exact tone8.same s9
      have hL9 := s9 _ _ hL8
      refine ⟨.int wy, rfl, wy, 7, rfl, rfl, l2, _, _, y, rfl, rfl, SqL.of hl2, ey, .ref L, rfl, _, rfl, L, _, _, _, rfl, rfl, hL9, ixN_of k0 (by rw [lns] at k1 ⊢; exact k1), ?_⟩
      refine ⟨L, _, _, _, _, rfl, upd_same, fun z hz => ?_, by rw [List.length_set, lns]; omega, (D8.same s9).mut Ld, (K08.trans (Kp.same' s9)).mut nL0⟩
      rcases List.mem_or_eq_of_mem_set hz with h | h
      · obtain ⟨i, rfl⟩ := hpl z h
        exact .intz
      · rw [h]
        exact ty.ks (Ks.mut hL9)
    · rintro σ' H9 ⟨L', xs, y3, y4, y5, rfl, hL', tx, lx, D9, K9⟩
      refine ⟨.ref L', rfl, L', xs, rfl, SqL.of hL', fun r o od nr => ?_⟩
      have s10 := same_new (o := .frz o (.tup xs)) nr
      exact q _ _ (.tup ⟨o, od, upd_same⟩ (by omega) fun x hx => (tx x hx).same s10) (D9.same s10) (K9.trans (Kp.same' s10))
end
/-! ### k27: things spoilt -/
/-- a thing as it is told: places, or a ring -/
def GoodV (H : Hp) (v : V) : Prop := (∃ (a p : Addr) (ns : List Int), v = .ref a ∧ NoD H a [.str "turned", .ref p] ∧ NoD H p (ns.map V.int) ∧ ns.length ≤ 100) ∨
  ∃ (a c p t : Addr) (ps es : List Int), v = .ref a ∧ NoD H a [.str "ring", .ref c] ∧ NoD H c [.ref p, .ref t] ∧ NoD H p (ps.map V.int) ∧ NoD H t (es.map V.int) ∧ ps.length ≤ 100 ∧ es.length ≤ 100
theorem GoodV.same {H H' : Hp} {v : V} (h : GoodV H v) (s : Same H H') : GoodV H' v := by
  rcases h with ⟨a, p, ns, e, h1, h2, l⟩ | ⟨a, c, p, t, ps, es, e, h1, h2, h3, h4, l1, l2⟩
  · exact .inl ⟨a, p, ns, e, h1.same s, h2.same s, l⟩
  · exact .inr ⟨a, c, p, t, ps, es, e, h1.same s, h2.same s, h3.same s, h4.same s, l1, l2⟩
theorem GoodV.ks {H H' : Hp} {v : V} (h : GoodV H v) (s : Ks H H') : GoodV H' v := by
  rcases h with ⟨a, p, ns, e, h1, h2, l⟩ | ⟨a, c, p, t, ps, es, e, h1, h2, h3, h4, l1, l2⟩
  · exact .inl ⟨a, p, ns, e, h1.ks s, h2.ks s, l⟩
  · exact .inr ⟨a, c, p, t, ps, es, e, h1.ks s, h2.ks s, h3.ks s, h4.ks s, l1, l2⟩
theorem GoodV.td {H : Hp} {v : V} (h : GoodV H v) : Td 4 H v := by
  rcases h with ⟨a, p, ns, rfl, h1, h2, l⟩ | ⟨a, c, p, t, ps, es, rfl, h1, h2, h3, h4, l1, l2⟩
  · refine .tup h1 (by show 2 ≤ 300; decide) fun x hx => ?_
    simp only [List.mem_cons, List.not_mem_nil, or_false] at hx
    rcases hx with rfl | rfl
    · exact .sc True.intro
    · exact .ints h2 (by omega)
  · refine .tup h1 (by show 2 ≤ 300; decide) fun x hx => ?_
    simp only [List.mem_cons, List.not_mem_nil, or_false] at hx
    rcases hx with rfl | rfl
    · exact .sc True.intro
    · refine .tup h2 (by show 2 ≤ 300; decide) fun x hx => ?_
      simp only [List.mem_cons, List.not_mem_nil, or_false] at hx
      rcases hx with rfl | rfl
      · exact .ints h3 (by omega)
      · exact .ints h4 (by omega)
theorem Td.mono {d e : Nat} (l : d ≤ e) {H : Hp} {v : V} (h : Td d H v) : Td e H v := by
  induction l with
  | refl => exact h
  | step _ ih => exact ih.up
theorem Td.two {d : Nat} {H : Hp} {a : Addr} {x y : V} (h : NoD H a [x, y]) (hx : Td d H x) (hy : Td d H y) : Td (d + 1) H (.ref a) := .tup h (by show 2 ≤ 300; decide) fun z hz => by
  simp only [List.mem_cons, List.not_mem_nil, or_false] at hz
  rcases hz with rfl | rfl
  · exact hx
  · exact hy
theorem Td.one {d : Nat} {H : Hp} {a : Addr} {x : V} (h : NoD H a [x]) (hx : Td d H x) : Td (d + 1) H (.ref a) := .tup h (by show 1 ≤ 300; decide) fun z hz => by
  rw [List.mem_singleton.mp hz]
  exact hx
theorem NoD.kp' {H H' : Hp} {d p : Addr} {b : Nat} {xs : List V} (h : NoD H p xs) (k : Kp d d H H') (D : Well H d b) : NoD H' p xs := h.kp k D
theorem WebAt.kp {d : Addr} {b : Nat} {H H' : Hp} {v : V} {n : Int} {ts : List Tie} (h : WebAt H v n ts) (k : Kp d d H H') (D : Well H d b) : WebAt H' v n ts := h.tk (k.tk D)
def spSpoilt27 : Sp := fun vs H Q _ => ∃ (d : Addr) (b : Nat) (wv v : V) (n : Nat) (ts : List Tie), vs = [.ref d, wv, v] ∧ Well H d b ∧ b < 2 ^ 50 ∧ WebAt H wv n ts ∧ WebOk n ts ∧ GoodV H v ∧ ∀ u H', Td 4 H' u → Well H' d (b + 6) → Kp d d H H' → Q u H'
section
variable {P : Program} {w : World} {K : PySem.W.Frag} {mg : Str → Option Value} {base : Heap}
set_option maxHeartbeats 4000000 in
theorem ok_l_spoilt {f : Addr} {fd : FuncData} (F : Fun K "_law_spoilt" "_law_spoilt" s_l_spoilt f fd) (M : Free mg) (D_l_draw : Df P w K mg base 1 "_law_draw" ["_law_well_here", "_law_most"] spDraw) (D_l_row_spoilt : Df P w K mg base 2 "_law_row_spoilt" ["_law_well_here", "_law_row", "_law_most"] spRowSp) : FnOk P w K mg base CX0 3 f fd ["_law_well_here", "_law_web_here", "_law_thing"] spSpoilt27 := by
  obtain ⟨f_l_draw, fd_l_draw, G_l_draw, g_l_draw, k_l_draw, b_l_draw⟩ := D_l_draw
  obtain ⟨f_l_row_spoilt, fd_l_row_spoilt, G_l_row_spoilt, g_l_row_spoilt, k_l_row_spoilt, b_l_row_spoilt⟩ := D_l_row_spoilt
  refine F.ok sc_l_spoilt (fun vs H Q E h => ?_) (fun cdv A outer s H vs Q E hr h => ?_)
  · obtain ⟨d, b, wv, v, n, ts, rfl, _⟩ := h
    rfl
  · obtain ⟨d, b, wv, v, n, ts, rfl, hD, hB, hW, ok, hg, q⟩ := h
    refine ⟨_, (pss_cons (ps_asg (pv 2) (pg_tup rfl (pgs_cons (pg_name (i := 3) sc_l_spoilt.nd rfl (.inl rfl)) (pgs_cons (pg_name (i := 4) sc_l_spoilt.nd rfl (.inl rfl)) pgs_nil))))
      (pss_cons (ps_set (i := 5) sc_l_spoilt.nd rfl (.inl rfl) (pe_call G_l_draw (hr.mono (by decide)) (by rfl) g_l_draw k_l_draw b_l_draw .nil pass0 (pa_cons (pv 0) (pa_cons pe_int pa_nil))))
      (Evl.pss_cut (ps_if (pt_cmpR op_eq (pv 5) pe_int (nomark _))
        (pss_one (ps_set (i := 3) sc_l_spoilt.nd rfl (.inl rfl) (pe_ix ix_list (pe_lst (pa_cons pe_str (pa_cons pe_str (pa_cons pe_str (pa_cons pe_str (pa_cons pe_str (pa_cons pe_str (pa_cons pe_str (pa_cons pe_non (pa_cons pe_int (pa_cons (pe_tupZ (pa_cons pe_str pa_nil)) pa_nil))))))))))) (pe_call G_l_draw (hr.mono (by decide)) (by rfl) g_l_draw k_l_draw b_l_draw .nil pass0 (pa_cons (pv 0) (pa_cons pe_int pa_nil))) (fun _ _ => rfl))))
        (pss_one (ps_if (pt_cmpR op_eq (pv 5) pe_int (nomark _))
          (pss_one (ps_ret (pe_ix ix_list (pe_lst (pa_cons (pe_tupZ (pa_cons (pv 3) pa_nil)) (pa_cons (pe_tupZ (pa_cons (pv 3) (pa_cons (pv 4) (pa_cons (pv 4) pa_nil)))) (pa_cons (pe_lst (pa_cons (pv 3) (pa_cons (pv 4) pa_nil))) (pa_cons (pv 4) (pa_cons (pe_tupZ (pa_cons (pv 4) (pa_cons (pv 3) pa_nil))) (pa_cons (pe_disp (pps_cons (pv 3) (pv 4) pps_nil) (by rfl) (by rfl) (fun z => by cases z) (by decide)) pa_nil))))))) (pe_call G_l_draw (hr.mono (by decide)) (by rfl) g_l_draw k_l_draw b_l_draw .nil pass0 (pa_cons (pv 0) (pa_cons pe_int pa_nil))) (fun _ _ => rfl))))
          (pss_one (ps_if (pt_cmpR op_eq (pv 3) pe_str (nomark _))
            (pss_one (ps_set (i := 4) sc_l_spoilt.nd rfl (.inl rfl) (pe_call G_l_row_spoilt (hr.mono (by decide)) (by rfl) g_l_row_spoilt k_l_row_spoilt b_l_row_spoilt .nil pass0 (pa_cons (pv 0) (pa_cons (pv 4) (pa_cons (pe_ix ix_tup (pv 1) pe_int (fun _ _ => rfl)) pa_nil))))))
            (pss_one (ps_if (pt_cmpR op_eq (pv 5) pe_int (nomark _))
              (pss_one (ps_set (i := 4) sc_l_spoilt.nd rfl (.inl rfl) (pe_ix ix_list (pe_lst (pa_cons (pe_revZ (pv 4)) (pa_cons (pe_slice sl_tupQ (pv 4) po_none (po_some pe_int)) (pa_cons (pe_op op_catQ (pv 4) (pe_slice sl_tupQ (pv 4) po_none (po_some pe_int))) (pa_cons (pe_callTy call_list_of (by rfl) M.list (by decide +kernel) (pa_cons (pv 4) pa_nil)) (pa_cons (pe_ix ix_tup (pv 4) pe_int (fun _ _ => rfl)) (pa_cons pe_non pa_nil))))))) (pe_call G_l_draw (hr.mono (by decide)) (by rfl) g_l_draw k_l_draw b_l_draw .nil pass0 (pa_cons (pv 0) (pa_cons pe_int pa_nil))) (fun _ _ => rfl))))
              (pss_one (ps_if (pt_cmpR op_lt (pv 5) pe_int (nomark _))
                (pss_one (ps_set (i := 4) sc_l_spoilt.nd rfl (.inl rfl) (pe_tupZ (pa_cons (pe_call G_l_row_spoilt (hr.mono (by decide)) (by rfl) g_l_row_spoilt k_l_row_spoilt b_l_row_spoilt .nil pass0 (pa_cons (pv 0) (pa_cons (pe_ix ix_tup (pv 4) pe_int (fun _ _ => rfl)) (pa_cons (pe_ix ix_tup (pv 1) pe_int (fun _ _ => rfl)) pa_nil)))) (pa_cons (pe_ix ix_tup (pv 4) pe_int (fun _ _ => rfl)) pa_nil)))))
                (pss_one (ps_set (i := 4) sc_l_spoilt.nd rfl (.inl rfl) (pe_tupZ (pa_cons (pe_ix ix_tup (pv 4) pe_int (fun _ _ => rfl)) (pa_cons (pe_call G_l_row_spoilt (hr.mono (by decide)) (by rfl) g_l_row_spoilt k_l_row_spoilt b_l_row_spoilt .nil pass0 (pa_cons (pv 0) (pa_cons (pe_ix ix_tup (pv 4) pe_int (fun _ _ => rfl)) (pa_cons (pe_callB call_len_seq (by rfl) M.len PySem.boot_len (pa_cons (pe_ix ix_tup (pv 1) pe_int (fun _ _ => rfl)) pa_nil)) pa_nil)))) pa_nil))))))))))))))
      (pss_one (ps_ret (pe_tupZ (pa_cons (pv 3) (pa_cons (pv 4) pa_nil)))))))), ?_⟩
    have n1 := ok.lo
    have n40 := ok.hi
    have few := ok.few
    obtain ⟨a, wd, y, rfl, ha, hy, kind⟩ : ∃ (a : Addr) (wd : Str) (y : V), v = .ref a ∧ NoD H a [.str wd, y] ∧ Td 3 H y ∧ ((wd = "turned" ∧ ∃ (p : Addr) (ns : List Int), y = .ref p ∧ NoD H p (ns.map V.int) ∧ ns.length ≤ 100) ∨ (wd = "ring" ∧ ∃ (c p t : Addr) (ps es : List Int), y = .ref c ∧ NoD H c [.ref p, .ref t] ∧ NoD H p (ps.map V.int) ∧ NoD H t (es.map V.int) ∧ ps.length ≤ 100 ∧ es.length ≤ 100)) := by
      rcases hg with ⟨a, p, ns, rfl, h1, h2, l⟩ | ⟨a, c, p, t, ps, es, rfl, h1, h2, h3, h4, l1, l2⟩
      · exact ⟨a, _, _, rfl, h1, .ints h2 (by omega), .inl ⟨rfl, p, ns, rfl, h2, l⟩⟩
      · exact ⟨a, _, _, rfl, h1, .two h2 (.ints h3 (by omega)) (.ints h4 (by omega)), .inr ⟨rfl, c, p, t, ps, es, rfl, h2, h3, h4, l1, l2⟩⟩
    refine ⟨.ref a, rfl, a, _, rfl, ha.sq, rfl, _, _, rfl, _, _, rfl, rfl, ?_⟩
    refine ⟨.ref d, rfl, d, b, 8, rfl, hD, by omega, by decide, by decide, fun way H1 a1 b1 D1 K1 => ?_⟩
    have hy1 := hy.ks (K1.ks hD D1)
    have hW1 := hW.kp K1 hD
    refine ⟨fun σ' H' => ∃ (x z : V) (y5 : Option V), σ' = [some (.ref d), some wv, some (.ref a), some x, some z, y5] ∧ Td 3 H' x ∧ Td 3 H' z ∧ Well H' d (b + 6) ∧ Kp d d H H', ?_, ?_⟩
    · refine ⟨.int way, rfl, rfl, _, rfl, ite2 (fun _ => ?_) (fun _ => ?_)⟩
      · -- another word
        refine ⟨by show 1 ≤ sizeLine; decide, fun o H2 s2 h2 _ => ⟨by show 10 ≤ sizeLine; decide, fun l nl => ?_⟩⟩
        generalize hz : ([.str "ring", .str "turned", .str "Ring", .str "turn", .str " ring", .str "turned ", .str "", .non, .int 0, .ref o] : List V) = zs at nl ⊢
        have s3 := same_new (o := .lst zs) nl
        have hl3 : (upd H2 l (.lst zs)) l = some (.lst zs) := upd_same
        have h3 := h2.same s3
        have lz : (zs.length : Int) = 10 := by rw [← hz]; rfl
        have tz : ∀ x ∈ zs, Td 1 (upd H2 l (.lst zs)) x := fun x hx => by
          rw [← hz] at hx
          simp only [List.mem_cons, List.not_mem_nil, or_false] at hx
          rcases hx with rfl | rfl | rfl | rfl | rfl | rfl | rfl | rfl | rfl | rfl
          all_goals first | exact Td.one h3 (.sc True.intro) | exact .sc True.intro
        have s13 := s2.trans s3
        have D3 := D1.same s13
        have K3 := K1.trans (Kp.same' s13)
        have ld : l ≠ d := (D1.same s2).ned nl
        have hy3 := hy1.same s13
        generalize upd H2 l (.lst zs) = H3 at s13 hl3 h3 tz D3 K3 hy3
        refine ⟨.ref d, rfl, d, b + 1, 10, rfl, D3, by omega, by decide, by decide, fun w H4 a4 b4 D4 K4 => ?_⟩
        obtain ⟨x, ex, mx⟩ := pick_mem (xs := zs) a4 (by omega)
        refine ⟨l, zs, w, x, rfl, rfl, SqL.of (K4 _ _ ld ld hl3), ex, ?_⟩
        exact ⟨x, y, _, rfl, ((tz x mx).ks (K4.ks D3 D4)).mono (by decide), hy3.ks (K4.ks D3 D4), D4.mono (by omega), K3.trans K4⟩
      refine ⟨.int way, rfl, rfl, _, rfl, ite2 (fun _ => ?_) (fun _ => ?_)⟩
      · -- of another form
        refine ⟨.str wd, rfl, by show 1 ≤ sizeLine; decide, fun o1 H2 s2 h2 _ => ?_⟩
        refine ⟨.str wd, rfl, y, rfl, y, rfl, by show 3 ≤ sizeLine; decide, fun o2 H3 s3 h3 _ => ?_⟩
        refine ⟨.str wd, rfl, y, rfl, by show 2 ≤ sizeLine; decide, fun o3 n3 => ?_⟩
        have s4 := same_new (o := .lst [.str wd, y]) n3
        have h4 : (upd H3 o3 (.lst [.str wd, y])) o3 = some (.lst [.str wd, y]) := upd_same
        generalize upd H3 o3 (.lst [.str wd, y]) = H4 at s4 h4
        refine ⟨y, rfl, y, rfl, .str wd, rfl, by show 2 ≤ sizeLine; decide, fun o5 H5 s5 h5 _ => ?_⟩
        refine fun D nD => ⟨.str wd, rfl, y, rfl, upd_same, [(Sum.inr wd, y)], rfl, by show 1 ≤ 15; decide, ?_⟩
        have sD : Same H5 (upd (upd H5 D (.dK [])) D (.dK (mergeK [] [((Sum.inr wd : Key), y)]))) := fun b o e => by rw [upd_ne (ne_of_none e nD), upd_ne (ne_of_none e nD)]; exact e
        have hD6 : (upd (upd H5 D (.dK [])) D (.dK (mergeK [] [((Sum.inr wd : Key), y)]))) D = some (.dK (mergeK [] [((Sum.inr wd : Key), y)])) := upd_same
        generalize (upd (upd H5 D (.dK [])) D (.dK (mergeK [] [((Sum.inr wd : Key), y)]))) = H6 at sD hD6
        refine ⟨by show 6 ≤ sizeLine; decide, fun l nl => ?_⟩
        generalize hz : ([.ref o1, .ref o2, .ref o3, y, .ref o5, .ref D] : List V) = zs at nl ⊢
        have s7 := same_new (o := .lst zs) nl
        have hl7 : (upd H6 l (.lst zs)) l = some (.lst zs) := upd_same
        have lz : (zs.length : Int) = 6 := by rw [← hz]; rfl
        have s57 := sD.trans s7
        have s47 := s5.trans s57
        have s37 := s4.trans s47
        have s27 := s3.trans s37
        have s17 := s2.trans s27
        have hy7 := hy1.same s17
        have tz : ∀ x ∈ zs, Td 4 (upd H6 l (.lst zs)) x := fun x hx => by
          rw [← hz] at hx
          simp only [List.mem_cons, List.not_mem_nil, or_false] at hx
          rcases hx with rfl | rfl | rfl | rfl | rfl | rfl
          · exact .one (h2.same s27) (.sc True.intro)
          · refine .tup (h3.same s37) (by show 3 ≤ 300; decide) fun z hz => ?_
            simp only [List.mem_cons, List.not_mem_nil, or_false] at hz
            rcases hz with rfl | rfl | rfl
            · exact .sc True.intro
            · exact hy7
            · exact hy7
          · exact .inr ⟨_, rfl, .inl ⟨_, s47 _ _ h4⟩⟩
          · exact hy7.up
          · exact .two (h5.same s57) hy7 (.sc True.intro)
          · exact .inr ⟨_, rfl, .inr (.inl ⟨_, s7 _ _ hD6⟩)⟩
        have D7 := D1.same s17
        have K7 := K1.trans (Kp.same' s17)
        have ld : l ≠ d := (D1.same (s2.trans (s3.trans (s4.trans (s5.trans sD))))).ned nl
        generalize upd H6 l (.lst zs) = H7 at hl7 tz D7 K7
        refine ⟨.ref d, rfl, d, b + 1, 6, rfl, D7, by omega, by decide, by decide, fun w H8 a8 b8 D8 K8 => ?_⟩
        obtain ⟨x, ex, mx⟩ := pick_mem (xs := zs) a8 (by omega)
        refine ⟨l, zs, w, x, rfl, rfl, SqL.of (K8 _ _ ld ld hl7), ex, ?_⟩
        exact q _ _ ((tz x mx).ks (K8.ks D7 D8)) (D8.mono (by omega)) (K7.trans K8)
      refine ⟨.str wd, rfl, rfl, _, rfl, ?_⟩
      obtain ⟨wa, wb, us, rfl, hwa, hwb, hp⟩ := id hW1
      have lus : us.length = ts.length := Paired.length hp
      rcases kind with ⟨rfl, p, ns, rfl, hp2, l⟩ | ⟨rfl, c, p, t, ps, es, rfl, hc, hp2, ht2, l1, l2⟩
      · -- places
        refine ⟨.ref d, rfl, .ref p, rfl, .ref wa, rfl, wa, _, 0, .int n, rfl, rfl, SqT.of hwa, rfl, d, b + 1, p, ns, n, rfl, D1, by omega, hp2.kp K1 hD, l, by omega, by omega, fun u H2 tu D2 K2 => ?_⟩
        exact ⟨_, u, _, rfl, .sc True.intro, tu.up, D2.mono (by omega), K1.trans K2⟩
      · -- a ring
        have hc1 := hc.kp K1 hD
        have hp1 := hp2.kp K1 hD
        have ht1 := ht2.kp K1 hD
        have tdP : ∀ {d : Nat} {H : Hp}, NoD H p (ps.map V.int) → Td (d + 1) H (.ref p) := fun h => .ints h (by omega)
        have tdT : ∀ {d : Nat} {H : Hp}, NoD H t (es.map V.int) → Td (d + 1) H (.ref t) := fun h => .ints h (by omega)
        refine ⟨.int way, rfl, rfl, _, rfl, ite2 (fun _ => ?_) (fun _ => ?_)⟩
        · refine ⟨.ref c, rfl, c, _, rfl, hc1, fun o1 H2 s2 h2 => ?_⟩
          have hc2 := hc1.same s2
          refine ⟨.ref c, rfl, 1, rfl, c, _, rfl, .inr hc2, fun o2 H3 s3 _ h3 => ?_⟩
          have h3 := h3 hc2
          have hc3 := hc2.same s3
          refine ⟨.ref c, rfl, .ref c, rfl, 1, rfl, c, _, rfl, .inr hc3, fun o3 H4 s4 _ h4 => ?_⟩
          have h4 := h4 hc3
          have hc4 := hc3.same s4
          refine ⟨c, o3, _, _, rfl, rfl, .inr hc4, .inr h4, by show 3 ≤ 100000; decide, fun o5 H5 s5 _ h5 => ?_⟩
          have h5 := h5 hc4 h4
          have hc5 := hc4.same s5
          refine ⟨.ref c, rfl, c, _, rfl, .inr hc5.sq, fun o6 n6 => ?_⟩
          have s6 := same_new (o := .lst [.ref p, .ref t]) n6
          have h6 : (upd H5 o6 (.lst [.ref p, .ref t])) o6 = some (.lst [.ref p, .ref t]) := upd_same
          generalize upd H5 o6 (.lst [.ref p, .ref t]) = H6 at s6 h6
          have hc6 := hc5.same s6
          refine ⟨.ref c, rfl, c, _, 0, .ref p, rfl, rfl, hc6.sq, rfl, by show 6 ≤ sizeLine; decide, fun l nl => ?_⟩
          generalize hz : ([.ref o1, .ref o2, .ref o5, .ref o6, .ref p, .non] : List V) = zs at nl ⊢
          have s7 := same_new (o := .lst zs) nl
          have hl7 : (upd H6 l (.lst zs)) l = some (.lst zs) := upd_same
          have lz : (zs.length : Int) = 6 := by rw [← hz]; rfl
          have s57 := s6.trans s7
          have s47 := s5.trans s57
          have s37 := s4.trans s47
          have s27 := s3.trans s37
          have s17 := s2.trans s27
          have hp7 := hp1.same s17
          have ht7 := ht1.same s17
          have tz : ∀ x ∈ zs, Td 3 (upd H6 l (.lst zs)) x := fun x hx => by
            rw [← hz] at hx
            simp only [List.mem_cons, List.not_mem_nil, or_false] at hx
            rcases hx with rfl | rfl | rfl | rfl | rfl | rfl
            · exact .two (h2.same s27) (tdT ht7) (tdP hp7)
            · exact .one (h3.same s37) (tdP hp7)
            · refine .tup (h5.same s57) (by show 3 ≤ 300; decide) fun z hz => ?_
              have hz : z ∈ [V.ref p, V.ref t, V.ref p] := hz
              simp only [List.mem_cons, List.not_mem_nil, or_false] at hz
              rcases hz with rfl | rfl | rfl
              · exact tdP hp7
              · exact tdT ht7
              · exact tdP hp7
            · exact .inr ⟨_, rfl, .inl ⟨_, s7 _ _ h6⟩⟩
            · exact tdP hp7
            · exact .sc True.intro
          have D7 := D1.same s17
          have K7 := K1.trans (Kp.same' s17)
          have ld : l ≠ d := (D1.same (s2.trans (s3.trans (s4.trans (s5.trans s6))))).ned nl
          generalize upd H6 l (.lst zs) = H7 at hl7 tz D7 K7
          refine ⟨.ref d, rfl, d, b + 1, 6, rfl, D7, by omega, by decide, by decide, fun w H8 a8 b8 D8 K8 => ?_⟩
          obtain ⟨x, ex, mx⟩ := pick_mem (xs := zs) a8 (by omega)
          refine ⟨l, zs, w, x, rfl, rfl, SqL.of (K8 _ _ ld ld hl7), ex, ?_⟩
          exact ⟨_, x, _, rfl, .sc True.intro, (tz x mx).ks (K8.ks D7 D8), D8.mono (by omega), K7.trans K8⟩
        refine ⟨.int way, rfl, way, 5, rfl, rfl, _, rfl, ite2 (fun _ => ?_) (fun _ => ?_)⟩
        · refine ⟨.ref d, rfl, .ref c, rfl, c, _, 0, .ref p, rfl, rfl, hc1.sq, rfl, .ref wa, rfl, wa, _, 0, .int n, rfl, rfl, SqT.of hwa, rfl, d, b + 1, p, ps, n, rfl, D1, by omega, hp1, l1, by omega, by omega, fun u H2 tu D2 K2 => ?_⟩
          refine ⟨.ref c, rfl, c, _, 1, .ref t, rfl, rfl, (hc1.kp K2 D1).sq, rfl, by show 2 ≤ sizeLine; decide, fun o H3 s3 h3 _ => ?_⟩
          exact ⟨_, _, _, rfl, .sc True.intro, .two h3 (tu.same s3) (tdT ((ht1.kp K2 D1).same s3)), (D2.same s3).mono (by omega), (K1.trans K2).trans (Kp.same' s3)⟩
        · refine ⟨.ref c, rfl, c, _, 0, .ref p, rfl, rfl, hc1.sq, rfl, .ref d, rfl, .ref c, rfl, c, _, 1, .ref t, rfl, rfl, hc1.sq, rfl, .ref wa, rfl, wa, _, 1, .ref wb, rfl, rfl, SqT.of hwa, rfl, wb, us, rfl, .inr (SqT.of hwb), d, b + 1, t, es, _, rfl, D1, by omega, ht1, l2, by omega, by omega, fun u H2 tu D2 K2 => ?_⟩
          refine ⟨by show 2 ≤ sizeLine; decide, fun o H3 s3 h3 _ => ?_⟩
          exact ⟨_, _, _, rfl, .sc True.intro, .two h3 (tdP ((hp1.kp K2 D1).same s3)) (tu.same s3), (D2.same s3).mono (by omega), (K1.trans K2).trans (Kp.same' s3)⟩
    · rintro σ' H2 ⟨x, z, y5, rfl, tx, tz, D2, K2⟩
      refine ⟨x, rfl, z, rfl, by show 2 ≤ sizeLine; decide, fun o H3 s3 h3 _ => ?_⟩
      exact q _ _ (.two h3 (tx.same s3) (tz.same s3)) (D2.same s3) (K2.trans (Kp.same' s3))
end
/-! ### k27: things that are told -/
structure GI (H0 : Hp) (d G : Addr) (v : V) (n : Nat) (ts : List Tie) (gs : List V) (bb : Nat) (H : Hp) : Prop where
  g : H G = some (.lst gs)
  gd : ∀ x ∈ gs, GoodV H x
  w : Well H d bb
  k : Kp d d H0 H
  web : WebAt H v n ts
theorem GI.same {H0 : Hp} {d G : Addr} {v : V} {n : Nat} {ts : List Tie} {gs : List V} {bb : Nat} {H H' : Hp} (h : GI H0 d G v n ts gs bb H) (s : Same H H') : GI H0 d G v n ts gs bb H' := ⟨s _ _ h.g, fun x hx => (h.gd x hx).same s, h.w.same s, h.k.trans (Kp.same' s), h.web.tk (Same.tk s)⟩
theorem GI.draw {H0 : Hp} {d G : Addr} {v : V} {n : Nat} {ts : List Tie} {gs : List V} {bb b' : Nat} {H H' : Hp} (h : GI H0 d G v n ts gs bb H) (ne : G ≠ d) (D : Well H' d b') (K : Kp d d H H') : GI H0 d G v n ts gs b' H' := ⟨K _ _ ne ne h.g, fun x hx => (h.gd x hx).ks (K.ks h.w D), D, h.k.trans K, h.web.kp K h.w⟩
theorem GI.push {H0 : Hp} {d G : Addr} {v : V} {n : Nat} {ts : List Tie} {gs : List V} {bb : Nat} {H : Hp} (h : GI H0 d G v n ts gs bb H) (ne : G ≠ d) (no : H0 G = none) {x : V} (hx : GoodV H x) : GI H0 d G v n ts (gs ++ [x]) bb (upd H G (.lst (gs ++ [x]))) := ⟨upd_same, fun y hy => by
  rcases List.mem_append.mp hy with hy | hy
  · exact (h.gd y hy).ks (Ks.mut h.g)
  · rw [List.mem_singleton.mp hy]
    exact hx.ks (Ks.mut h.g), h.w.mut ne, h.k.mut no, h.web.tk (tk_lst h.g)⟩
theorem turn_even {ts : List Tie} {ps : List Int} {a b : Int} {p : Bool} (r : RP (betw ts (ts.map (turnT ps))) a b p) : (inP ps a ^^ inP ps b) = p := by
  induction r with
  | nil => exact Bool.xor_self _
  | step r ad ih =>
    rename_i b c p k
    obtain ⟨t, ht, e, h⟩ := ad
    obtain ⟨i, hi⟩ := List.getElem?_of_mem ht
    have hl : (ts.map (turnT ps)).length = ts.length := List.length_map ..
    have il := (List.getElem?_eq_some_iff.mp hi).1
    rw [betw_len hl] at il
    have et := List.getElem?_eq_getElem il
    have eu : (ts.map (turnT ps))[i]? = some (turnT ps ts[i]) := by rw [List.getElem?_map, et]; rfl
    have ec := betw_get et eu
    rw [hi] at ec
    cases ec
    have e2 : ((ts[i]).foe ^^ (turnT ps ts[i]).foe) = (inP ps (ts[i]).one ^^ inP ps (ts[i]).other) := by
      unfold turnT
      by_cases z : inP ps (ts[i]).one = inP ps (ts[i]).other
      · rw [if_pos z, z, Bool.xor_self, Bool.xor_self]
      · rw [if_neg z]
        have z2 : (inP ps (ts[i]).one ^^ inP ps (ts[i]).other) = true := by
          cases h1 : inP ps (ts[i]).one <;> cases h2 : inP ps (ts[i]).other <;> first | rfl | exact absurd (h1.trans h2.symm) z
        rw [z2]
        show ((ts[i]).foe ^^ !(ts[i]).foe) = true
        cases (ts[i]).foe <;> rfl
    have e : ((ts[i]).foe ^^ (turnT ps ts[i]).foe) = k := e
    rw [e2] at e
    have h : ((ts[i]).one = b ∧ (ts[i]).other = c) ∨ ((ts[i]).one = c ∧ (ts[i]).other = b) := h
    rw [← ih, ← e]
    rcases h with ⟨h1, h2⟩ | ⟨h1, h2⟩ <;> rw [h1, h2] <;> cases inP ps a <;> cases inP ps b <;> cases inP ps c <;> rfl
def spGoods : Sp := fun vs H Q _ => ∃ (d : Addr) (b : Nat) (v : V) (p : Addr) (n : Nat) (ts : List Tie) (ps : List Int), vs = [.ref d, v, .ref p] ∧ Well H d b ∧ b < 2 ^ 50 ∧ WebAt H v n ts ∧ WebOk n ts ∧ NoD H p (ps.map V.int) ∧ ps.Nodup ∧ ps.length ≤ 40 ∧
  ∀ L gs H', H L = none → gs.length = 6 → GI H d L v n ts gs (b + 200) H' → Q (.ref L) H'
section
variable {P : Program} {w : World} {K : PySem.W.Frag} {mg : Str → Option Value} {base : Heap}
set_option maxHeartbeats 4000000 in
theorem ok_l_goods {f : Addr} {fd : FuncData} (F : Fun K "_law_goods" "_law_goods" s_l_goods f fd) (M : Free mg) (m_max : mg "max" = none) (D_l_about : Df P w K mg base 1 "_law_about" ["_law_web_here", "_law_places_here"] spAbout) (D_l_choice : Df P w K mg base 1 "_law_choice" ["_law_one", "_law_other_here"] spChoice) (D_l_draw : Df P w K mg base 1 "_law_draw" ["_law_well_here", "_law_most"] spDraw) (D_l_come : Df P w K mg base 1 "_law_come" ["_law_web_here", "_law_start"] spCome27) (D_l_walked : Df P w K mg base 2 "_law_walked" ["_law_well_here", "_law_web_here"] spWalked) : FnOk P w K mg base CX0 3 f fd ["_law_well_here", "_law_web_here", "_law_some"] spGoods := by
  obtain ⟨f_l_about, fd_l_about, G_l_about, g_l_about, k_l_about, b_l_about⟩ := D_l_about
  obtain ⟨f_l_choice, fd_l_choice, G_l_choice, g_l_choice, k_l_choice, b_l_choice⟩ := D_l_choice
  obtain ⟨f_l_draw, fd_l_draw, G_l_draw, g_l_draw, k_l_draw, b_l_draw⟩ := D_l_draw
  obtain ⟨f_l_come, fd_l_come, G_l_come, g_l_come, k_l_come, b_l_come⟩ := D_l_come
  obtain ⟨f_l_walked, fd_l_walked, G_l_walked, g_l_walked, k_l_walked, b_l_walked⟩ := D_l_walked
  refine F.ok sc_l_goods (fun vs H Q E h => ?_) (fun cdv A outer s H vs Q E hr h => ?_)
  · obtain ⟨d, b, v, p, n, ts, ps, rfl, _⟩ := h
    rfl
  · obtain ⟨d, b, v, p, n, ts, ps, rfl, hD, hB, hW, ok, hp, nd, lp, q⟩ := h
    refine ⟨_, (pss_cons (ps_set (i := 3) sc_l_goods.nd rfl (.inl rfl) (pe_lst (pa_cons (pe_tupZ (pa_cons pe_str (pa_cons (pv 2) pa_nil))) pa_nil)))
      (pss_cons (ps_set (i := 4) sc_l_goods.nd rfl (.inl rfl) (pe_call G_l_choice (hr.mono (by decide)) (by rfl) g_l_choice k_l_choice b_l_choice .nil pass0 (pa_cons (pv 1) (pa_cons (pe_call G_l_about (hr.mono (by decide)) (by rfl) g_l_about k_l_about b_l_about .nil pass0 (pa_cons (pv 1) (pa_cons (pv 2) pa_nil))) pa_nil))))
      (pss_cons (ps_set (i := 5) sc_l_goods.nd rfl (.inr rfl) (pe_call G_l_come (hr.mono (by decide)) (by rfl) g_l_come k_l_come b_l_come .nil pass0 (pa_cons (pv 1) (pa_cons (pe_call G_l_draw (hr.mono (by decide)) (by rfl) g_l_draw k_l_draw b_l_draw .nil pass0 (pa_cons (pv 0) (pa_cons (pe_ix ix_tup (pv 1) pe_int (fun _ _ => rfl)) pa_nil))) pa_nil))))
      (pss_cons (ps_set (i := 6) sc_l_goods.nd rfl (.inr rfl) (pe_lc (own := [("_law_place", 7)]) (g := (gName 7)) (te := tVar 7) rfl sc_l_goods.nd (pi_range1 (by rfl) M.range (pa_cons (pe_ix ix_tup (pv 1) pe_int (fun _ _ => rfl)) pa_nil)) (blkOk_by (N := N_l_goods) (sc := defScope s_l_goods) (own := [("_law_place", 7)]) (by decide +kernel)) (fun _ _ _ _ _ => (pg_name (i := 7) sc_l_goods.nd rfl (.inl rfl))) (fun _ _ _ _ _ => (pts_one (pt_val (pe_ix (r := rIxL K) ix_list (pv 5) (pv 7) (fun _ _ => rfl))))) (fun _ _ _ _ _ => (pv 7))))
      (pss_cons (ps_expr (pe_bm PySem.F.plainAttrs_list PySem.F.slot_list_append PySem.F.type_list_append mt_append (pv 3) (pa_cons (pe_tupZ (pa_cons pe_str (pa_cons (pv 4) pa_nil))) pa_nil)))
      (pss_cons (ps_expr (pe_bm PySem.F.plainAttrs_list PySem.F.slot_list_append PySem.F.type_list_append mt_append (pv 3) (pa_cons (pe_tupZ (pa_cons pe_str (pa_cons (pe_callTy call_tuple_ofZ (by rfl) M.tuple (by decide +kernel) (pa_cons (pe_lc (own := [("_law_place", 7)]) (g := (gName 7)) (te := tVar 7) rfl sc_l_goods.nd (pi_range1 (by rfl) M.range (pa_cons (pe_ix ix_tup (pv 1) pe_int (fun _ _ => rfl)) pa_nil)) (blkOk_by (N := N_l_goods) (sc := defScope s_l_goods) (own := [("_law_place", 7)]) (by decide +kernel)) (fun _ _ _ _ _ => (pg_name (i := 7) sc_l_goods.nd rfl (.inl rfl))) (fun _ _ _ _ _ => (pts_one (pt_cmpR op_ne (pe_cmpR (r := rIn K false) op_in_seq (pv 7) (pv 2) rfl) (pe_cmpR (r := rIn K false) op_in_seq (pv 7) (pv 6) rfl) (nomark _)))) (fun _ _ _ _ _ => (pv 7))) pa_nil)) pa_nil))) pa_nil)))
      (pss_cons (ps_asg (pe_call G_l_walked (hr.mono (by decide)) (by rfl) g_l_walked k_l_walked b_l_walked .nil pass0 (pa_cons (pv 0) (pa_cons (pv 1) pa_nil))) (pg_tup rfl (pgs_cons (pg_name (i := 8) sc_l_goods.nd rfl (.inl rfl)) (pgs_cons (pg_name (i := 9) sc_l_goods.nd rfl (.inl rfl)) pgs_nil))))
      (pss_cons (ps_set (i := 10) sc_l_goods.nd rfl (.inl rfl) (pe_call G_l_draw (hr.mono (by decide)) (by rfl) g_l_draw k_l_draw b_l_draw .nil pass0 (pa_cons (pv 0) (pa_cons (pe_callB (call_max2 rfl) (by rfl) m_max (by decide +kernel) (pa_cons pe_int (pa_cons (pe_callB call_len_seq (by rfl) M.len PySem.boot_len (pa_cons (pv 8) pa_nil)) pa_nil))) pa_nil))))
      (pss_cons (ps_expr (pe_bm PySem.F.plainAttrs_list PySem.F.slot_list_append PySem.F.type_list_append mt_append (pv 3) (pa_cons (pe_tupZ (pa_cons pe_str (pa_cons (pe_tupZ (pa_cons (pv 8) (pa_cons (pv 9) pa_nil))) pa_nil))) pa_nil)))
      (pss_cons (ps_expr (pe_bm PySem.F.plainAttrs_list PySem.F.slot_list_append PySem.F.type_list_append mt_append (pv 3) (pa_cons (pe_tupZ (pa_cons pe_str (pa_cons (pe_tupZ (pa_cons (pe_op op_catQ (pe_slice sl_tupQ (pv 8) (po_some (pv 10)) po_none) (pe_slice sl_tupQ (pv 8) po_none (po_some (pv 10)))) (pa_cons (pe_op op_catQ (pe_slice sl_tupQ (pv 9) (po_some (pv 10)) po_none) (pe_slice sl_tupQ (pv 9) po_none (po_some (pv 10)))) pa_nil))) pa_nil))) pa_nil)))
      (pss_cons (ps_set (i := 11) sc_l_goods.nd rfl (.inl rfl) (pe_revZ (pv 8)))
      (pss_one (ps_ret (pe_op op_cat (pv 3) (pe_lst (pa_cons (pe_tupZ (pa_cons pe_str (pa_cons (pe_tupZ (pa_cons (pe_op op_catQ (pe_slice sl_tupQ (pv 11) (po_some (pe_un un_neg pe_int)) po_none) (pe_slice sl_tupQ (pv 11) po_none (po_some (pe_un un_neg pe_int)))) (pa_cons (pe_revZ (pv 9)) pa_nil))) pa_nil))) pa_nil)))))))))))))))), ?_⟩
    obtain ⟨wa, wb, us, rfl, hwa, hwb, hpw⟩ := id hW
    have n1 := ok.lo
    have n40 := ok.hi
    have few := ok.few
    have webT : ∀ {H' : Hp}, Kp d d H H' → SqT K H' wa [.int n, .ref wb] := fun k => SqT.of (k _ _ (hD.ne_tup hwa) (hD.ne_tup hwa) hwa)
    refine ⟨.ref p, rfl, by show 2 ≤ sizeLine; decide, fun o1 H1 s1 h1 _ => ⟨by show 1 ≤ sizeLine; decide, fun G nG => ?_⟩⟩
    have nG0 : H G = none := s1.free nG
    have Gd := hD.ned nG0
    have sG := same_new (o := .lst [.ref o1]) nG
    have hG : (upd H1 G (.lst [.ref o1])) G = some (.lst [.ref o1]) := upd_same
    have g2 : GI H d G (.ref wa) n ts [.ref o1] b (upd H1 G (.lst [.ref o1])) := ⟨hG, fun x hx => by
      rw [List.mem_singleton.mp hx]
      exact .inl ⟨o1, p, ps, rfl, h1.same sG, (hp.same s1).same sG, by omega⟩, (hD.same s1).same sG, Kp.same' (s1.trans sG), hW.tk (Same.tk (s1.trans sG))⟩
    have hp2 := (hp.same s1).same sG
    generalize upd H1 G (.lst [.ref o1]) = H2 at g2 hp2
    clear hG sG h1 s1 nG
    -- parts
    refine ⟨.ref wa, rfl, .ref wa, rfl, .ref p, rfl, .ref wa, p, n, ts, ps, rfl, g2.web, few, hp2, nd, fun u H3 s3 hU => ?_⟩
    have g3 := g2.same s3
    have hl : (ts.map (turnT ps)).length = ts.length := List.length_map ..
    refine ⟨.ref wa, u, n, ts, _, rfl, g3.web, hU, hl, ok, fun ss r H4 _ _ s4 hr4 => ?_, fun H4 od _ => ?_⟩
    case refine_2 =>
      obtain ⟨x, _, rp⟩ := od
      have := turn_even rp
      rw [Bool.xor_self] at this
      cases this
    have g4 := g3.same s4
    have hp4 := (hp2.same s3).same s4
    have lo4 := onesTo_len ss n
    -- come
    refine ⟨.ref wa, rfl, .ref d, rfl, .ref wa, rfl, wa, _, 0, .int n, rfl, rfl, webT g4.k, rfl, d, b, n, rfl, g4.w, by omega, by omega, nab_small (by omega) (by omega), fun s H5 a5 b5 D5 K5 => ?_⟩
    have g5 := g4.draw Gd D5 K5
    have hp5 := hp4.kp K5 g4.w
    have hr5 := hr4.kp K5 g4.w
    refine ⟨.ref wa, n, s, ts, rfl, g5.web, ok, a5, b5, fun C bs H6 s6 hC lb => ?_⟩
    have g6 := g5.same s6
    have hp6 := hp5.same s6
    have hr6 := hr5.same s6
    -- whole
    refine ⟨.ref wa, rfl, wa, _, 0, .int n, rfl, rfl, webT g6.k, rfl, n, rfl, by omega, by omega, fun Z nZ => ?_⟩
    rw [Int.toNat_natCast]
    have ZG : Z ≠ G := fun z => by rw [z, g6.g] at nZ; cases nZ
    refine lc_range (lo := 0) (n := n) (fun i H' => ∃ zs : List Int, H' Z = some (.lst (zs.map V.int)) ∧ zs.length ≤ i ∧ Same H6 H') ⟨[], upd_same, Nat.le_refl _, same_new nZ⟩ ?_ ?_
    · rintro i H7 hi ⟨zs, hZ, lz, s7⟩
      rw [show (0 : Int) + (i : Nat) = i from by omega]
      obtain ⟨bo, eb⟩ : ∃ bo, bs[i]? = some bo := ⟨_, List.getElem?_eq_getElem (by omega)⟩
      refine ⟨rfl, .ref C, rfl, .int i, rfl, C, _, i, .bl bo, rfl, rfl, SqL.of (s7 _ _ hC), atI_nat (by rw [List.getElem?_map, eb]; rfl), bo, rfl, ?_⟩
      cases bo with
      | true => exact ⟨.int i, rfl, _, hZ, by rw [List.length_map]; exact small1000 (by omega), zs ++ [(i : Int)], by rw [upd_same, List.map_append]; rfl, by rw [List.length_append]; show zs.length + 1 ≤ i + 1; omega, Same.mut s7 nZ⟩
      | false => exact ⟨zs, hZ, by omega, s7⟩
    rintro H7 ⟨zs, hZ, lz, s7⟩
    have g7 := g6.same s7
    have hp7 := hp6.same s7
    have hr7 := hr6.same s7
    clear g2 g3 g4 g5 g6 hp2 hp4 hp5 hp6 hr4 hr5 hr6 hC hU s7 s6 s4 s3 D5 K5 nZ
    -- ('turned', parts)
    refine ⟨.ref G, rfl, .inl ⟨rfl, _, SqL.of g7.g⟩, .ref r, rfl, by show 2 ≤ sizeLine; decide, fun o8 H8 s8 h8 _ => ?_⟩
    have g8 := g7.same s8
    have x8 : GoodV H8 (.ref o8) := .inl ⟨o8, r, _, rfl, h8, hr7.same s8, by omega⟩
    refine ⟨G, _, .ref o8, rfl, rfl, g8.g, by show 1 < sizeLine; decide, ?_⟩
    have g9 := g8.push Gd nG0 x8
    have hp9 := (hp7.same s8).ks (Ks.mut (ys := [.ref o1] ++ [.ref o8]) g8.g)
    have hZ9 : (upd H8 G (.lst ([.ref o1] ++ [.ref o8]))) Z = some (.lst (zs.map V.int)) := by rw [upd_ne ZG]; exact s8 _ _ hZ
    generalize upd H8 G (.lst ([.ref o1] ++ [.ref o8])) = H9 at g9 hp9 hZ9
    clear g7 g8 hp7 hr7 h8 x8 s8 hZ
    -- places but these
    refine ⟨.ref G, rfl, .inl ⟨rfl, _, SqL.of g9.g⟩, .ref wa, rfl, wa, _, 0, .int n, rfl, rfl, webT g9.k, rfl, n, rfl, by omega, by omega, fun Y nY => ?_⟩
    rw [Int.toNat_natCast]
    refine lc_range (lo := 0) (n := n) (fun i H' => ∃ ys : List Int, H' Y = some (.lst (ys.map V.int)) ∧ ys.length ≤ i ∧ Same H9 H') ⟨[], upd_same, Nat.le_refl _, same_new nY⟩ ?_ ?_
    · rintro i H10 hi ⟨ys, hY, ly, s10⟩
      rw [show (0 : Int) + (i : Nat) = i from by omega]
      refine ⟨rfl, .int i, rfl, .ref p, rfl, p, _, rfl, .inr (hp9.same s10).sq, rfl, flat_ints _, .int i, rfl, .ref Z, rfl, Z, _, rfl, .inl (SqL.of (s10 _ _ hZ9)), rfl, flat_ints _, rfl, _, rfl, ?_⟩
      refine ite2 (fun _ => ?_) (fun _ => ?_)
      · exact ⟨.int i, rfl, _, hY, by rw [List.length_map]; exact small1000 (by omega), ys ++ [(i : Int)], by rw [upd_same, List.map_append]; rfl, by rw [List.length_append]; show ys.length + 1 ≤ i + 1; omega, Same.mut s10 nY⟩
      · exact ⟨ys, hY, by omega, s10⟩
    rintro H10 ⟨ys, hY, ly, s10⟩
    refine ⟨Y, _, rfl, SqL.of hY, fun o11 ob11 od11 n11 => ?_⟩
    have s11 := s10.trans (same_new (o := .frz ob11 (.tup (ys.map V.int))) n11)
    have h11 : NoD (upd H10 o11 (.frz ob11 (.tup (ys.map V.int)))) o11 (ys.map V.int) := ⟨ob11, od11, upd_same⟩
    generalize upd H10 o11 (.frz ob11 (.tup (ys.map V.int))) = H11 at s11 h11
    refine ⟨by show 2 ≤ sizeLine; decide, fun o12 H12 s12 h12 _ => ?_⟩
    have g12 := g9.same (s11.trans s12)
    refine ⟨G, _, .ref o12, rfl, rfl, g12.g, by show 2 < sizeLine; decide, ?_⟩
    have g13 := g12.push Gd nG0 (x := .ref o12) (.inl ⟨o12, o11, ys, rfl, h12, h11.same s12, by omega⟩)
    generalize upd H12 G (.lst ([.ref o1] ++ [.ref o8] ++ [.ref o12])) = H13 at g13
    clear g9 g12 hp9 hZ9 hY h11 h12 s10 s11 s12 nY n11
    -- a walk
    refine ⟨.ref d, rfl, .ref wa, rfl, d, b + 1, .ref wa, n, ts, rfl, g13.w, by omega, g13.web, ok, fun q' pa ta ks es H14 hq hpa hta lk le D14 K14 => ?_⟩
    have g14 := g13.draw Gd D14 K14
    refine ⟨q', _, rfl, hq.sq, rfl, _, _, rfl, _, _, rfl, rfl, ?_⟩
    refine ⟨.ref d, rfl, .ref pa, rfl, pa, _, rfl, .inr hpa.sq, 1, _, rfl, d, b + 1 + 100, _, rfl, g14.w, by omega, ?_, ?_, fun tu H15 a15 b15 D15 K15 => ?_⟩
    · split <;> omega
    · refine nab_small ?_ ?_
      · split <;> omega
      · rw [List.length_map]
        split <;> omega
    have g15 := g14.draw Gd D15 K15
    have pa15 := hpa.kp K15 g14.w
    have ta15 := hta.kp K15 g14.w
    clear g13 g14 hq hpa hta D14 K14 D15 K15
    refine ⟨.ref G, rfl, .inl ⟨rfl, _, SqL.of g15.g⟩, .ref pa, rfl, .ref ta, rfl, by show 2 ≤ sizeLine; decide, fun o16 H16 s16 h16 _ => ⟨by show 2 ≤ sizeLine; decide, fun o17 H17 s17 h17 _ => ?_⟩⟩
    have g17 := g15.same (s16.trans s17)
    have pa17 := (pa15.same s16).same s17
    have ta17 := (ta15.same s16).same s17
    refine ⟨G, _, .ref o17, rfl, rfl, g17.g, by show 3 < sizeLine; decide, ?_⟩
    have g18 := g17.push Gd nG0 (x := .ref o17) (.inr ⟨o17, o16, pa, ta, ks, es, rfl, h17, h16.same s17, pa17, ta17, lk, le⟩)
    have km : Ks H17 (upd H17 G (.lst ([.ref o1] ++ [.ref o8] ++ [.ref o12] ++ [.ref o17]))) := Ks.mut g17.g
    have pa18 := pa17.ks km
    have ta18 := ta17.ks km
    generalize upd H17 G (.lst ([.ref o1] ++ [.ref o8] ++ [.ref o12] ++ [.ref o17])) = H18 at g18 pa18 ta18
    clear g15 g17 pa15 pa17 ta15 ta17 km h16 h17 s16 s17
    -- turned about
    have ct : ∀ {H1 H2 : Hp} {a b r3 : Addr} {ns : List Int} {lo hi lo' hi' : Option Int}, ns.length ≤ 100 → (NoD H1 a (cutV (ns.map V.int) lo hi) → NoD H1 b (cutV (ns.map V.int) lo' hi') → NoD H2 r3 (cutV (ns.map V.int) lo hi ++ cutV (ns.map V.int) lo' hi')) → NoD H1 a (cutV (ns.map V.int) lo hi) → NoD H1 b (cutV (ns.map V.int) lo' hi') → NoD H2 r3 (cutV (ns.map V.int) lo hi ++ cutV (ns.map V.int) lo' hi') := fun _ h h1 h2 => h h1 h2
    have asI : ∀ (ns : List Int) (lo hi lo' hi' : Option Int), ∃ zs : List Int, cutV (ns.map V.int) lo hi ++ cutV (ns.map V.int) lo' hi' = zs.map V.int := fun ns lo hi lo' hi' => by
      obtain ⟨z1, e1, _⟩ := cut_ints ns lo hi
      obtain ⟨z2, e2, _⟩ := cut_ints ns lo' hi'
      exact ⟨z1 ++ z2, by rw [e1, e2, List.map_append]⟩
    have cl : ∀ (ns : List Int) (lo hi : Option Int), (cutV (ns.map V.int) lo hi).length ≤ ns.length := fun ns lo hi => by
      have := cutV_length (ns.map V.int) lo hi
      rw [List.length_map] at this
      exact this
    have two : ∀ (tu : Int) (ns : List Int), 0 ≤ tu → (cutV (ns.map V.int) (some tu) none ++ cutV (ns.map V.int) none (some tu)).length = ns.length := fun tu ns h0 => by
      obtain ⟨k, rfl⟩ := Int.eq_ofNat_of_zero_le h0
      unfold cutV
      rw [HT.sIx_none, HT.sIx_none, HT.sIx_nat, HT.sIx_nat, List.length_append, List.length_take, List.length_drop, List.length_take, List.length_drop, List.length_map]
      omega
    have back : ∀ ns : List Int, (cutV (ns.map V.int) (some (-1)) none ++ cutV (ns.map V.int) none (some (-1))).length ≤ ns.length := fun ns => by
      unfold cutV
      rw [HT.sIx_none, HT.sIx_none, List.length_append, List.length_take, List.length_drop, List.length_take, List.length_drop, List.length_map]
      have e : ∀ e : Nat, HT.sIx ns.length e (some (-1)) = ns.length - 1 := fun e => by
        unfold HT.sIx
        simp
        omega
      rw [e, e]
      omega
    refine ⟨.ref G, rfl, .inl ⟨rfl, _, SqL.of g18.g⟩, .ref pa, rfl, .int tu, rfl, _, rfl, pa, _, rfl, .inr pa18, fun r1 H19 s19 _ z1 => ?_⟩
    have z1 := z1 pa18
    have pa19 := pa18.same s19
    have ta19 := ta18.same s19
    refine ⟨.ref pa, rfl, .int tu, rfl, _, rfl, pa, _, rfl, .inr pa19, fun r2 H20 s20 _ z2 => ?_⟩
    have z2 := z2 pa19
    have ta20 := ta19.same s20
    refine ⟨r1, r2, _, _, rfl, rfl, .inr (z1.same s20), .inr z2, ?_, fun r3 H21 s21 _ z3 => ?_⟩
    · have := cl ks (some tu) none
      have := cl ks none (some tu)
      omega
    have z3 := z3 (z1.same s20) z2
    have ta21 := ta20.same s21
    refine ⟨.ref ta, rfl, .int tu, rfl, _, rfl, ta, _, rfl, .inr ta21, fun r4 H22 s22 _ z4 => ?_⟩
    have z4 := z4 ta21
    have ta22 := ta21.same s22
    refine ⟨.ref ta, rfl, .int tu, rfl, _, rfl, ta, _, rfl, .inr ta22, fun r5 H23 s23 _ z5 => ?_⟩
    have z5 := z5 ta22
    refine ⟨r4, r5, _, _, rfl, rfl, .inr (z4.same s23), .inr z5, ?_, fun r6 H24 s24 _ z6 => ?_⟩
    · have := cl es (some tu) none
      have := cl es none (some tu)
      omega
    have z6 := z6 (z4.same s23) z5
    refine ⟨by show 2 ≤ sizeLine; decide, fun o25 H25 s25 h25 _ => ⟨by show 2 ≤ sizeLine; decide, fun o26 H26 s26 h26 _ => ?_⟩⟩
    have s1926 := ((s19.trans s20).trans (s21.trans s22)).trans ((s23.trans s24).trans (s25.trans s26))
    have g26 := g18.same s1926
    have pa26 := pa18.same s1926
    have ta26 := ta18.same s1926
    have z3' := z3.same (s22.trans (s23.trans (s24.trans (s25.trans s26))))
    have z6' := z6.same (s25.trans s26)
    have l3 := two tu ks a15
    have l6 := two tu es a15
    obtain ⟨ks', e3⟩ := asI ks (some tu) none none (some tu)
    obtain ⟨es', e6⟩ := asI es (some tu) none none (some tu)
    rw [e3, List.length_map] at l3
    rw [e6, List.length_map] at l6
    rw [e3] at z3'
    rw [e6] at z6'
    refine ⟨G, _, .ref o26, rfl, rfl, g26.g, by show 4 < sizeLine; decide, ?_⟩
    have g27 := g26.push Gd nG0 (x := .ref o26) (.inr ⟨o26, o25, r3, r6, ks', es', rfl, h26, h25.same s26, z3', z6', by omega, by omega⟩)
    have km : Ks H26 (upd H26 G (.lst ([.ref o1] ++ [.ref o8] ++ [.ref o12] ++ [.ref o17] ++ [.ref o26]))) := Ks.mut g26.g
    have pa27 := pa26.ks km
    have ta27 := ta26.ks km
    generalize upd H26 G (.lst ([.ref o1] ++ [.ref o8] ++ [.ref o12] ++ [.ref o17] ++ [.ref o26])) = H27 at g27 pa27 ta27
    clear g18 g26 pa18 ta18 pa19 ta19 ta20 ta21 ta22 pa26 ta26 z1 z2 z3 z4 z5 z6 z3' z6' h25 h26 km s1926 s19 s20 s21 s22 s23 s24 s25 s26
    -- the other way about
    refine ⟨.ref pa, rfl, pa, _, rfl, pa27, fun bk H28 s28 hbk => ?_⟩
    have g28 := g27.same s28
    have ta28 := ta27.same s28
    rw [← List.map_reverse] at hbk
    generalize hbb : ks.reverse = bs' at hbk
    have lbb : bs'.length = ks.length := by rw [← hbb, List.length_reverse]
    refine ⟨.ref G, rfl, .ref bk, rfl, 1, rfl, -1, rfl, bk, _, rfl, .inr hbk, fun r1 H29 s29 _ z1 => ?_⟩
    have z1 := z1 hbk
    have bk29 := hbk.same s29
    refine ⟨.ref bk, rfl, 1, rfl, -1, rfl, bk, _, rfl, .inr bk29, fun r2 H30 s30 _ z2 => ?_⟩
    have z2 := z2 bk29
    refine ⟨r1, r2, _, _, rfl, rfl, .inr (z1.same s30), .inr z2, ?_, fun r3 H31 s31 _ z3 => ?_⟩
    · have := cl bs' (some (-1)) none
      have := cl bs' none (some (-1))
      omega
    have z3 := z3 (z1.same s30) z2
    have ta31 := ta28.same (s29.trans (s30.trans s31))
    refine ⟨.ref ta, rfl, ta, _, rfl, ta31, fun r4 H32 s32 h32 => ?_⟩
    rw [← List.map_reverse] at h32
    refine ⟨by show 2 ≤ sizeLine; decide, fun o33 H33 s33 h33 _ => ⟨by show 2 ≤ sizeLine; decide, fun o34 H34 s34 h34 _ => ⟨by show 1 ≤ sizeLine; decide, fun l35 n35 => ?_⟩⟩⟩
    have s2834 := ((s29.trans s30).trans (s31.trans s32)).trans (s33.trans s34)
    have g34 := g28.same s2834
    have z3' := z3.same (s32.trans (s33.trans s34))
    have z4' := h32.same (s33.trans s34)
    have l3 := back bs'
    obtain ⟨ks2, e3⟩ := asI bs' (some (-1)) none none (some (-1))
    rw [e3, List.length_map] at l3
    rw [e3] at z3'
    have x34 : GoodV H34 (.ref o34) := .inr ⟨o34, o33, r3, r4, ks2, es.reverse, rfl, h34, h33.same s34, z3', z4', by omega, by rw [List.length_reverse]; exact le⟩
    have s35 := same_new (o := .lst [.ref o34]) n35
    have h35 : (upd H34 l35 (.lst [.ref o34])) l35 = some (.lst [.ref o34]) := upd_same
    have g35 := g34.same s35
    have x35 := x34.same s35
    generalize upd H34 l35 (.lst [.ref o34]) = H35 at g35 h35 x35
    refine ⟨G, l35, _, _, rfl, rfl, g35.g, h35, by show 6 ≤ sizeLine; decide, fun L nL => ?_⟩
    have s36 := same_new (o := .lst ([.ref o1] ++ [.ref o8] ++ [.ref o12] ++ [.ref o17] ++ [.ref o26] ++ [.ref o34])) nL
    have Ld := g35.w.ned nL
    refine q L _ _ (g35.k.free nL Ld Ld) rfl ⟨upd_same, fun x hx => ?_, (g35.w.same s36).mono (by omega), g35.k.trans (Kp.same' s36), g35.web.tk (Same.tk s36)⟩
    rcases List.mem_append.mp hx with hx | hx
    · exact (g35.gd x hx).same s36
    · rw [List.mem_singleton.mp hx]
      exact x35.same s36
end
/-! ### k27: the law -/
theorem passNever {X : Cx} (σ : L2.St) : PassesAt (L2.CX X.prog X.w) X σ (fun _ _ _ => False) := fun _ _ _ e s' I c => by
  obtain ⟨a, B, H', cls, d, _, _, _, _, _, _, _, h⟩ := c
  exact h.elim
def spLaw (K : PySem.W.Frag) (Ps : List Addr) : Sp := fun vs H Q _ => ∃ (a : Addr) (ns : List Int), vs = [.ref a] ∧ SqL K H a (ns.map V.int) ∧ ns.length ≤ 63 ∧ Tabs Ps H ∧ ∀ H', Q (.bl true) H'
theorem framed_both {n : Int} {ts us : List Tie} (ll : us.length = ts.length) (h : framedI ts us = true) : framedB n ts n us = true := by
  unfold framedB
  rw [h, ll, decide_eq_true rfl, decide_eq_true rfl]
  rfl
theorem rising_nodup27 {ps : List Int} (h : ps.Pairwise (· < ·)) : ps.Nodup := h.imp fun h => by omega
section
variable {P : Program} {w : World} {K : PySem.W.Frag} {mg : Str → Option Value} {base : Heap}
set_option maxHeartbeats 4000000 in
theorem ok_law {f : Addr} {fd : FuncData} {Ps : List Addr} {D : Addr} (F : Fun K "law" "law" s_law f fd) (M : Free mg) (D_l_well : Df P w K mg base 1 "_law_well" ["_law_script", "_law_k"] (spWell K)) (D_l_web : Df P w K mg base 2 "_law_web" ["_law_well_here"] spWeb) (D_l_places : Df P w K mg base 2 "_law_places" ["_law_well_here", "_law_many"] spPlaces) (D_l_other : Df P w K mg base 2 "_law_other" ["_law_well_here", "_law_web_here", "_law_some"] spOther26) (D_l_draw : Df P w K mg base 1 "_law_draw" ["_law_well_here", "_law_most"] spDraw) (D_l_with_other_kinds : Df P w K mg base 2 "_law_with_other_kinds" ["_law_well_here", "_law_web_here"] spWith26) (D_l_goods : Df P w K mg base 3 "_law_goods" ["_law_well_here", "_law_web_here", "_law_some"] spGoods) (D_l_spoilt : Df P w K mg base 3 "_law_spoilt" ["_law_well_here", "_law_web_here", "_law_thing"] spSpoilt27) (D_turning_holds : DfX P w K mg base 7 "turning_holds" ["one", "other", "thing"] (spJudge Ps D)) (D_l_due : Df P w K mg base 3 "_law_due" ["_law_one", "_law_other_here", "_law_thing"] spDue27) : FnOk P w K mg base CX0 8 f fd ["_law_script"] (spLaw K Ps) := by
  obtain ⟨f_l_well, fd_l_well, G_l_well, g_l_well, k_l_well, b_l_well⟩ := D_l_well
  obtain ⟨f_l_web, fd_l_web, G_l_web, g_l_web, k_l_web, b_l_web⟩ := D_l_web
  obtain ⟨f_l_places, fd_l_places, G_l_places, g_l_places, k_l_places, b_l_places⟩ := D_l_places
  obtain ⟨f_l_other, fd_l_other, G_l_other, g_l_other, k_l_other, b_l_other⟩ := D_l_other
  obtain ⟨f_l_draw, fd_l_draw, G_l_draw, g_l_draw, k_l_draw, b_l_draw⟩ := D_l_draw
  obtain ⟨f_l_with_other_kinds, fd_l_with_other_kinds, G_l_with_other_kinds, g_l_with_other_kinds, k_l_with_other_kinds, b_l_with_other_kinds⟩ := D_l_with_other_kinds
  obtain ⟨f_l_goods, fd_l_goods, G_l_goods, g_l_goods, k_l_goods, b_l_goods⟩ := D_l_goods
  obtain ⟨f_l_spoilt, fd_l_spoilt, G_l_spoilt, g_l_spoilt, k_l_spoilt, b_l_spoilt⟩ := D_l_spoilt
  obtain ⟨f_turning_holds, fd_turning_holds, G_turning_holds, g_turning_holds, k_turning_holds, b_turning_holds⟩ := D_turning_holds
  obtain ⟨f_l_due, fd_l_due, G_l_due, g_l_due, k_l_due, b_l_due⟩ := D_l_due
  refine F.ok sc_law (fun vs H Q E h => ?_) (fun cdv A outer s H vs Q E hr h => ?_)
  · obtain ⟨sc, ns, rfl, _⟩ := h
    rfl
  · obtain ⟨sc, ns, rfl, hS, few63, hT, q⟩ := h
    refine ⟨_, (pss_cons (ps_for PassesOwn.never rfl (pi_range1 (by rfl) M.range (pa_cons pe_int pa_nil)) (pg_name (i := 1) sc_law.nd rfl (.inl rfl))
        (pss_cons (ps_set (i := 2) sc_law.nd rfl (.inl rfl) (pe_call G_l_well (hr.mono (by decide)) (by rfl) g_l_well k_l_well b_l_well .nil pass0 (pa_cons (pv 0) (pa_cons (pv 1) pa_nil))))
        (pss_cons (ps_set (i := 3) sc_law.nd rfl (.inl rfl) (pe_call G_l_web (hr.mono (by decide)) (by rfl) g_l_web k_l_web b_l_web .nil pass0 (pa_cons (pv 2) pa_nil)))
        (pss_cons (ps_set (i := 4) sc_law.nd rfl (.inl rfl) (pe_call G_l_places (hr.mono (by decide)) (by rfl) g_l_places k_l_places b_l_places .nil pass0 (pa_cons (pv 2) (pa_cons (pe_ix ix_tup (pv 3) pe_int (fun _ _ => rfl)) pa_nil))))
        (pss_cons (ps_set (i := 5) sc_law.nd rfl (.inl rfl) (pe_call G_l_other (hr.mono (by decide)) (by rfl) g_l_other k_l_other b_l_other .nil pass0 (pa_cons (pv 2) (pa_cons (pv 3) (pa_cons (pv 4) pa_nil)))))
        (Evl.pss_cut (ps_if (pt_cmpR op_eq (pe_call G_l_draw (hr.mono (by decide)) (by rfl) g_l_draw k_l_draw b_l_draw .nil pass0 (pa_cons (pv 2) (pa_cons pe_int pa_nil))) pe_int (nomark _))
          (pss_one (ps_set (i := 5) sc_law.nd rfl (.inl rfl) (pe_call G_l_with_other_kinds (hr.mono (by decide)) (by rfl) g_l_with_other_kinds k_l_with_other_kinds b_l_with_other_kinds .nil pass0 (pa_cons (pv 2) (pa_cons (pv 5) pa_nil)))))
          pss_nil)
        (pss_cons (ps_set (i := 6) sc_law.nd rfl (.inl rfl) (pe_call G_l_goods (hr.mono (by decide)) (by rfl) g_l_goods k_l_goods b_l_goods .nil pass0 (pa_cons (pv 2) (pa_cons (pv 3) (pa_cons (pv 4) pa_nil)))))
        (pss_cons (ps_for PassesOwn.never rfl (pi_range1 (by rfl) M.range (pa_cons pe_int pa_nil)) (pg_name (i := 7) sc_law.nd rfl (.inl rfl))
          (pss_one (ps_expr (pe_bm PySem.F.plainAttrs_list PySem.F.slot_list_append PySem.F.type_list_append mt_append (pv 6) (pa_cons (pe_call G_l_spoilt (hr.mono (by decide)) (by rfl) g_l_spoilt k_l_spoilt b_l_spoilt .nil pass0 (pa_cons (pv 2) (pa_cons (pv 3) (pa_cons (pe_ix ix_list (pv 6) (pe_call G_l_draw (hr.mono (by decide)) (by rfl) g_l_draw k_l_draw b_l_draw .nil pass0 (pa_cons (pv 2) (pa_cons pe_int pa_nil))) (fun _ _ => rfl)) pa_nil)))) pa_nil)))))
        (pss_one (ps_for PassesOwn.never rfl (pi_list (pe_op op_cat (pv 6) (pe_lst (pa_cons pe_non (pa_cons (pe_tupZ pa_nil) (pa_cons (pe_tupZ (pa_cons pe_str pa_nil)) (pa_cons (pe_tupZ (pa_cons pe_str (pa_cons pe_non pa_nil))) (pa_cons (pe_tupZ (pa_cons pe_str (pa_cons (pe_tupZ (pa_cons (pe_tupZ pa_nil) (pa_cons (pe_tupZ pa_nil) pa_nil))) pa_nil))) (pa_cons (pe_lst pa_nil) (pa_cons pe_dnewK (pa_cons pe_str (pa_cons pe_int pa_nil)))))))))))) (pg_name (i := 8) sc_law.nd rfl (.inl rfl))
          (pss_cons (ps_set (i := 9) sc_law.nd rfl (.inl rfl) (pe_callS G_turning_holds (hr.mono (by decide)) (by rfl) g_turning_holds k_turning_holds b_turning_holds (fun σ => passNever σ) (pa_cons (pv 3) (pa_cons (pv 5) (pa_cons (pv 8) pa_nil)))))
          (pss_one (ps_if (PW.pt (pw_or (pt_not (pt_val (pe_callB call_isi (by rfl) M.isinstance (by decide +kernel) (pa_cons (pv 9) (pa_cons (pe_bltn (v := .ty "bool") (by rfl) M.bool (by decide +kernel) rfl) pa_nil))))) (pw_or1 (pt_cmpR op_ne (pv 9) (pe_call G_l_due (hr.mono (by decide)) (by rfl) g_l_due k_l_due b_l_due .nil pass0 (pa_cons (pv 3) (pa_cons (pv 5) (pa_cons (pv 8) pa_nil)))) (nomark _)))))
            (pss_one (ps_ret pe_bl))
            pss_nil)))))))))))))
      (pss_one (ps_ret pe_bl))), ?_⟩
    refine ⟨2, rfl, by decide, by decide, ?_⟩
    refine for_range (lo := 0) (n := 2) (fun i σ' H' => ∃ y1 y2 y3 y4 y5 y6 y7 y8 y9 : Option V, σ' = [some (.ref sc), y1, y2, y3, y4, y5, y6, y7, y8, y9] ∧ SqL K H' sc (ns.map V.int) ∧ Tabs Ps H') ⟨none, none, none, none, none, none, none, none, none, rfl, hS, hT⟩ ?_ (fun σ' H' h => by
      obtain ⟨_, _, _, _, _, _, _, _, _, rfl, _⟩ := h
      exact q _)
    rintro i σ' H1 hi ⟨y1, y2, y3, y4, y5, y6, y7, y8, y9, rfl, hS1, hT1⟩
    rw [show (0 : Int) + (i : Nat) = i from by omega]
    refine ⟨.ref sc, rfl, .int i, rfl, sc, ns, i, rfl, hS1, by omega, fun d H2 s2 nd D2 => ?_⟩
    have hS2 := Scr.mk' hS1 nd s2
    have hT2 := hT1.same s2
    refine ⟨.ref d, rfl, d, 3, rfl, D2, by decide, fun wv nI ts H3 hW ok D3 K3 => ?_⟩
    obtain ⟨n, rfl⟩ : ∃ n : Nat, nI = n := ⟨nI.toNat, by have := ok.lo; omega⟩
    have hS3 := hS2.kp K3
    have hT3 := hT2.kp K3 D2
    clear hS2 hT2 hS1 hT1 K3 D2 s2 nd
    have n1 := ok.lo
    have n2 := ok.hi
    have few := ok.few
    obtain ⟨wa, wb, rfl, hwa⟩ : ∃ wa wb, wv = .ref wa ∧ H3 wa = some (.tup [.int n, .ref wb]) := by
      obtain ⟨a, b, us, e, h, _⟩ := id hW
      exact ⟨a, b, e, h⟩
    refine ⟨.ref d, rfl, .ref wa, rfl, wa, _, 0, .int n, rfl, rfl, SqT.of hwa, rfl, d, _, n, rfl, D3, by omega, n1, n2, fun p ps H5 hP pw rg l40 D5 K5 => ?_⟩
    have hW5 := hW.kp K5 D3
    have hT5 := hT3.kp K5 D3
    have hS5 := hS3.kp K5
    clear hS3 hT3 hW D3 K5 hwa
    refine ⟨.ref d, rfl, .ref wa, rfl, .ref p, rfl, d, _, .ref wa, p, n, ts, ps, rfl, D5, by omega, hW5, few, hP, rising_nodup27 pw, fun ov us H6 hO lu fr D6 K6 => ?_⟩
    have hT6 := hT5.kp K6 D5
    have hW6 := hW5.kp K6 D5
    have hS6 := hS5.kp K6
    have hP6 := hP.kp K6 D5
    clear hS5 hT5 hW5 hP D5 K6
    refine ⟨fun σ' H' => ∃ (ov : V) (us : List Tie), σ' = [some (.ref sc), some (.int i), some (.ref d), some (.ref wa), some (.ref p), some ov, y6, y7, y8, y9] ∧ Scr K H' sc d (ns.map V.int) ∧ Tabs Ps H' ∧ WebAt H' (.ref wa) n ts ∧ NoD H' p (ps.map V.int) ∧ Well H' d 1500 ∧ WebAt H' ov n us ∧ us.length = ts.length ∧ framedI ts us = true, ?_, ?_⟩
    · refine ⟨.ref d, rfl, d, _, 2, rfl, D6, by omega, by decide, by decide, fun y H7 a7 b7 D7 K7 => ⟨rfl, _, rfl, ite2 (fun _ => ?_) (fun _ => ?_)⟩⟩
      · refine ⟨.ref d, rfl, ov, rfl, d, _, ov, n, us, rfl, D7, by omega, hO.kp K7 D6, by omega, fun xv xs H8 hX se D8 K8 => ?_⟩
        exact ⟨xv, xs, rfl, (hS6.kp K7).kp K8, (hT6.kp K7 D6).kp K8 D7, (hW6.kp K7 D6).kp K8 D7, (hP6.kp K7 D6).kp K8 D7, D8.mono (by omega), hX, by have := se.1; omega, framed_ends fr se⟩
      · exact ⟨ov, us, rfl, hS6.kp K7, hT6.kp K7 D6, hW6.kp K7 D6, hP6.kp K7 D6, D7.mono (by omega), hO.kp K7 D6, lu, fr⟩
    clear hS6 hT6 hW6 hO lu fr D6 hP6
    rintro σ' H7 ⟨ov, us, rfl, hS7, hT7, hW7, hP7, D7, hO7, lu, fr⟩
    have fb := framed_both (n := n) lu fr
    have oku := (framed_ok fb (.inl ok)).2
    refine ⟨.ref d, rfl, .ref wa, rfl, .ref p, rfl, d, 1500, .ref wa, p, n, ts, ps, rfl, D7, by decide, hW7, ok, hP7, rising_nodup27 pw, l40, fun L gs H8 nL lg gi => ?_⟩
    have Ld := D7.ned nL
    have hS8 := hS7.kp gi.k
    have hT8 := hT7.kp gi.k D7
    have hO8 := hO7.kp gi.k D7
    refine ⟨10, rfl, by decide, by decide, ?_⟩
    refine for_range (lo := 0) (n := 10) (fun j σ' H' => ∃ (y7 : Option V) (xs : List V), σ' = [some (.ref sc), some (.int i), some (.ref d), some (.ref wa), some (.ref p), some ov, some (.ref L), y7, y8, y9] ∧ Scr K H' sc d (ns.map V.int) ∧ Tabs Ps H' ∧ WebAt H' (.ref wa) n ts ∧ WebAt H' ov n us ∧ Well H' d (1700 + 10 * j) ∧ H' L = some (.lst (gs ++ xs)) ∧ (∀ x ∈ gs, GoodV H' x) ∧ xs.length = j ∧ (∀ x ∈ xs, Td 4 H' x) ∧ Kp d d H7 H') ⟨_, [], rfl, hS8, hT8, gi.web, hO8, gi.w, by rw [List.append_nil]; exact gi.g, gi.gd, rfl, fun x hx => (by simp at hx), gi.k⟩ ?_ ?_
    · clear hS8 hT8 hO8 gi
      rintro j σ' H9 hj ⟨y7, xs, rfl, hS9, hT9, hW9, hO9, D9, hL9, hg9, lx, hx9, K9⟩
      refine ⟨.ref L, rfl, .inl ⟨rfl, _, SqL.of hL9⟩, .ref d, rfl, .ref wa, rfl, .ref L, rfl, .ref d, rfl, d, _, 6, rfl, D9, by omega, by decide, by decide, fun w H10 a10 b10 D10 K10 => ?_⟩
      have hL10 := K10 _ _ Ld Ld hL9
      obtain ⟨g, eg, mg'⟩ := pick_mem (xs := gs) a10 (by omega)
      have eg2 : atI (gs ++ xs) w = some g := by
        have hw : w.toNat < gs.length := by omega
        refine atI_of a10 ?_
        rw [List.getElem?_append_left hw]
        unfold atI ixN at eg
        rw [if_pos a10, if_pos (by omega)] at eg
        exact eg
      refine ⟨L, _, w, g, rfl, rfl, SqL.of hL10, eg2, d, _, .ref wa, g, n, ts, rfl, D10, by omega, hW9.kp K10 D9, ok, (hg9 g mg').ks (K10.ks D9 D10), fun u H11 tu D11 K11 => ?_⟩
      have hL11 := K11 _ _ Ld Ld hL10
      refine ⟨L, _, u, rfl, rfl, hL11, by rw [List.length_append]; exact small1000 (by omega), ?_⟩
      have ks := (K10.ks D9 D10).trans (K11.ks D10 D11)
      have km : Ks H11 (upd H11 L (.lst (gs ++ xs ++ [u]))) := Ks.mut hL11
      have kz : Kp d d H7 (upd H11 L (.lst (gs ++ xs ++ [u]))) := ((K9.trans K10).trans K11).mut nL
      refine ⟨_, xs ++ [u], rfl, hS7.kp kz, hT7.kp kz D7, hW7.kp kz D7, hO7.kp kz D7, (D11.mut Ld).mono (by omega), by rw [upd_same, List.append_assoc], fun x hx => ((hg9 x hx).ks ks).ks km, by rw [List.length_append, lx]; rfl, fun x hx => ?_, kz⟩
      rcases List.mem_append.mp hx with hx | hx
      · exact ((hx9 x hx).ks ks).ks km
      · rw [List.mem_singleton.mp hx]
        exact tu.ks km
    · clear hS8 hT8 hO8 gi
      rintro σ' H9 ⟨y7, xs, rfl, hS9, hT9, hW9, hO9, D9, hL9, hg9, lx, hx9, K9⟩
      refine ⟨.ref L, rfl, ?_⟩
      refine ⟨by show 0 ≤ sizeLine; decide, fun o1 H10 s10 h10 _ => ⟨by show 1 ≤ sizeLine; decide, fun o2 H11 s11 h11 _ => ⟨by show 2 ≤ sizeLine; decide, fun o3 H12 s12 h12 _ => ?_⟩⟩⟩
      refine ⟨by show 0 ≤ sizeLine; decide, fun o4 H13 s13 h13 _ => ⟨by show 0 ≤ sizeLine; decide, fun o5 H14 s14 h14 _ => ⟨by show 2 ≤ sizeLine; decide, fun o6 H15 s15 h15 _ => ⟨by show 2 ≤ sizeLine; decide, fun o7 H16 s16 h16 _ => ?_⟩⟩⟩⟩
      refine ⟨by show 0 ≤ sizeLine; decide, fun o8 n8 => ?_⟩
      have s17 := same_new (o := .lst []) n8
      have h17 : (upd H16 o8 (.lst [])) o8 = some (.lst []) := upd_same
      generalize upd H16 o8 (.lst []) = H17 at s17 h17
      refine fun o9 n9 => ?_
      have s18 := same_new (o := .dK []) n9
      have h18 : (upd H17 o9 (.dK [])) o9 = some (.dK []) := upd_same
      generalize upd H17 o9 (.dK []) = H18 at s18 h18
      refine ⟨by show 9 ≤ sizeLine; decide, fun l nl => ?_⟩
      have a16 := s17.trans s18
      have a15 := s16.trans a16
      have a14 := s15.trans a15
      have a13 := s14.trans a14
      have a12 := s13.trans a13
      have a11 := s12.trans a12
      have a10 := s11.trans a11
      have a9 := s10.trans a10
      have tz : ∀ x ∈ ([.non, .ref o1, .ref o2, .ref o3, .ref o7, .ref o8, .ref o9, .str "turned", .int 0] : List V), Td 4 H18 x := fun x hx => by
        simp only [List.mem_cons, List.not_mem_nil, or_false] at hx
        rcases hx with rfl | rfl | rfl | rfl | rfl | rfl | rfl | rfl | rfl
        · exact .sc True.intro
        · exact .tup (h10.same a10) (by show 0 ≤ 300; decide) fun x hx => by simp at hx
        · exact .one (h11.same a11) (.sc True.intro)
        · exact .two (h12.same a12) (.sc True.intro) (.sc True.intro)
        · refine .two (h16.same a16) (.sc True.intro) (.two (h15.same a15) (.tup (h13.same a13) (by show 0 ≤ 300; decide) fun x hx => by simp at hx) (.tup (h14.same a14) (by show 0 ≤ 300; decide) fun x hx => by simp at hx))
        · exact .inr ⟨_, rfl, .inl ⟨_, s18 _ _ h17⟩⟩
        · exact .inr ⟨_, rfl, .inr (.inl ⟨_, h18⟩)⟩
        · exact .sc True.intro
        · exact .sc True.intro
      generalize hz : ([.non, .ref o1, .ref o2, .ref o3, .ref o7, .ref o8, .ref o9, .str "turned", .int 0] : List V) = zs at tz nl ⊢
      have lz : zs.length = 9 := by rw [← hz]; rfl
      have s19 := same_new (o := .lst zs) nl
      have h19 : (upd H18 l (.lst zs)) l = some (.lst zs) := upd_same
      have s919 := a9.trans s19
      have hL19 := s919 _ _ hL9
      have tz19 : ∀ x ∈ zs, Td 4 (upd H18 l (.lst zs)) x := fun x hx => (tz x hx).same s19
      generalize upd H18 l (.lst zs) = H19 at s19 h19 s919 hL19 tz19
      refine ⟨L, l, _, _, rfl, rfl, hL19, h19, ?_, fun M nM => ?_⟩
      · rw [List.length_append]
        exact Nat.le_of_lt (small1000 (by omega))
      have s20 := same_new (o := .lst (gs ++ xs ++ zs)) nM
      have hM : (upd H19 M (.lst (gs ++ xs ++ zs))) M = some (.lst (gs ++ xs ++ zs)) := upd_same
      have s920 := s919.trans s20
      have all20 : ∀ x ∈ gs ++ xs ++ zs, Td 4 (upd H19 M (.lst (gs ++ xs ++ zs))) x := fun x hx => by
        rcases List.mem_append.mp hx with hx | hx
        · rcases List.mem_append.mp hx with hx | hx
          · exact ((hg9 x hx).td).same s920
          · exact (hx9 x hx).same s920
        · exact (tz19 x hx).same s20
      generalize upd H19 M (.lst (gs ++ xs ++ zs)) = H20 at hM s920 all20
      have hS20 := hS9.same s920
      have hT20 := hT9.same s920
      have hW20 := hW9.tk (Same.tk s920)
      have hO20 := hO9.tk (Same.tk s920)
      refine ⟨M, rfl, ⟨_, SqL.of hM⟩, ?_⟩
      generalize hal : gs ++ xs ++ zs = al at hM all20
      refine for_list (xs := al) (fun j σ' H' => ∃ (y8 y9 : Option V), σ' = [some (.ref sc), some (.int i), some (.ref d), some (.ref wa), some (.ref p), some ov, some (.ref L), y7, y8, y9] ∧ Scr K H' sc d (ns.map V.int) ∧ Tabs Ps H' ∧ WebAt H' (.ref wa) n ts ∧ WebAt H' ov n us ∧ H' M = some (.lst al) ∧ (∀ x ∈ al, Td 4 H' x)) ⟨_, _, rfl, hS20, hT20, hW20, hO20, hM, all20⟩ (fun j σ' H' _ h => by
        obtain ⟨_, _, _, _, _, _, _, h, _⟩ := h
        exact SqL.of h) ?_ ?_
      · clear hS20 hT20 hW20 hO20 hM all20
        rintro j x σ' H21 ex ⟨y8, y9, rfl, hS, hT, hW, hO, hM, all⟩
        have tx := all x (List.mem_of_getElem? ex)
        refine ⟨.ref wa, rfl, ov, rfl, x, rfl, .ref wa, ov, x, n, n, ts, us, rfl, hW, hO, .inl ok, tx.judk, hT, fun _ H22 k22 => ?_, fun z _ _ => by rw [fb] at z; cases z⟩
        have ks := k22.ks hT
        have tx2 := tx.ks ks
        have hW2 := hW.tk (k22.tk hT)
        have hO2 := hO.tk (k22.tk hT)
        obtain ⟨t1, h1, e1⟩ := kn_bool (K := K) (H := H22) (v := .bl (jB H21 n ts us x)) True.intro
        refine ⟨.bl _, rfl, .bl _, _, t1, _, _, rfl, .ty "bool", h1, e1, _, rfl, ?_⟩
        refine ⟨.bl _, rfl, .ref wa, rfl, ov, rfl, x, rfl, .ref wa, ov, x, n, ts, us, rfl, hW2, hO2, ok, oku, lu, fr, tx2, fun H23 s23 => ⟨rfl, _, rfl, ?_⟩⟩
        rw [jB_ks tx.judk ks, decide_eq_true rfl]
        have k23 := k22.trans (Kt.same k22.tab s23)
        have ks2 := k23.ks hT
        exact ⟨_, _, rfl, hS.kt hT k23, k23.tab, hW.tk (k23.tk hT), hO.tk (k23.tk hT), k23.lst hT hM, fun z hz => (all z hz).ks ks2⟩
      · rintro σ' H21 ⟨y8, y9, rfl, hS, hT, _⟩
        exact ⟨_, _, _, _, _, _, _, _, _, rfl, hS.sq, hT⟩
end
/-! ### the end of a law whose defs hold generator expressions: their tables are empty behind the top -/
theorem walk_tabs {l : PySem.W.OpenLaw} {n k : Nat} {q : Program} {loose : List Str} {XP : (Str → Option Value) → Heap → Prop} {YP : World → Heap → Prop} {d : DefRec} {K : Params → PySem.W.Frag} {x : Str}
    (hn : l.most = some n) (hn2 : n ≤ sizeLine) (hdf : d.params.defaults = []) (hr : Room k callerA) (hY : ∀ (w : World) (h : Heap), YP w h → (K w.params).In h)
    (F : ∀ (w : World) (mg : Str → Option Value) (fa : Addr) (h : Heap), (K w.params).In h → h.Ns mainGlobals mg → mg d.name = some (.ref fa) →
      (∀ (y : Str) (fy : Addr), ((recsOf q).any fun e => e.name == y) = true → mg y = some (.ref fy) → LamX.OwnTab (K w.params) fy h) → LamX.LawAtS l w (K w.params) CX0 k n x mg fa h) :
    PySem.W.WalkO q loose XP YP l.row.toRowW d [] (fun f vs => PySem.call f vs) := by
  refine Att.attach_callB hn hdf fun w s₀ s₁ mg mb fa o pm cd doc a vs ns G Y ho hd hcd hmg hobj hints hlen hbits hg => ?_
  have KX := hY w _ Y
  have tabs : ∀ (y : Str) (fy : Addr), ((recsOf q).any fun e => e.name == y) = true → mg y = some (.ref fy) → LamX.OwnTab (K w.params) fy s₁.heap := fun y fy hy hm c P o1 fd1 e dd vs1 sl k1 k2 k3 k4 k5 => by
    obtain ⟨dL, hmem, hnm⟩ := List.any_eq_true.mp hy
    have hnm : dL.name = y := beq_iff_eq.mp hnm
    obtain ⟨a', o', fd', c', P', h1, h2, h3, h4, h5, h6⟩ := G.T.tab dL hmem
    rw [hnm, hm] at h1
    cases h1
    rw [KX _ _ k1] at h2
    cases h2
    rw [k2] at h3
    cases h3
    rw [k3] at h4
    cases h4
    obtain ⟨⟨oc, vc, e1, _, e3, e4⟩, hP⟩ := h6
    rw [KX _ _ k4] at e1
    cases e1
    cases e3
    rw [k5] at e4
    cases e4
    exact hP
  obtain ⟨fd, cs, sp, hT, nT, C, hb, hsp, hF⟩ := F w mg fa _ KX G.T.g hmg tabs
  exact LamX.law_callTs KX G.T.g G.T.b G.T.builtins G.T.nolimit hg hT nT C G.T.bmain hobj hints (Nat.le_trans hlen hn2) hr hF hb (fun H hH hS => hsp H a ns hlen hbits hH hS) fun H e s' z => z
/-- where a def stands, and where its code object does -/
structure At (K : PySem.W.Frag) (x : Str) (st : Stmt) (f : Addr) : Prop where
  ns : PySem.W.nsIn K mainGlobals x = some (some (.ref f))
  ex : ∃ (oc : Value) (od : Option Addr) (kV doc pm : Value) (an : Option Addr) (cdv ct : Value) (osl : Array (Option Value)),
    K.lookup f = some ⟨oc, od, .func (PySem.W.fnOf x x (defArgs st) (defBody st) (defScope st) .none kV doc pm an cdv ct), osl⟩ ∧ PySem.W.codeIn K cdv x = true
  kp : PySem.W.keepIn K (.ref f) = true
theorem at_mk {K : PySem.W.Frag} {x : Str} {st : Stmt} {f : Addr} {oc : Value} {od an : Option Addr} {osl : Array (Option Value)} {kV doc pm cdv ct : Value} (a : PySem.W.nsIn K mainGlobals x = some (some (.ref f)))
    (l : K.lookup f = some ⟨oc, od, .func (PySem.W.fnOf x x (defArgs st) (defBody st) (defScope st) .none kV doc pm an cdv ct), osl⟩) (c : PySem.W.codeIn K cdv x = true) (k : PySem.W.keepIn K (.ref f) = true) : At K x st f := ⟨a, ⟨oc, od, kV, doc, pm, an, cdv, ct, osl, l, c⟩, k⟩
theorem At.fn {K : PySem.W.Frag} {x : Str} {st : Stmt} {f : Addr} (h : At K x st f) : ∃ fd, Fun K x x st f fd := by
  obtain ⟨oc, od, kV, doc, pm, an, cdv, ct, osl, l, c⟩ := h.ex
  exact ⟨_, fun_mk l c h.kp⟩
structure AtC (K : PySem.W.Frag) (x : Str) (st : Stmt) (f c Pt : Addr) : Prop where
  ns : PySem.W.nsIn K mainGlobals x = some (some (.ref f))
  ex : ∃ (oc : Value) (od : Option Addr) (kV doc pm : Value) (an : Option Addr) (ct : Value) (osl : Array (Option Value)),
    K.lookup f = some ⟨oc, od, .func (PySem.W.fnOf x x (defArgs st) (defBody st) (defScope st) .none kV doc pm an (.ref c) ct), osl⟩ ∧ PySem.W.codeIn K (.ref c) x = true
  kp : PySem.W.keepIn K (.ref f) = true
  co : ∃ (dd : Option Addr) (vs : Array Value) (sl : Array (Option Value)) (file : Str) (tf : Tok) (flags : Int) (tg : Tok) (inF : Bool) (text : Int) (tt : Tok), K.lookup c = some ⟨.type "code", dd, .fields vs, sl⟩ ∧ vs[11]? = some (.ref Pt) ∧ vs.getD 11 .none = .ref Pt ∧ vs.getD 18 .none = .str file tf ∧
    vs.getD 7 .none = .int flags tg ∧ vs.getD 9 .none = .bool inF ∧ vs.getD 10 .none = .int text tt ∧ c ≠ Pt
  nP : K.lookup Pt = none
theorem atC_mk {K : PySem.W.Frag} {x : Str} {st : Stmt} {f c Pt : Addr} {oc : Value} {od an dd : Option Addr} {osl sl : Array (Option Value)} {kV doc pm ct : Value} {vs : Array Value} {file : Str} {tf tg tt : Tok} {flags text : Int} {inF : Bool} (a : PySem.W.nsIn K mainGlobals x = some (some (.ref f)))
    (l : K.lookup f = some ⟨oc, od, .func (PySem.W.fnOf x x (defArgs st) (defBody st) (defScope st) .none kV doc pm an (.ref c) ct), osl⟩) (cc : PySem.W.codeIn K (.ref c) x = true) (k : PySem.W.keepIn K (.ref f) = true)
    (lc : K.lookup c = some ⟨.type "code", dd, .fields vs, sl⟩) (v11 : vs[11]? = some (.ref Pt)) (w11 : vs.getD 11 .none = .ref Pt) (v18 : vs.getD 18 .none = .str file tf) (v7 : vs.getD 7 .none = .int flags tg) (v9 : vs.getD 9 .none = .bool inF) (v10 : vs.getD 10 .none = .int text tt) (ne : c ≠ Pt)
    (nP : K.lookup Pt = none) : AtC K x st f c Pt := ⟨a, ⟨oc, od, kV, doc, pm, an, ct, osl, l, cc⟩, k, ⟨dd, vs, sl, file, tf, flags, tg, inF, text, tt, lc, v11, w11, v18, v7, v9, v10, ne⟩, nP⟩
theorem AtC.fn {K : PySem.W.Frag} {x : Str} {st : Stmt} {f c Pt : Addr} (h : AtC K x st f c Pt) : ∃ fd, FunC K x x st f fd c := by
  obtain ⟨oc, od, kV, doc, pm, an, ct, osl, l, cc⟩ := h.ex
  exact ⟨_, ⟨oc, od, kV, doc, pm, an, ct, osl, rfl, l, cc⟩, h.kp⟩
theorem AtC.hd {K : PySem.W.Frag} {h : Heap} {x : Str} {st : Stmt} {f c Pt : Addr} (a : AtC K x st f c Pt) (X : K.In h) : PySem.W.CodeHd h c Pt := by
  obtain ⟨dd, vs, sl, file, tf, flags, tg, inF, text, tt, lc, v11, w11, v18, v7, v9, v10, ne⟩ := a.co
  exact ⟨_, vs, file, tf, flags, tg, inF, text, tt, X _ _ lc, rfl, rfl, v11, w11, v18, v7, v9, v10, ne⟩
theorem AtC.tab {K : PySem.W.Frag} {h : Heap} {x : Str} {st : Stmt} {f c Pt : Addr} (a : AtC K x st f c Pt) (o : LamX.OwnTab K f h) : h.get? Pt = some { cls := .none, data := .fields #[] } := by
  obtain ⟨oc, od, kV, doc, pm, an, ct, osl, l, cc⟩ := a.ex
  obtain ⟨dd, vs, sl, file, tf, flags, tg, inF, text, tt, lc, v11, w11, v18, v7, v9, v10, ne⟩ := a.co
  exact o c Pt _ _ _ _ _ _ l rfl rfl lc v11
section
variable {P : Program} {w : World} {K : PySem.W.Frag} {mg : Str → Option Value} {base : Heap}
theorem Df.of {x : Str} {st : Stmt} {f : Addr} {fd : FuncData} {k : Nat} {ps : List Str} {sp : Sp} (g : mg x = some (.ref f)) (F : Fun K x x st f fd) (G : FnOk P w K mg base CX0 k f fd ps sp)
    (h : ∀ (kV doc pm : Value) (an : Option Addr) (cdv ct : Value) (us : List Value), us.length = ps.length → bindArgs (PySem.W.fnOf x x (defArgs st) (defBody st) (defScope st) .none kV doc pm an cdv ct) ⟨us, []⟩ = pure (ps.zip us)) : Df P w K mg base k x ps sp :=
  ⟨f, fd, G, g, F.kp, F.binds h⟩
end
/-! ### what the top has written -/
section
variable {P : Program} {w : World} {K : PySem.W.Frag} {mg : Str → Option Value} {base : Heap}
set_option maxHeartbeats 0 in
theorem law_at {l : PySem.W.OpenLaw} {w : World} {K : PySem.W.Frag} {h : Heap} {mg : Str → Option Value} {fa f0 f1 f2 f3 f4 f5 f6 f7 f8 f9 f10 f11 f12 f13 f14 f15 f16 f17 f18 f19 f20 f21 f22 f23 f24 f25 f26 f27 f28 f29 f30 f31 f32 c3 P3 c4 P4 c6 P6 c11 P11 eW e_NoFrame : Addr} (X : K.In h) (G : h.Ns mainGlobals mg) (hfa : mg "law" = some (.ref fa))
    (t3 : ∀ (fy : Addr), mg "are_rising_below" = some (.ref fy) → LamX.OwnTab K fy h)
    (t4 : ∀ (fy : Addr), mg "are_unlike_below" = some (.ref fy) → LamX.OwnTab K fy h)
    (t6 : ∀ (fy : Addr), mg "ring_holds" = some (.ref fy) → LamX.OwnTab K fy h)
    (t11 : ∀ (fy : Addr), mg "are_framed" = some (.ref fy) → LamX.OwnTab K fy h)
    (a0 : At K "is_whole" s_is_whole f0)
    (a1 : At K "is_whole_below" s_is_whole_below f1)
    (a2 : At K "is_tuple_of" s_is_tuple_of f2)
    (a3 : AtC K "are_rising_below" s_are_rising_below f3 c3 P3)
    (a4 : AtC K "are_unlike_below" s_are_unlike_below f4 c4 P4)
    (a5 : At K "joins" s_joins f5)
    (a6 : AtC K "ring_holds" s_ring_holds f6 c6 P6)
    (a7 : At K "foes_in" s_foes_in f7)
    (a8 : At K "odd_ring_holds" s_odd_ring_holds f8)
    (a9 : At K "turned_tie" s_turned_tie f9)
    (a10 : At K "turned" s_turned f10)
    (a11 : AtC K "are_framed" s_are_framed f11 c11 P11)
    (a12 : At K "kinds_of" s_kinds_of f12)
    (a13 : At K "web_between" s_web_between f13)
    (a14 : At K "turning_holds" s_turning_holds f14)
    (a15 : At K "_law_well" s_l_well f15)
    (a16 : At K "_law_draw" s_l_draw f16)
    (a17 : At K "_law_web" s_l_web f17)
    (a18 : At K "_law_places" s_l_places f18)
    (a19 : At K "_law_about" s_l_about f19)
    (a20 : At K "_law_are_numbers" s_l_are_numbers f20)
    (a21 : At K "_law_is_ring" s_l_is_ring f21)
    (a22 : At K "_law_foes" s_l_foes f22)
    (a23 : At K "_law_other" s_l_other f23)
    (a24 : At K "_law_with_other_kinds" s_l_with_other_kinds f24)
    (a25 : At K "_law_choice" s_l_choice f25)
    (a26 : At K "_law_due" s_l_due f26)
    (a27 : At K "_law_walked" s_l_walked f27)
    (a28 : At K "_law_row_spoilt" s_l_row_spoilt f28)
    (a29 : At K "_law_spoilt" s_l_spoilt f29)
    (a30 : At K "_law_come" s_l_come f30)
    (a31 : At K "_law_goods" s_l_goods f31)
    (a32 : At K "law" s_law f32)
    (z0 : PySem.W.nsIn K mainGlobals "len" = some none)
    (z1 : PySem.W.nsIn K mainGlobals "int" = some none)
    (z2 : PySem.W.nsIn K mainGlobals "bool" = some none)
    (z3 : PySem.W.nsIn K mainGlobals "str" = some none)
    (z4 : PySem.W.nsIn K mainGlobals "list" = some none)
    (z5 : PySem.W.nsIn K mainGlobals "tuple" = some none)
    (z6 : PySem.W.nsIn K mainGlobals "range" = some none)
    (z7 : PySem.W.nsIn K mainGlobals "isinstance" = some none)
    (z8 : PySem.W.nsIn K mainGlobals "sum" = some none)
    (z9 : PySem.W.nsIn K mainGlobals "all" = some none)
    (z10 : PySem.W.nsIn K mainGlobals "enumerate" = some none)
    (z11 : PySem.W.nsIn K mainGlobals "max" = some none)
    (z12 : PySem.W.nsIn K mainGlobals "set" = some none)
    (z13 : PySem.W.nsIn K mainGlobals "sorted" = some none)
    (z14 : PySem.W.nsIn K mainGlobals "zip" = some none)
    (e0 : ErrK K "NoFrame" e_NoFrame eW)
    (k0_0 : KitK K e_NoFrame "NoFrame" e_NoFrame true)
    (v0 : PySem.W.kitOne K (.ref e_NoFrame) (.type "ValueError") = some true) :
    LamX.LawAtS l w K CX0 8 63 "_law_script" mg fa h := by
  have efa := hfa.symm.trans (PySem.W.mg_of X G a32.ns)
  cases efa
  have M : Free mg := ⟨PySem.W.mg_none_of X G z0, PySem.W.mg_none_of X G z1, PySem.W.mg_none_of X G z2, PySem.W.mg_none_of X G z3, PySem.W.mg_none_of X G z4, PySem.W.mg_none_of X G z5, PySem.W.mg_none_of X G z6, PySem.W.mg_none_of X G z7, PySem.W.mg_none_of X G z8⟩
  have m_all := PySem.W.mg_none_of X G z9
  have m_enumerate := PySem.W.mg_none_of X G z10
  have m_max := PySem.W.mg_none_of X G z11
  have m_set := PySem.W.mg_none_of X G z12
  have m_sorted := PySem.W.mg_none_of X G z13
  have m_zip := PySem.W.mg_none_of X G z14
  obtain ⟨d0, F0⟩ := a0.fn
  obtain ⟨d1, F1⟩ := a1.fn
  obtain ⟨d2, F2⟩ := a2.fn
  obtain ⟨d3, F3⟩ := a3.fn
  obtain ⟨d4, F4⟩ := a4.fn
  obtain ⟨d5, F5⟩ := a5.fn
  obtain ⟨d6, F6⟩ := a6.fn
  obtain ⟨d7, F7⟩ := a7.fn
  obtain ⟨d8, F8⟩ := a8.fn
  obtain ⟨d9, F9⟩ := a9.fn
  obtain ⟨d10, F10⟩ := a10.fn
  obtain ⟨d11, F11⟩ := a11.fn
  obtain ⟨d12, F12⟩ := a12.fn
  obtain ⟨d13, F13⟩ := a13.fn
  obtain ⟨d14, F14⟩ := a14.fn
  obtain ⟨d15, F15⟩ := a15.fn
  obtain ⟨d16, F16⟩ := a16.fn
  obtain ⟨d17, F17⟩ := a17.fn
  obtain ⟨d18, F18⟩ := a18.fn
  obtain ⟨d19, F19⟩ := a19.fn
  obtain ⟨d20, F20⟩ := a20.fn
  obtain ⟨d21, F21⟩ := a21.fn
  obtain ⟨d22, F22⟩ := a22.fn
  obtain ⟨d23, F23⟩ := a23.fn
  obtain ⟨d24, F24⟩ := a24.fn
  obtain ⟨d25, F25⟩ := a25.fn
  obtain ⟨d26, F26⟩ := a26.fn
  obtain ⟨d27, F27⟩ := a27.fn
  obtain ⟨d28, F28⟩ := a28.fn
  obtain ⟨d29, F29⟩ := a29.fn
  obtain ⟨d30, F30⟩ := a30.fn
  obtain ⟨d31, F31⟩ := a31.fn
  obtain ⟨d32, F32⟩ := a32.fn
  have g0 := PySem.W.mg_of X G a0.ns
  have g1 := PySem.W.mg_of X G a1.ns
  have g2 := PySem.W.mg_of X G a2.ns
  have g3 := PySem.W.mg_of X G a3.ns
  have g4 := PySem.W.mg_of X G a4.ns
  have g5 := PySem.W.mg_of X G a5.ns
  have g6 := PySem.W.mg_of X G a6.ns
  have g7 := PySem.W.mg_of X G a7.ns
  have g8 := PySem.W.mg_of X G a8.ns
  have g9 := PySem.W.mg_of X G a9.ns
  have g10 := PySem.W.mg_of X G a10.ns
  have g11 := PySem.W.mg_of X G a11.ns
  have g12 := PySem.W.mg_of X G a12.ns
  have g13 := PySem.W.mg_of X G a13.ns
  have g14 := PySem.W.mg_of X G a14.ns
  have g15 := PySem.W.mg_of X G a15.ns
  have g16 := PySem.W.mg_of X G a16.ns
  have g17 := PySem.W.mg_of X G a17.ns
  have g18 := PySem.W.mg_of X G a18.ns
  have g19 := PySem.W.mg_of X G a19.ns
  have g20 := PySem.W.mg_of X G a20.ns
  have g21 := PySem.W.mg_of X G a21.ns
  have g22 := PySem.W.mg_of X G a22.ns
  have g23 := PySem.W.mg_of X G a23.ns
  have g24 := PySem.W.mg_of X G a24.ns
  have g25 := PySem.W.mg_of X G a25.ns
  have g26 := PySem.W.mg_of X G a26.ns
  have g27 := PySem.W.mg_of X G a27.ns
  have g28 := PySem.W.mg_of X G a28.ns
  have g29 := PySem.W.mg_of X G a29.ns
  have g30 := PySem.W.mg_of X G a30.ns
  have g31 := PySem.W.mg_of X G a31.ns
  have hb0 : ∀ (s : Shared) (u : Value), BindsTo s d32 ⟨[u], []⟩ [("_law_script", u)] := by
    obtain ⟨oc, od, kV, doc, pm, an, cdv, ct, osl, rfl, _⟩ := F32.ex
    exact fun s u => .of_eq rfl
  refine ⟨d32, [(c3, P3), (c4, P4), (c6, P6), (c11, P11)], (spLaw K [P3, P4, P6, P11]), (List.forall_mem_cons.mpr ⟨a3.tab (t3 _ g3), (List.forall_mem_cons.mpr ⟨a4.tab (t4 _ g4), (List.forall_mem_cons.mpr ⟨a6.tab (t6 _ g6), (List.forall_mem_cons.mpr ⟨a11.tab (t11 _ g11), (fun p hp => by simp at hp)⟩)⟩)⟩)⟩), (List.forall_mem_cons.mpr ⟨a3.nP, (List.forall_mem_cons.mpr ⟨a4.nP, (List.forall_mem_cons.mpr ⟨a6.nP, (List.forall_mem_cons.mpr ⟨a11.nP, (fun p hp => by simp at hp)⟩)⟩)⟩)⟩), (List.forall_mem_cons.mpr ⟨a3.hd X, (List.forall_mem_cons.mpr ⟨a4.hd X, (List.forall_mem_cons.mpr ⟨a6.hd X, (List.forall_mem_cons.mpr ⟨a11.hd X, (fun p hp => by simp at hp)⟩)⟩)⟩)⟩), hb0, fun H a ns hl _ hT hS => ⟨a, ns, rfl, hS, hl, (List.forall_mem_cons.mpr ⟨⟨#[], hT (c3, P3) (by simp), by trivial⟩, (List.forall_mem_cons.mpr ⟨⟨#[], hT (c4, P4) (by simp), by trivial⟩, (List.forall_mem_cons.mpr ⟨⟨#[], hT (c6, P6) (by simp), by trivial⟩, (List.forall_mem_cons.mpr ⟨⟨#[], hT (c11, P11) (by simp), by trivial⟩, (fun p hp => by simp at hp)⟩)⟩)⟩)⟩), fun _ => rfl⟩, fun base KB GB TB => ?_⟩
  have tb3 := TB (c3, P3) (by simp)
  have tb4 := TB (c4, P4) (by simp)
  have tb6 := TB (c6, P6) (by simp)
  have tb11 := TB (c11, P11) (by simp)
  have D0 : Df l.prog w K mg base 1 "is_whole" ["thing"] spWhole := .of g0 F0 (ok_is_whole F0 M) fun _ _ _ _ _ _ us hl => match us, hl with | [_], _ => rfl
  have D1 : Df l.prog w K mg base 2 "is_whole_below" ["limit", "thing"] spBelow := .of g1 F1 (ok_is_whole_below F1 D0) fun _ _ _ _ _ _ us hl => match us, hl with | [_, _], _ => rfl
  have D2 : Df l.prog w K mg base 1 "is_tuple_of" ["length", "thing"] spTupleOf := .of g2 F2 (ok_is_tuple_of F2 M) fun _ _ _ _ _ _ us hl => match us, hl with | [_, _], _ => rfl
  have D3 : Df l.prog w K mg base 4 "are_rising_below" ["limit", "thing"] (spRising [P3, P4, P6, P11]) := .of g3 F3.fn (ok_are_rising_below F3 ⟨tb3.code, tb3.bm, tb3.gP⟩ (show P3 ∈ [P3, P4, P6, P11] by simp) M m_all m_zip D1) fun _ _ _ _ _ _ us hl => match us, hl with | [_, _], _ => rfl
  have D4 : Df l.prog w K mg base 4 "are_unlike_below" ["limit", "thing"] (spUnlike [P3, P4, P6, P11]) := .of g4 F4.fn (ok_are_unlike F4 ⟨tb4.code, tb4.bm, tb4.gP⟩ (show P4 ∈ [P3, P4, P6, P11] by simp) M m_all m_set D1) fun _ _ _ _ _ _ us hl => match us, hl with | [_, _], _ => rfl
  have D5 : Df l.prog w K mg base 1 "joins" ["tie", "one", "other"] spJoins := .of g5 F5 (ok_joins F5) fun _ _ _ _ _ _ us hl => match us, hl with | [_, _, _], _ => rfl
  have D6 : Df l.prog w K mg base 5 "ring_holds" ["web", "thing"] (spRing [P3, P4, P6, P11]) := .of g6 F6.fn (ok_ring_holds F6 ⟨tb6.code, tb6.bm, tb6.gP⟩ (show P6 ∈ [P3, P4, P6, P11] by simp) M m_all m_zip D2 D4 D5) fun _ _ _ _ _ _ us hl => match us, hl with | [_, _], _ => rfl
  have D7 : Df l.prog w K mg base 1 "foes_in" ["web", "ring"] spFoes := .of g7 F7 (ok_foes_in F7 M) fun _ _ _ _ _ _ us hl => match us, hl with | [_, _], _ => rfl
  have D8 : Df l.prog w K mg base 6 "odd_ring_holds" ["web", "thing"] (spOdd [P3, P4, P6, P11]) := .of g8 F8 (ok_odd_ring F8 D6 D7) fun _ _ _ _ _ _ us hl => match us, hl with | [_, _], _ => rfl
  have D9 : Df l.prog w K mg base 1 "turned_tie" ["tie", "among"] spTurnedTie := .of g9 F9 (ok_turned_tie F9) fun _ _ _ _ _ _ us hl => match us, hl with | [_, _], _ => rfl
  have D10 : Df l.prog w K mg base 2 "turned" ["web", "places"] (spTurned K) := .of g10 F10 (ok_turned F10 M D9) fun _ _ _ _ _ _ us hl => match us, hl with | [_, _], _ => rfl
  have D11 : Df l.prog w K mg base 3 "are_framed" ["one", "other"] (spFramed [P3, P4, P6, P11]) := .of g11 F11.fn (ok_are_framed F11 ⟨tb11.code, tb11.bm, tb11.gP⟩ (show P11 ∈ [P3, P4, P6, P11] by simp) M m_all m_zip D5) fun _ _ _ _ _ _ us hl => match us, hl with | [_, _], _ => rfl
  have D12 : Df l.prog w K mg base 1 "kinds_of" ["web"] spKinds := .of g12 F12 (ok_kinds_of F12) fun _ _ _ _ _ _ us hl => match us, hl with | [_], _ => rfl
  have D13 : DfX l.prog w K mg base 4 "web_between" ["one", "other"] (spBetw [P3, P4, P6, P11] e_NoFrame) := .of g13 F13 (ok_web_between F13 M m_zip (e0.ref X G) D11 D12) fun _ _ _ _ _ _ us hl => match us, hl with | [_, _], _ => rfl
  have D14 : DfX l.prog w K mg base 7 "turning_holds" ["one", "other", "thing"] (spJudge [P3, P4, P6, P11] e_NoFrame) := .of g14 F14 (ok_turning_holds (e0.ref X G) F14 D13 D2 D10 D12 D3 D8) fun _ _ _ _ _ _ us hl => match us, hl with | [_, _, _], _ => rfl
  have D15 : Df l.prog w K mg base 1 "_law_well" ["_law_script", "_law_k"] (spWell K) := .of g15 F15 (ok_l_well F15 M) fun _ _ _ _ _ _ us hl => match us, hl with | [_, _], _ => rfl
  have D16 : Df l.prog w K mg base 1 "_law_draw" ["_law_well_here", "_law_most"] spDraw := .of g16 F16 (ok_l_draw F16) fun _ _ _ _ _ _ us hl => match us, hl with | [_, _], _ => rfl
  have D17 : Df l.prog w K mg base 2 "_law_web" ["_law_well_here"] spWeb := .of g17 F17 (ok_l_web F17 M D16) fun _ _ _ _ _ _ us hl => match us, hl with | [_], _ => rfl
  have D18 : Df l.prog w K mg base 2 "_law_places" ["_law_well_here", "_law_many"] spPlaces := .of g18 F18 (ok_l_places F18 M D16) fun _ _ _ _ _ _ us hl => match us, hl with | [_, _], _ => rfl
  have D19 : Df l.prog w K mg base 1 "_law_about" ["_law_web_here", "_law_places_here"] spAbout := .of g19 F19 (ok_l_about F19 M) fun _ _ _ _ _ _ us hl => match us, hl with | [_, _], _ => rfl
  have D20 : Df l.prog w K mg base 1 "_law_are_numbers" ["_law_thing", "_law_many"] spNums27 := .of g20 F20 (ok_l_are_numbers F20 M) fun _ _ _ _ _ _ us hl => match us, hl with | [_, _], _ => rfl
  have D21 : Df l.prog w K mg base 2 "_law_is_ring" ["_law_web_here", "_law_thing"] spIsRing27 := .of g21 F21 (ok_l_is_ring F21 M D20) fun _ _ _ _ _ _ us hl => match us, hl with | [_, _], _ => rfl
  have D22 : Df l.prog w K mg base 1 "_law_foes" ["_law_web_here", "_law_ring"] spFoes := .of g22 F22 (ok_l_foes F22 M) fun _ _ _ _ _ _ us hl => match us, hl with | [_, _], _ => rfl
  have D23 : Df l.prog w K mg base 2 "_law_other" ["_law_well_here", "_law_web_here", "_law_some"] spOther26 := .of g23 F23 (ok_l_other F23 M D19 D16) fun _ _ _ _ _ _ us hl => match us, hl with | [_, _, _], _ => rfl
  have D24 : Df l.prog w K mg base 2 "_law_with_other_kinds" ["_law_well_here", "_law_web_here"] spWith26 := .of g24 F24 (ok_l_with_other_kinds F24 M D16) fun _ _ _ _ _ _ us hl => match us, hl with | [_, _], _ => rfl
  have D25 : Df l.prog w K mg base 1 "_law_choice" ["_law_one", "_law_other_here"] spChoice := .of g25 F25 (ok_l_choice F25 M m_zip) fun _ _ _ _ _ _ us hl => match us, hl with | [_, _], _ => rfl
  have D26 : Df l.prog w K mg base 3 "_law_due" ["_law_one", "_law_other_here", "_law_thing"] spDue27 := .of g26 F26 (ok_l_due F26 M m_set m_sorted D20 D19 D21 D22) fun _ _ _ _ _ _ us hl => match us, hl with | [_, _, _], _ => rfl
  have D27 : Df l.prog w K mg base 2 "_law_walked" ["_law_well_here", "_law_web_here"] spWalked := .of g27 F27 (ok_l_walked F27 M m_enumerate D16) fun _ _ _ _ _ _ us hl => match us, hl with | [_, _], _ => rfl
  have D28 : Df l.prog w K mg base 2 "_law_row_spoilt" ["_law_well_here", "_law_row", "_law_most"] spRowSp := .of g28 F28 (ok_l_row_spoilt F28 M D16) fun _ _ _ _ _ _ us hl => match us, hl with | [_, _, _], _ => rfl
  have D29 : Df l.prog w K mg base 3 "_law_spoilt" ["_law_well_here", "_law_web_here", "_law_thing"] spSpoilt27 := .of g29 F29 (ok_l_spoilt F29 M D16 D28) fun _ _ _ _ _ _ us hl => match us, hl with | [_, _, _], _ => rfl
  have D30 : Df l.prog w K mg base 1 "_law_come" ["_law_web_here", "_law_start"] spCome27 := .of g30 F30 (ok_l_come F30 M) fun _ _ _ _ _ _ us hl => match us, hl with | [_, _], _ => rfl
  have D31 : Df l.prog w K mg base 3 "_law_goods" ["_law_well_here", "_law_web_here", "_law_some"] spGoods := .of g31 F31 (ok_l_goods F31 M m_max D19 D25 D16 D30 D27) fun _ _ _ _ _ _ us hl => match us, hl with | [_, _, _], _ => rfl
  exact ok_law F32 M D15 D17 D18 D23 D16 D24 D31 D29 D14 D26
end
end FF
open PySem PySem.W PyProof.Rows
set_option maxRecDepth 100000 in
set_option maxHeartbeats 0 in
theorem PySem.Challenge.cw_friendfoe_k27_turnings_judged_holds : PySem.Challenge.rw_friendfoe_k27_turnings_judged.Holds := by
  w_on; o_law; k_head; (case hw => w_witness2)
  k_fill
  refine FF.walk_tabs (l := PySem.Challenge.rw_friendfoe_k27_turnings_judged) (n := 63) (k := 8) (x := "_law_script") rfl (by decide) rfl ⟨rfl, by decide, by decide⟩ (fun w h Y => PySem.W.kIn_of Y) ?F
  case F =>
    intro w mg fa h KX G hmg tabs
    refine' FF.law_at KX G hmg (fun fy => tabs "are_rising_below" fy ?r3) (fun fy => tabs "are_unlike_below" fy ?r4) (fun fy => tabs "ring_holds" fy ?r6) (fun fy => tabs "are_framed" fy ?r11) ?a0 ?a1 ?a2 ?a3 ?a4 ?a5 ?a6 ?a7 ?a8 ?a9 ?a10 ?a11 ?a12 ?a13 ?a14 ?a15 ?a16 ?a17 ?a18 ?a19 ?a20 ?a21 ?a22 ?a23 ?a24 ?a25 ?a26 ?a27 ?a28 ?a29 ?a30 ?a31 ?a32 ?z0 ?z1 ?z2 ?z3 ?z4 ?z5 ?z6 ?z7 ?z8 ?z9 ?z10 ?z11 ?z12 ?z13 ?z14 ?e0 ?k0_0 ?v0
    (case r3 => rfl)
    (case r4 => rfl)
    (case r6 => rfl)
    (case r11 => rfl)
    (case a0 => refine' FF.at_mk ?p1 ?p2 ?p3 ?p4; (case p1 => k_is); (case p2 => k_is); (case p3 => k_is); (case p4 => k_is))
    (case a1 => refine' FF.at_mk ?p1 ?p2 ?p3 ?p4; (case p1 => k_is); (case p2 => k_is); (case p3 => k_is); (case p4 => k_is))
    (case a2 => refine' FF.at_mk ?p1 ?p2 ?p3 ?p4; (case p1 => k_is); (case p2 => k_is); (case p3 => k_is); (case p4 => k_is))
    (case a3 => refine' FF.atC_mk ?p1 ?p2 ?p3 ?p4 ?p5 ?p6 ?p7 ?p8 ?p9 ?p10 ?p11 ?p12 ?p13; (case p1 => k_is); (case p2 => k_is); (case p3 => k_is); (case p4 => k_is); (case p5 => k_is); (case p6 => rfl); (case p7 => rfl); (case p8 => rfl); (case p9 => rfl); (case p10 => rfl); (case p11 => rfl); (case p12 => decide); (case p13 => rfl))
    (case a4 => refine' FF.atC_mk ?p1 ?p2 ?p3 ?p4 ?p5 ?p6 ?p7 ?p8 ?p9 ?p10 ?p11 ?p12 ?p13; (case p1 => k_is); (case p2 => k_is); (case p3 => k_is); (case p4 => k_is); (case p5 => k_is); (case p6 => rfl); (case p7 => rfl); (case p8 => rfl); (case p9 => rfl); (case p10 => rfl); (case p11 => rfl); (case p12 => decide); (case p13 => rfl))
    (case a5 => refine' FF.at_mk ?p1 ?p2 ?p3 ?p4; (case p1 => k_is); (case p2 => k_is); (case p3 => k_is); (case p4 => k_is))
    (case a6 => refine' FF.atC_mk ?p1 ?p2 ?p3 ?p4 ?p5 ?p6 ?p7 ?p8 ?p9 ?p10 ?p11 ?p12 ?p13; (case p1 => k_is); (case p2 => k_is); (case p3 => k_is); (case p4 => k_is); (case p5 => k_is); (case p6 => rfl); (case p7 => rfl); (case p8 => rfl); (case p9 => rfl); (case p10 => rfl); (case p11 => rfl); (case p12 => decide); (case p13 => rfl))
    (case a7 => refine' FF.at_mk ?p1 ?p2 ?p3 ?p4; (case p1 => k_is); (case p2 => k_is); (case p3 => k_is); (case p4 => k_is))
    (case a8 => refine' FF.at_mk ?p1 ?p2 ?p3 ?p4; (case p1 => k_is); (case p2 => k_is); (case p3 => k_is); (case p4 => k_is))
    (case a9 => refine' FF.at_mk ?p1 ?p2 ?p3 ?p4; (case p1 => k_is); (case p2 => k_is); (case p3 => k_is); (case p4 => k_is))
    (case a10 => refine' FF.at_mk ?p1 ?p2 ?p3 ?p4; (case p1 => k_is); (case p2 => k_is); (case p3 => k_is); (case p4 => k_is))
    (case a11 => refine' FF.atC_mk ?p1 ?p2 ?p3 ?p4 ?p5 ?p6 ?p7 ?p8 ?p9 ?p10 ?p11 ?p12 ?p13; (case p1 => k_is); (case p2 => k_is); (case p3 => k_is); (case p4 => k_is); (case p5 => k_is); (case p6 => rfl); (case p7 => rfl); (case p8 => rfl); (case p9 => rfl); (case p10 => rfl); (case p11 => rfl); (case p12 => decide); (case p13 => rfl))
    (case a12 => refine' FF.at_mk ?p1 ?p2 ?p3 ?p4; (case p1 => k_is); (case p2 => k_is); (case p3 => k_is); (case p4 => k_is))
    (case a13 => refine' FF.at_mk ?p1 ?p2 ?p3 ?p4; (case p1 => k_is); (case p2 => k_is); (case p3 => k_is); (case p4 => k_is))
    (case a14 => refine' FF.at_mk ?p1 ?p2 ?p3 ?p4; (case p1 => k_is); (case p2 => k_is); (case p3 => k_is); (case p4 => k_is))
    (case a15 => refine' FF.at_mk ?p1 ?p2 ?p3 ?p4; (case p1 => k_is); (case p2 => k_is); (case p3 => k_is); (case p4 => k_is))
    (case a16 => refine' FF.at_mk ?p1 ?p2 ?p3 ?p4; (case p1 => k_is); (case p2 => k_is); (case p3 => k_is); (case p4 => k_is))
    (case a17 => refine' FF.at_mk ?p1 ?p2 ?p3 ?p4; (case p1 => k_is); (case p2 => k_is); (case p3 => k_is); (case p4 => k_is))
    (case a18 => refine' FF.at_mk ?p1 ?p2 ?p3 ?p4; (case p1 => k_is); (case p2 => k_is); (case p3 => k_is); (case p4 => k_is))
    (case a19 => refine' FF.at_mk ?p1 ?p2 ?p3 ?p4; (case p1 => k_is); (case p2 => k_is); (case p3 => k_is); (case p4 => k_is))
    (case a20 => refine' FF.at_mk ?p1 ?p2 ?p3 ?p4; (case p1 => k_is); (case p2 => k_is); (case p3 => k_is); (case p4 => k_is))
    (case a21 => refine' FF.at_mk ?p1 ?p2 ?p3 ?p4; (case p1 => k_is); (case p2 => k_is); (case p3 => k_is); (case p4 => k_is))
    (case a22 => refine' FF.at_mk ?p1 ?p2 ?p3 ?p4; (case p1 => k_is); (case p2 => k_is); (case p3 => k_is); (case p4 => k_is))
    (case a23 => refine' FF.at_mk ?p1 ?p2 ?p3 ?p4; (case p1 => k_is); (case p2 => k_is); (case p3 => k_is); (case p4 => k_is))
    (case a24 => refine' FF.at_mk ?p1 ?p2 ?p3 ?p4; (case p1 => k_is); (case p2 => k_is); (case p3 => k_is); (case p4 => k_is))
    (case a25 => refine' FF.at_mk ?p1 ?p2 ?p3 ?p4; (case p1 => k_is); (case p2 => k_is); (case p3 => k_is); (case p4 => k_is))
    (case a26 => refine' FF.at_mk ?p1 ?p2 ?p3 ?p4; (case p1 => k_is); (case p2 => k_is); (case p3 => k_is); (case p4 => k_is))
    (case a27 => refine' FF.at_mk ?p1 ?p2 ?p3 ?p4; (case p1 => k_is); (case p2 => k_is); (case p3 => k_is); (case p4 => k_is))
    (case a28 => refine' FF.at_mk ?p1 ?p2 ?p3 ?p4; (case p1 => k_is); (case p2 => k_is); (case p3 => k_is); (case p4 => k_is))
    (case a29 => refine' FF.at_mk ?p1 ?p2 ?p3 ?p4; (case p1 => k_is); (case p2 => k_is); (case p3 => k_is); (case p4 => k_is))
    (case a30 => refine' FF.at_mk ?p1 ?p2 ?p3 ?p4; (case p1 => k_is); (case p2 => k_is); (case p3 => k_is); (case p4 => k_is))
    (case a31 => refine' FF.at_mk ?p1 ?p2 ?p3 ?p4; (case p1 => k_is); (case p2 => k_is); (case p3 => k_is); (case p4 => k_is))
    (case a32 => refine' FF.at_mk ?p1 ?p2 ?p3 ?p4; (case p1 => k_is); (case p2 => k_is); (case p3 => k_is); (case p4 => k_is))
    (case z0 => k_is)
    (case z1 => k_is)
    (case z2 => k_is)
    (case z3 => k_is)
    (case z4 => k_is)
    (case z5 => k_is)
    (case z6 => k_is)
    (case z7 => k_is)
    (case z8 => k_is)
    (case z9 => k_is)
    (case z10 => k_is)
    (case z11 => k_is)
    (case z12 => k_is)
    (case z13 => k_is)
    (case z14 => k_is)
    (case e0 => refine' FF.errK_mk ?q1 ?q2 ?q3 ?q4 ?q5 ?q6 ?q7 ?q8 ?q9 ?q10 ?q11 ?q12 ?q13 ?q14 ?q15 ?q16 ?q17; (case q1 => first | k_is | rfl | kernel_rfl); (case q2 => first | k_is | rfl | kernel_rfl); (case q3 => first | k_is | rfl | kernel_rfl); (case q4 => first | k_is | rfl | kernel_rfl); (case q5 => first | k_is | rfl | kernel_rfl); (case q6 => first | k_is | rfl | kernel_rfl); (case q7 => first | k_is | rfl | kernel_rfl); (case q8 => first | k_is | rfl | kernel_rfl); (case q9 => first | k_is | rfl | kernel_rfl); (case q10 => first | k_is | rfl | kernel_rfl); (case q11 => first | k_is | rfl | kernel_rfl); (case q12 => first | k_is | rfl | kernel_rfl); (case q13 => first | k_is | rfl | kernel_rfl); (case q14 => first | k_is | rfl | kernel_rfl); (case q15 => first | k_is | rfl | kernel_rfl); (case q16 => first | k_is | rfl | kernel_rfl); (case q17 => first | k_is | rfl | kernel_rfl))
    (case k0_0 => refine' FF.kitK_mk ?q1 ?q2; (case q1 => k_is); (case q2 => first | k_is | rfl | kernel_rfl))
    (case v0 => first | k_is | rfl | kernel_rfl)
