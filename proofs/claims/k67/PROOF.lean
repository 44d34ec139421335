import PyProof.Rows.All
import Wide.All
import OpenK.AllK
import Wide.FinOn
import HandS.ForMost
import HandS.IsInst
import HandS.TupAny
import HandS.TupLe
import HandS.Wide
import HandS.Style
import HandS.SortInts
import HandS.Conv
import HandS.More
import HandS.EndTab
import HandS.EndOwn
import HandS.AnyAll
import HandS.GenOver
import HandS.Evl
import HandS.SetBool
import HandS.Walk
import HandS.NoneIn
import HandS.SetFor
import KE.GoesEnum
import HandS.Zip
import HandS.DictComp
import HandS.TupMul
import HandS.Strs
import KE.DataMinMax
import HandS.ForExc
import HandS.ExcIs
import HandS.SetKeys
import KE.DatumOrd
import HandS.Deep
import HandS.Remove
import HandS.SortRule
import KE.KDictCopyH
import KE.KDictSum
import HandS.Defaults
import HandS.Star
import PySem.Challenge.RW_friendfoe_k67_papers_that_none_do
set_option Elab.async false
set_option linter.all false
set_option maxRecDepth 100000
namespace FF
open PySem PySem.Spec PyProof.Rows L2
/-! ### heaps: what is kept -/
/-- all that is tracked, but at d and c, is as it was -/
def Kp (d c : Addr) (H H' : Hp) : Prop := ∀ b o, b ≠ d → b ≠ c → H b = some o → H' b = some o
theorem Kp.refl {d c : Addr} {H : Hp} : Kp d c H H := fun _ _ _ _ h => h
theorem Kp.trans {d c : Addr} {H H1 H2 : Hp} (a : Kp d c H H1) (b : Kp d c H1 H2) : Kp d c H H2 := fun x o h1 h2 h => b x o h1 h2 (a x o h1 h2 h)
theorem Kp.at_d {d c : Addr} {H : Hp} {o : HO} : Kp d c H (upd H d o) := fun b u h1 _ h => by rw [upd_ne h1]; exact h
theorem Kp.at_c {d c : Addr} {H : Hp} {o : HO} : Kp d c H (upd H c o) := fun b u _ h2 h => by rw [upd_ne h2]; exact h
theorem Kp.new {d c p : Addr} {H : Hp} {o : HO} (hp : H p = none) : Kp d c H (upd H p o) := fun b u _ _ h => by rw [upd_ne (ne_of_none h hp)]; exact h
theorem same_new {H : Hp} {p : Addr} {o : HO} (h : H p = none) : Same H (upd H p o) := fun b x e => by
  rw [upd_ne (ne_of_none e h)]
  exact e
theorem Same.kp {d c : Addr} {H H' : Hp} (s : Same H H') : Kp d c H H' := fun b o _ _ h => s b o h
/-! ### defs as they are called -/
def Df (P : Program) (w : World) (K : PySem.W.Frag) (mg : Str → Option Value) (base : Heap) (k : Nat) (x : Str) (ps : List Str) (sp : Sp) : Prop :=
  ∃ (f : Addr) (fd : FuncData), FnOk P w K mg base CX0 k f fd ps sp ∧ mg x = some (.ref f) ∧ PySem.W.keepIn K (.ref f) = true ∧ Binds K fd ps []
/-- built-in names that the module has not taken -/
structure Free (mg : Str → Option Value) : Prop where
  len : mg "len" = none
  int : mg "int" = none
  bool : mg "bool" = none
  str : mg "str" = none
  list : mg "list" = none
  tuple : mg "tuple" = none
  range : mg "range" = none
  isinstance : mg "isinstance" = none
  sum : mg "sum" = none
/-! ### the deck -/
structure Deck (H : Hp) (d c : Addr) : Prop where
  ex : ∃ (cells : List Int) (st n : Int), H d = some (.lst [.ref c, .int st]) ∧ H c = some (.lst (cells.map V.int)) ∧ cells.length ≤ 63
theorem Deck.ne {H : Hp} {d c : Addr} (h : Deck H d c) : d ≠ c := by
  obtain ⟨cells, st, n, h1, h2, _⟩ := h
  intro e
  rw [e, h2] at h1
  have q := HO.lst.inj (Option.some.inj h1)
  cases cells with
  | nil => simp at q
  | cons x r => simp at q
theorem Deck.same {H H' : Hp} {d c : Addr} (h : Deck H d c) (s : Same H H') : Deck H' d c := by
  obtain ⟨cells, st, n, h1, h2, h3⟩ := h
  exact ⟨cells, st, n, s _ _ h1, s _ _ h2, h3⟩
theorem mod_rng {a m : Int} (h : 0 < m) : 0 ≤ a % m ∧ a % m < m := ⟨Int.emod_nonneg a (by omega), Int.emod_lt_of_pos a h⟩
/-- a draw below m: any number from 0 on, less than m -/
def spDraw : Sp := fun vs H Q _ => ∃ (d c : Addr) (m : Int), vs = [.ref d, .int m] ∧ Deck H d c ∧ 0 < m ∧ m.natAbs < 2 ^ 120 ∧
  ∀ v H', 0 ≤ v → v < m → Deck H' d c → Kp d c H H' → Q (.int v) H'
/-! ### a generator expression's own frame -/
/-- the context of a generator's turns: its frame cenv stands over the def's -/
abbrev gX (X : Cx) (s : Shared) (H : Hp) (A' : Around) (cenv : Env) (fp : List Addr) : Cx :=
  { X with A := A', s_0 := s, H_0 := H, env := cenv, outer := X.stack, stack := cenv :: X.stack, ex := fp, fn := fun _ => false, pn := [], xe := fun _ _ => False }
/-- what is asked of the expression's own scope -/
structure GnOk (scope : Scope) : Prop where
  co : scope.isCoroutine = false
  nocell : ∀ y ∈ scope.names, y.2 ≠ .cell
  dot : scope.names.lookup (".0" : Str) = some NameKind.local
section
variable {X : Cx} {pins : List (Addr × Obj)} {σ : L2.St} {H : Hp} {s : Shared}
theorem gen_start {scope : Scope} {own : List (Str × Nat)} {fp : List Addr} {A' : Around} {code : Value} {m0 : Str → Option Value} {h5 : Heap} {g5 : Array GenState} {t5 : Nat} {a : Addr} {go : Obj}
    (I : Inv X pins σ H s) (ok : BlkOk X.N X.env.scope scope own) (gk : GnOk scope) (hN : X.N.Nodup) (hfp : ∀ b ∈ fp, FpOk X pins H b ∧ b < s.heap.objs.size)
    (hA : A'.handled = none) (hF : A'.frames = some (genEnv scope (cloFrom X.env.cells scope.names []) s.heap.objs.size code builtinsNs X.env :: X.stack))
    (kp : ∀ b o, s.heap.get? b = some o → h5.get? b = some o) (hn : h5.Ns s.heap.objs.size m0) (hm0 : ∀ x, x ≠ (".0" : Str) → m0 x = none) (hdN : (".0" : Str) ∉ X.N) (hb5 : AllBare g5)
    (ha : s.heap.objs.size < a) (hgo : h5.get? a = some go) (hgd : ∀ v, go.data ≠ .cell v) :
    Inv (gX X s H A' (genEnv scope (cloFrom X.env.cells scope.names []) s.heap.objs.size code builtinsNs X.env) fp) [(a, go)] (wipe σ (own.map (·.2))) H { s with heap := h5, gens := g5, toks := t5 } := by
  have hfree : ∀ y ∈ scope.names, y.2 = .free → ∃ c, X.env.cells.lookup y.1 = some c := fun y hy e =>
    (ok.free y hy e).elim (fun k => I.ok.has _ (.inl k)) fun k => I.ok.has _ (.inr k)
  have cm : ∀ {y c}, (y, c) ∈ cloFrom X.env.cells scope.names [] → X.env.cells.lookup y = some c ∧ c < s.heap.objs.size := fun {y c} q => by
    rcases cloFrom_mem q with q | ⟨h1, e1⟩
    · cases q
    · obtain ⟨c1, hc1⟩ := hfree _ h1 rfl
      rw [hc1] at e1
      cases e1
      obtain ⟨w1, z1⟩ := I.cell _ _ hc1
      exact ⟨hc1, z1.lt⟩
  have cl : ∀ {y c}, (cloFrom X.env.cells scope.names []).lookup y = some c → X.env.cells.lookup y = some c ∧ c < s.heap.objs.size := fun {y c} e => cm (PySem.mem_of_lookup e)
  have look : ∀ {y}, scope.names.lookup y = some .free → ∃ c, (cloFrom X.env.cells scope.names []).lookup y = some c := fun {y} e =>
    mem_lookup (cloFrom_has (cells := X.env.cells) (acc := []) (PySem.mem_of_lookup e))
  generalize hce : genEnv scope (cloFrom X.env.cells scope.names []) s.heap.objs.size code builtinsNs X.env = ce at hF
  have cL : ce.locals = s.heap.objs.size := by rw [← hce]; rfl
  have cC : ce.cells = cloFrom X.env.cells scope.names [] := by rw [← hce]; rfl
  have cS : ce.scope = scope := by rw [← hce]; rfl
  have cF : ce.frame = some ce.locals := by rw [← hce]; rfl
  have okG : (gX X s H A' ce fp).Ok := by
    refine ⟨I.ok.mod, ?_, ?_, ?_, ?_, fun y z c e1 e2 => ?_, fun y hy => ?_, fun y c z e => ?_, fun _ => hA, hF, .inr ⟨rfl, cF⟩, fun b hb => ⟨?_, fun y c e z => ?_⟩, I.bs, Nat.le_trans I.ok.bsz I.sz, fun b o e hb => ?_, fun b hb z => ?_, I.stack, I.stkFree⟩
    · show ce.scope.kind = _
      rw [cS]
      exact ok.kind
    · show ce.globals = _
      rw [← hce]
      exact I.ok.glob
    · show ce.builtins = _
      rw [← hce]
      rfl
    · show s.heap.objs.size ≤ ce.locals
      rw [cL]
      exact Nat.le_refl _
    · have e1 : ce.cells.lookup y = some c := e1
      have e2 : ce.cells.lookup z = some c := e2
      rw [cC] at e1 e2
      exact I.ok.inj y z c (cl e1).1 (cl e2).1
    · show ∃ c, ce.cells.lookup y = some c
      rw [cC]
      have hy : scope.names.lookup y = some .cell ∨ scope.names.lookup y = some .free := by
        have hy' : ce.scope.names.lookup y = some .cell ∨ ce.scope.names.lookup y = some .free := hy
        rw [cS] at hy'
        exact hy'
      rcases hy with k | k
      · exact absurd rfl (gk.nocell _ (PySem.mem_of_lookup k))
      · exact look k
    · exact absurd (show false = true from z) Bool.false_ne_true
    · show b ≠ ce.locals
      rw [cL]
      exact Nat.ne_of_lt (hfp b hb).2
    · have e : ce.cells.lookup y = some c := e
      rw [cC] at e
      exact (hfp b hb).1.2.2.2.2.1 y c (cl e).1 z
    · rcases (hfp b hb).1.2.2.2.1 with q | q
      · exact I.ok.noex b o e q
      · exact absurd (Nat.lt_of_lt_of_le (Heap.lt_size e) (Nat.le_trans I.ok.bsz q)) (Nat.lt_irrefl _)
    · rcases List.mem_cons.mp (I.stkSub b z) with q | q
      · exact (hfp b hb).1.2.1 q
      · exact (hfp b hb).1.2.2.1 q
  refine ⟨okG, rfl, hb5, Un.kept kp, ⟨m0, ?_, fun i y av e1 e2 e3 => ?_⟩, fun y c e => ?_, ?_, fun y c e => ?_, fun p hp => ?_, I.hok.kept kp, by rw [wipe_length]; exact I.len⟩
  · show Heap.Ns _ ce.locals _
    rw [cL]
    exact hn
  · obtain ⟨e2, hne⟩ := wipe_some e2
    have e3 : Vis ce.scope y := e3
    rw [cS] at e3
    have hfr : scope.names.lookup y = some .free := by
      have no : ∀ k, scope.names.lookup y = some k → ¬ (k = .local ∨ k = .cell) := fun k hk hh => by
        rcases ok.own _ (PySem.mem_of_lookup hk) hh with q | q
        · obtain ⟨p, hp, hpy⟩ := List.mem_map.mp q
          have e4 := ok.ix p hp
          have hpy : p.1 = y := hpy
          rw [hpy] at e4
          exact hne (List.mem_map.mpr ⟨p, hp, nodup_ix hN e4 e1⟩)
        · exact q (List.mem_of_getElem? e1)
      rcases e3 with e3 | e3 | e3
      · exact absurd (.inl rfl) (no _ e3)
      · exact absurd (.inr rfl) (no _ e3)
      · exact e3
    obtain ⟨m, _, hl⟩ := I.loc
    have hvis : Vis X.env.scope y := (ok.free _ (PySem.mem_of_lookup hfr) rfl).elim (fun k => .inr (.inl k)) fun k => .inr (.inr k)
    obtain ⟨w1, r1, q1⟩ := hl i y av e1 e2 hvis
    obtain ⟨c, hc⟩ := look hfr
    refine ⟨w1, r1, .inr ⟨.inr (by show ce.scope.names.lookup y = _; rw [cS]; exact hfr), c, by show ce.cells.lookup y = _; rw [cC]; exact hc, ?_⟩⟩
    rcases q1 with ⟨k, _⟩ | ⟨_, c', e', z⟩
    · have k : X.env.scope.names.lookup y = some .local := k
      rcases ok.free _ (PySem.mem_of_lookup hfr) rfl with k' | k' <;> (have k' : X.env.scope.names.lookup y = _ := k'; rw [k'] at k; cases k)
    · rw [(cl hc).1] at e'
      cases e'
      exact z.keeps kp
  · have e : ce.cells.lookup y = some c := e
    rw [cC] at e
    obtain ⟨w1, z1⟩ := I.cell y c (cl e).1
    exact ⟨w1, z1.keeps kp⟩
  · show H ce.locals = none
    rw [cL]
    exact I.hok.fresh (Nat.le_refl _)
  · have e : ce.cells.lookup y = some c := e
    rw [cC] at e
    exact I.freeC y c (cl e).1
  · have hp : p = (a, go) := by simpa using hp
    subst hp
    refine ⟨hgo, I.hok.fresh (Nat.le_of_lt ha), ?_, fun z => ?_, hgd⟩
    · show a ≠ ce.locals
      rw [cL]
      exact Nat.ne_of_gt ha
    · have z : a ∈ frs X.stack := z
      obtain ⟨_, o, ho, _⟩ := I.stack.mem z
      exact absurd (Nat.lt_trans (Heap.lt_size ho) ha) (Nat.lt_irrefl _)
end
/-! ### all(..), any(..) of a generator, told by what each turn does -/
/-- between a yield and the next turn -/
structure Rs (s s' : Shared) : Prop where
  heap : s'.heap = s.heap
  os : s'.os = s.os
  bare : AllBare s'.gens
  size : s.gens.size ≤ s'.gens.size
theorem inv_gens {X : Cx} {pins : List (Addr × Obj)} {σ : L2.St} {H : Hp} {s s' : Shared} (I : Inv X pins σ H s) (h1 : s'.heap = s.heap) (h2 : s'.os = s.os) (h3 : AllBare s'.gens) : Inv X pins σ H s' := by
  obtain ⟨hh, g, d, t, o⟩ := s'
  have e1 : hh = s.heap := h1
  have e2 : o = s.os := h2
  subst e1 e2
  exact ⟨I.ok, I.os, h3, I.base, I.loc, I.cell, I.free, I.freeC, I.pin, I.hok, I.len⟩
theorem Rs.inv {X : Cx} {pins : List (Addr × Obj)} {σ : L2.St} {H : Hp} {s s' : Shared} (r : Rs s s') (I : Inv X pins σ H s) : Inv X pins σ H s' := by
  obtain ⟨h1, h2, h3, _⟩ := r
  obtain ⟨hh, g, d, t, o⟩ := s'
  have e1 : hh = s.heap := h1
  have e2 : o = s.os := h2
  subst e1 e2
  exact ⟨I.ok, I.os, h3, I.base, I.loc, I.cell, I.free, I.freeC, I.pin, I.hok, I.len⟩
theorem bare_set {gens : Array GenState} (h : AllBare gens) {g : Nat} {x : GenState} (hx : x.bare = true) : AllBare (gens.setIfInBounds g x) := fun y hy => by
  obtain ⟨i, hi, rfl⟩ := Array.mem_iff_getElem.mp hy
  rw [Array.size_setIfInBounds] at hi
  rw [Array.getElem_setIfInBounds hi]
  split
  · exact hx
  · exact h _ (Array.getElem_mem hi)
theorem Rs.set {s : Shared} (hb : AllBare s.gens) {g : Nat} {x : GenState} (hx : x.bare = true) : Rs s (s.setGen g x) :=
  ⟨rfl, rfl, bare_set hb hx, Nat.le_of_eq (GenW.setGen_size s g x).symm⟩
theorem Rs.trans {s s1 s2 : Shared} (a : Rs s s1) (b : Rs s1 s2) : Rs s s2 := ⟨b.heap.trans a.heap, b.os.trans a.os, b.bare, Nat.le_trans a.size b.size⟩
/-- the protocol of a generator whose items are truths: T b: what holds where b comes out -/
def gY (gi : Nat) (a : Addr) (stop : Bool) (Fin : Shared → Prop) : Protocol := fun n s₀ v s kap =>
  ∃ b, v = .bool b ∧ s.heap.IsGen a gi ∧ s.heap.NoLimit ∧ AllBare s.gens ∧ gi < s.gens.size ∧ (b = stop → Fin s) ∧ (b ≠ stop → ∀ s', Rs s s' → kap (.send .none) s')
def gR (End : Shared → Prop) : Nat → Shared → Shared → Prop := fun _ _ s => AllBare s.gens ∧ End s
/-- the generator waits -/
def Waits (prog : Program) (w : World) (A : Around) (gi : Nat) (a : Addr) (stop : Bool) (End Fin : Shared → Prop) (n : Nat) (s : Shared) : Prop :=
  s.heap.IsGen a gi ∧ s.heap.NoLimit ∧ AllBare s.gens ∧ ∃ gs, s.gens[gi]? = some gs ∧
    ∀ s', Rs s s' → gs.Goes (model prog w) A.in1 (fun n s₀ r s₁ => r = .ok .next ∧ gR End n s₀ s₁) (gY gi a stop Fin) n (.send .none) s'
section
variable {prog : Program} {w : World} {A : Around} {gi : Nat} {a : Addr} {stop : Bool} {End Fin : Shared → Prop}
theorem waits_next {n : Nat} {s : Shared} {Q : Option Value → Shared → Prop} {E : Value → Shared → Prop} (hh : A.handled = none) (hroom : A.depth < recursionLimit)
    (hE : ∀ s s' : Shared, End s → s'.os = s.os → AllBare s'.gens → (∀ b o, s.heap.get? b = some o → s'.heap.get? b = some o) → End s')
    (hF : ∀ s s' : Shared, Fin s → s'.os = s.os → AllBare s'.gens → (∀ b o, s.heap.get? b = some o → s'.heap.get? b = some o) → Fin s')
    (W : Waits prog w A gi a stop End Fin n s) (hN : ∀ s', End s' → Q none s') (hS : ∀ s', Fin s' → Q (some (.bool stop)) s')
    (hG : ∀ s' m, m < n → Waits prog w A gi a stop End Fin m s' → Q (some (.bool (!stop))) s') : wpAny (model prog w) A (pyNext (.ref a)) Q E s := by
  obtain ⟨hg, hl, hb, gs, hgs, hgo⟩ := W
  refine wpAny_pyNext_genexpQ (P := gR End) (Y := gY gi a stop Fin) hh hl hroom hg hgs (hgo _ (Rs.set hb rfl)) (fun v s₁ gs' hb' hv => ?_) fun s₁ hp h' hk => ?_
  · obtain ⟨b, rfl, g1, l1, b1, z1, f1, k1⟩ := hv
    by_cases e : b = stop
    · subst e
      exact hS _ (hF _ _ (f1 rfl) rfl (bare_set b1 hb') fun _ _ q => q)
    · have eb : b = !stop := by cases b <;> cases stop <;> first | rfl | exact absurd rfl e
      subst eb
      cases n with
      | zero => exact False.elim (k1 e s₁ ⟨rfl, rfl, b1, Nat.le_refl _⟩)
      | succ m =>
        refine hG _ m (Nat.lt_succ_self m) ⟨g1, l1, bare_set b1 hb', gs', ?_, fun s' r => k1 e s' ((Rs.set b1 hb').trans r)⟩
        show (s₁.gens.setIfInBounds gi gs')[gi]? = some gs'
        rw [Array.getElem?_setIfInBounds_self_of_lt z1]
  · obtain ⟨b1, e1⟩ := hp
    exact hN _ (hE _ _ e1 rfl (bare_set b1 rfl) fun b o q => hk b o q)
end
section
variable {prog : Program} {w : World} {A : Around} {gi : Nat} {a : Addr} {End Fin : Shared → Prop}
theorem all_loop (hh : A.handled = none) (hroom : A.depth < recursionLimit)
    (hE : ∀ s s' : Shared, End s → s'.os = s.os → AllBare s'.gens → (∀ b o, s.heap.get? b = some o → s'.heap.get? b = some o) → End s')
    (hF : ∀ s s' : Shared, Fin s → s'.os = s.os → AllBare s'.gens → (∀ b o, s.heap.get? b = some o → s'.heap.get? b = some o) → Fin s') :
    ∀ (n : Nat) (s : Shared), Waits prog w A.in1 gi a false End Fin n s →
      codeAny (model prog w) A (.builtin "all.loop" ⟨[.ref a], []⟩) (fun r s' => (r = .ok (.ret (.bool true)) ∧ End s') ∨ (r = .ok (.ret (.bool false)) ∧ Fin s')) s := by
  intro n
  induction n using Nat.strongRecOn with
  | ind n ih =>
    intro s W
    refine codeAny_builtin PySem.F.entry_all_loop ?_
    rw [Around.under_plainId PySem.F.plain_all_loop]
    show wpAny (model prog w) A.in1 (pyNext (.ref a) >>= _) _ _ s
    refine wpAny_bind (waits_next (A := A.in1) hh hroom hE hF W (fun s' e => ?_) (fun s' e => ?_) fun s' m hm W' => ?_)
    · exact wpAny_bind (wpAny_rule (wpAny_pure (.inl ⟨rfl, e⟩)))
    · refine wpAny_bind (wpAny_holding (wpAny_truthy_bool ?_))
      refine wpAny_bind (wpAny_letGo ?_)
      exact wpAny_bind (wpAny_rule (wpAny_pure (.inr ⟨rfl, e⟩)))
    · refine wpAny_bind (wpAny_holding (wpAny_truthy_bool ?_))
      refine wpAny_bind (wpAny_letGo ?_)
      exact wpAny_pure ⟨plainId_quiet PySem.F.plain_all_loop _, ih m hm s' W'⟩
end
/-! ### all(elt for target in iter) -/
/-- the reading: W by the turn and a measure; P: the def's table, which may grow -/
def tAll (P : Addr) (wi : TI) (g : TG) (te : TE) (vs : List Nat) : TE := fun σ H Q => wi σ H fun J H1 => GxR.TabG H1 P ∧ ∃ W : Nat → Nat → Hp → Prop, (∀ H2, GxR.Tabbed P H1 H2 → ∃ m, W 0 m H2) ∧ ∀ i m H, W i m H →
  (J.stop i H ∧ Q (.bl true) H) ∨ (J.go i H ∧ ∃ Nx : Hp → Prop, (∀ H', Nx H' → ∃ m', m' < m ∧ W (i + 1) m' H') ∧ ∀ x H', J.yld i H x H' → g x (wipe σ vs) H' fun σ2 H2 => wipe σ2 vs = wipe σ vs ∧
    te σ2 H2 fun y H3 => ∃ b, y = .bl b ∧ if b = true then Nx H3 else Q (.bl false) H3)
section
variable {X : Cx}
theorem pe_all {k : Nat} {c P : Addr} {elt tg iter : Expr} {scope : Scope} {own : List (Str × Nat)} {p pos gpos : Pos} {wi : TI} {g : TG} {te : TE}
    (hr : Room (k + 1) X.A) (TB : GxR.TabB X.base X.mg c P) (hcode : X.env.code = .ref c) (hc : X.calm = true) (hN : X.N.Nodup) (hG : Gl X "all") (hM : X.mg "all" = none) (hi : PI X tg iter wi) (ok : BlkOk X.N X.env.scope scope own) (gk : GnOk scope) (hdN : (".0" : Str) ∉ X.N)
    (hg : ∀ (s : Shared) (H : Hp) (A' : Around) (C : Addr) (cl : List (Str × Addr)) (code : Value) (fp : List Addr), PG (gX X s H A' (genEnv scope cl C code builtinsNs X.env) fp) tg g)
    (he : ∀ (s : Shared) (H : Hp) (A' : Around) (C : Addr) (cl : List (Str × Addr)) (code : Value) (fp : List Addr), Room k A' → PE (gX X s H A' (genEnv scope cl C code builtinsNs X.env) fp) elt te)
    (hs : ∀ v, genFold iter X.env v = pure v := by intro _; rfl)
    (hst : starEach [.GeneratorExp elt [⟨tg, iter, [], 0⟩] scope gpos] X.env = (false, eval (.GeneratorExp elt [⟨tg, iter, [], 0⟩] scope gpos) X.env) :: starEach [] X.env := by rfl) :
    PE X (.Call (.Name "all" p) [.GeneratorExp elt [⟨tg, iter, [], 0⟩] scope gpos] [] pos) (tAll P wi g te (own.map (·.2))) := by
  refine ⟨fun pins s σ H Q I h => ?_⟩
  have hh : X.A.handled = none := hr.hd
  refine wpAny_Call_Name_kw (ld_blt I hG hM PyProof.Rows.boot_all ?_)
  refine PyProof.Rows.callWith_builtin1 ?_ hst (by rfl)
  rw [hst]
  show wpAny _ _ (spliced ((false, eval (.GeneratorExp elt [⟨tg, iter, [], 0⟩] scope gpos) X.env) :: backTo pos (starEach [] X.env))) _ _ s
  have hfree : ∀ y ∈ scope.names, y.2 = .free → ∃ c, X.env.cells.lookup y.1 = some c := fun y hy e =>
    (ok.free y hy e).elim (fun k => I.ok.has _ (.inl k)) fun k => I.ok.has _ (.inr k)
  refine Calls.spliced_cons (wpAny_GeneratorExp_make gk.co (closure_ok hfree) gk.nocell gk.dot ok.kind (by have := hr.dp; omega) (thn (hi.run pins s σ H _ I h) fun xv s1 hx => thn hx fun itv s2 h2 => ?_) hs)
  obtain ⟨it, fp, tn, J, H2, e, I2, T, st2, f2, ⟨ps, hP, ht⟩, W, w0, turn⟩ := h2
  subst e
  refine ⟨I2.nolimit, ?_⟩
  have hPs : s2.heap.get? P = some { cls := .none, data := .fields ps } := I2.hok P _ hP
  have cd : PySem.W.CodeHd s2.heap c P := TB.code.keeps fun b u e => I2.bk b u e
  have sz2 : ∀ b ∈ fp, b < s2.heap.objs.size := fun b hb => by
    obtain ⟨o, e, _⟩ := T.obj _ _ st2 b hb
    exact Heap.lt_size e
  have nfP : ∀ b ∈ fp, b ≠ P := fun b hb z => by
    have q := (f2 b hb).1
    rw [z, hP] at q
    cases q
  -- behind the table
  have cont : ∀ (code : Value) (h3 : Heap) (tk : Nat) (more : Array Value), s2.heap.objs.size ≤ h3.objs.size → (∀ b o, b ≠ P → s2.heap.get? b = some o → h3.get? b = some o) → h3.get? P = some { cls := .none, data := .fields (ps ++ more) } → TriplesOk (ps ++ more).toList →
      wpAny (model X.prog X.w) X.A (builtinsFor X.env.globals X.env.builtins) (fun bi s4 => ∀ h', h'.Ns s4.heap.objs.size (fun y => if y = ".0" then some (.ref it) else none) → Heap.SameBut s4.heap.objs.size (s4.heap.push { cls := .type "frame", data := .dict #[] }) h' →
        wpAny (model X.prog X.w) X.A (spliced (backTo pos (starEach [] X.env))) (fun vs s5 => wpAny (model X.prog X.w) X.A (call (.builtin "all") (.ref h'.objs.size :: vs)) (EP X pins σ Q) X.xe s5) X.xe { s4 with
            gens := s4.gens.push (.fresh (.compStart (.GeneratorExp elt [⟨tg, iter, [], 0⟩] scope gpos) 0 (.ref it) .none (genEnv scope (cloFrom X.env.cells scope.names []) s4.heap.objs.size code bi X.env))), toks := s4.toks + 1 + 1 + 1,
            heap := h'.push { cls := .type "generator", data := .fields #[.int s4.gens.size 0, .str "<genexpr>" (s4.toks + 1), .str (X.env.qual ++ "<genexpr>") (s4.toks + 1 + 1)] } }) X.xe { s2 with heap := h3, toks := tk } := by
    intro code h3 tk more hle3 hk3 hP3 ht3
    have I3 : Inv X pins σ (upd H2 P (.tbl (ps ++ more))) { s2 with heap := h3, gens := s2.gens, drawn := s2.drawn, toks := tk } := GxR.inv_tab I2 hP hk3 hP3 I2.bare
    have tab3 : GxR.Tabbed P H2 (upd H2 P (.tbl (ps ++ more))) := ⟨⟨_, upd_same, ht3⟩, fun b hb => upd_ne hb⟩
    have st3 : tn 0 h3 := T.keep _ _ _ st2 fun b hb o e => hk3 b o (nfP b hb) e
    have f3 : ∀ b ∈ fp, FpOk X pins (upd H2 P (.tbl (ps ++ more))) b := fun b hb => ⟨by rw [upd_ne (nfP b hb)]; exact (f2 b hb).1, (f2 b hb).2⟩
    generalize upd H2 P (.tbl (ps ++ more)) = H3 at I3 tab3 f3
    obtain ⟨m0, hw0⟩ := w0 H3 tab3
    have sz3 : ∀ b ∈ fp, b < h3.objs.size := fun b hb => Nat.lt_of_lt_of_le (sz2 b hb) hle3
    have hs3 : ({ s2 with heap := h3, gens := s2.gens, drawn := s2.drawn, toks := tk } : Shared) = { s2 with heap := h3, toks := tk } := rfl
    rw [hs3] at I3
    generalize hsh : ({ s2 with heap := h3, toks := tk } : Shared) = s3 at I3 ⊢
    have eh : h3 = s3.heap := by rw [← hsh]
    rw [eh] at st3 sz3
    clear hsh hs3 eh hP3 hk3 hle3
    obtain ⟨bm, ob, e1, e2, e3, e4, e5, e6, e7, e8⟩ := TB.bm
    refine wpAny_builtinsFor (m := X.mg) (by rw [I3.ok.glob]; exact I3.mod.glob.keeps I3.bk) e1 e2 (I3.bk _ _ e5) e6 e7 e8 ?_
    intro h' hn' hs'
    refine Calls.spliced_nil ?_
    have hsz : h'.objs.size = s3.heap.objs.size + 1 := by rw [hs'.1, Heap.size_push]
    generalize hgo : ({ cls := .type "generator", data := .fields #[.int s3.gens.size 0, .str "<genexpr>" (s3.toks + 1), .str (X.env.qual ++ "<genexpr>") (s3.toks + 1 + 1)] } : Obj) = go
    have kp5 : ∀ b o, s3.heap.get? b = some o → (h'.push go).get? b = some o := fun b o e => Heap.get?_push_of_some _ (hs'.extBut b o (Nat.ne_of_lt (Heap.lt_size e)) (Heap.get?_push_of_some _ e))
    generalize hce : genEnv scope (cloFrom X.env.cells scope.names []) s3.heap.objs.size code builtinsNs X.env = ce
    have hhA : (X.A.in1.in1.over (.compLoop (.GeneratorExp elt [⟨tg, iter, [], 0⟩] scope gpos) 0 (.ref it) .none ce) []).handled = none := hh
    have hFr : (X.A.in1.in1.over (.compLoop (.GeneratorExp elt [⟨tg, iter, [], 0⟩] scope gpos) 0 (.ref it) .none ce) []).frames = some (ce :: X.stack) := by
      show pushEnvs [ce] (pushEnvs [] X.A.frames) = _
      rw [I3.ok.frames]
      rfl
    have hRm : Room k (X.A.in1.in1.over (.compLoop (.GeneratorExp elt [⟨tg, iter, [], 0⟩] scope gpos) 0 (.ref it) .none ce) []) := by
      have z1 := hr.dp
      have z2 := hr.un
      refine ⟨hhA, ?_, ?_⟩
      · show X.A.depth + 0 + 1 + 3 * k + 5 < recursionLimit
        omega
      · show X.A.units + 1 + 1 + 0 + 3 + 16 * k + 200 < cLine
        omega
    generalize hAg : X.A.in1.in1.over (.compLoop (.GeneratorExp elt [⟨tg, iter, [], 0⟩] scope gpos) 0 (.ref it) .none ce) [] = Ag at hhA hFr hRm
    have I5 : Inv (gX X s3 H3 Ag ce fp) [(h'.objs.size, go)] (wipe σ (own.map (·.2))) H3 { s3 with heap := h'.push go, gens := s3.gens.push (.fresh (.compStart (.GeneratorExp elt [⟨tg, iter, [], 0⟩] scope gpos) 0 (.ref it) .none ce)), toks := s3.toks + 1 + 1 + 1 } := by
      have q := gen_start (code := code) (A' := Ag) (h5 := h'.push go) (g5 := s3.gens.push (.fresh (.compStart (.GeneratorExp elt [⟨tg, iter, [], 0⟩] scope gpos) 0 (.ref it) .none ce))) (t5 := s3.toks + 1 + 1 + 1) (go := go) I3 ok gk hN (fun b hb => ⟨f3 b hb, sz3 b hb⟩) hhA (by rw [hce]; exact hFr) kp5 (hn'.push _)
        (fun x hx => if_neg hx) hdN (I3.bare.push rfl) (a := h'.objs.size) (by omega) (Heap.get?_push_size _ (by rw [← hgo]; rfl)) (by rw [← hgo]; intro v z; cases z)
      rw [hce] at q
      exact q
    have st5 : tn 0 (h'.push go) := T.keep _ _ _ st3 fun b _ o e => kp5 b o e
    have nfp : ∀ b ∈ fp, H3 b = none := fun b hb => (f3 b hb).1
    have pg := hg s3 H3 Ag s3.heap.objs.size (cloFrom X.env.cells scope.names []) code fp
    have pe := he s3 H3 Ag s3.heap.objs.size (cloFrom X.env.cells scope.names []) code fp hRm
    rw [hce] at pg pe
    have cCo : ce.scope.isCoroutine = false := by rw [← hce]; exact gk.co
    clear hn' hs' kp5 w0 hce
    -- back in the def's context
    have back : ∀ {σ' : L2.St} {H' : Hp} {s' : Shared} {pl : List (Addr × Obj)}, Inv (gX X s3 H3 Ag ce fp) pl σ' H' s' → Inv X pins σ H' s' := fun {σ' H' s' pl} J => I3.call' (ch := fp) J.os J.base J.hok J.bare fun b hb =>
      ⟨(f3 b hb).2.2.2.1, (f3 b hb).2.1, (f3 b hb).2.2.2.2.1, (f3 b hb).2.2.2.2.2⟩
    have stat : ∀ {σ' : L2.St} {H' : Hp} {s' : Shared}, Inv (gX X s3 H3 Ag ce fp) [(h'.objs.size, go)] σ' H' s' → (∀ b ∈ fp, H' b = none) → ∀ b ∈ fp, FpOk (gX X s3 H3 Ag ce fp) [(h'.objs.size, go)] H' b := fun {σ' H' s'} J hn b hb =>
      ⟨hn b hb, (J.ok.exf b hb).1, J.ok.exfs b hb, .inl hb, fun x c e => (J.ok.exf b hb).2 x c e, fun p hp => by
        have hp : p = (h'.objs.size, go) := by simpa using hp
        rw [hp]
        exact Nat.ne_of_gt (Nat.lt_trans (sz3 b hb) (by rw [hsz]; exact Nat.lt_succ_self _))⟩
    have gen : ∀ {σ' : L2.St} {H' : Hp} {s' : Shared} {pl : List (Addr × Obj)}, Inv (gX X s3 H3 Ag ce fp) ([(h'.objs.size, go)] ++ pl) σ' H' s' → s'.heap.IsGen h'.objs.size s3.gens.size := fun {σ' H' s' pl} J => by
      have q := (J.pin (h'.objs.size, go) (by simp)).1
      exact ⟨go, _, _, q, by rw [← hgo], by rw [← hgo], by rw [← hgo]⟩
    -- the turns
    have loop : ∀ (m n i : Nat) (s₀ s : Shared) (H : Hp), m < n → W i m H → Inv (gX X s3 H3 Ag ce fp) [(h'.objs.size, go)] (wipe σ (own.map (·.2))) H s → tn i s.heap → (∀ b ∈ fp, H b = none) → s3.gens.size + 1 ≤ s.gens.size →
        Seg (model X.prog X.w) X.A.in1.in1 (fun n s₀ r s₁ => r = .ok .next ∧ gR (fun s => ∃ H', Inv X pins σ H' s ∧ Q (.bl true) H') n s₀ s₁) (gY s3.gens.size h'.objs.size false fun s => ∃ H', Inv X pins σ H' s ∧ Q (.bl false) H') n s₀
          (.compLoop (.GeneratorExp elt [⟨tg, iter, [], 0⟩] scope gpos) 0 (.ref it) .none ce) ((model X.prog X.w).den (.compLoop (.GeneratorExp elt [⟨tg, iter, [], 0⟩] scope gpos) 0 (.ref it) .none ce)) [] s := by
      intro m
      induction m using Nat.strongRecOn with
      | ind m ih =>
        intro n i s₀ s H hmn w J st nf hz
        show Seg (model X.prog X.w) _ _ _ n s₀ _ ((compTurn (.GeneratorExp elt [⟨tg, iter, [], 0⟩] scope gpos) 0 (.ref it) .none ce).onRaise (leaving ce)) [] s
        rw [compTurn_gen]
        rw [Sem.onRaise_eq_wrap]
        refine seg_bind_wrap (wpAny_standAt (seg_bind_wrap ?_))
        rw [hAg]
        rcases turn i m H w with ⟨stp, qq⟩ | ⟨go', Nx, hNx, step⟩
        · refine thnF (T.done (gX X s3 H3 Ag ce fp) rfl rfl rfl hc i _ s _ H (fun _ _ => False) J (stat J nf) st stp) fun r s6 ⟨hr6, J6⟩ => ?_
          subst hr6
          exact seg_end (.ok .next) ⟨rfl, J6.bare, H, back J6, qq⟩
        · refine GenW.wpAny_gsz hz (thnF (T.item (gX X s3 H3 Ag ce fp) rfl rfl rfl hc i _ s _ H (fun _ _ => False) J (stat J nf) st go') fun r s6 ⟨u, hr6, h6⟩ hz6 => ?_)
          subst hr6
          refine seg_bind_wrap ?_
          rw [hAg]
          refine GenW.wpAny_gsz hz6 (thnF h6 fun _ s7 ⟨x, H7, J7, r7, y7, st7, n7⟩ hz7 => ?_)
          have J7' := J7.pinned (stat J7 n7) (T.obj _ _ st7)
          refine seg_bind_wrap ?_
          rw [hAg]
          refine GenW.wpAny_gsz hz7 (thnF (pg.run _ s7 _ H7 x u _ J7' r7 (step x H7 y7)) fun _ s8 ⟨σ8, H8, J8, hw8, q8⟩ hz8 => ?_)
          simp only [List.forIn_nil]
          refine seg_bind_wrap (wpAny_pure ?_)
          simp only [if_true]
          have hy : ∀ v, yieldOut ce v = yieldValue v := fun v => by simp only [yieldOut, cCo, Bool.false_eq_true, if_false]
          simp only [hy]
          rw [Sem.bind_eq_wrap', Sem.bind_eq_wrap']
          rw [Sem.wrap_wrap, Sem.wrap_wrap]
          refine seg_wrap ?_
          rw [hAg]
          refine GenW.wpAny_gsz hz8 (thnF (pe.run _ s8 σ8 H8 _ J8 q8) fun z s9 ⟨yv, H9, J9, r9, b, eb, qb⟩ hz9 => ?_)
          subst eb
          obtain rfl : z = Value.bool b := r9
          obtain ⟨n', rfl⟩ : ∃ n', n = n' + 1 := ⟨n - 1, by omega⟩
          refine seg_at (seg_yield rfl rfl rfl ⟨b, rfl, gen J9, J9.nolimit, J9.bare, hz9, fun e => ?_, fun e s' r => ?_⟩)
          · subst e
            exact ⟨H9, back J9, qb⟩
          · have e : b = true := by
              cases b with
              | true => rfl
              | false => exact absurd rfl e
            subst e
            rw [if_pos rfl] at qb
            obtain ⟨m', hm', w'⟩ := hNx H9 qb
            have pin' : ∀ b ∈ fp, ∀ o, s7.heap.get? b = some o → s9.heap.get? b = some o ∧ H9 b = none := fun b hb o e =>
              let z := J9.pin (b, o) (List.mem_append_right _ (List.mem_append_right _ (mem_pinsAt hb e)))
              ⟨z.1, z.2.1⟩
            have hl : (wipe σ (own.map (·.2))).length = σ8.length := by rw [← hw8, wipe_length]
            have K9 : Inv (gX X s3 H3 Ag ce fp) [(h'.objs.size, go)] (wipe σ (own.map (·.2))) H9 s9 := J9.unpinned.weak hl fun j v e => by
              rw [← hw8] at e
              exact (wipe_some e).1
            refine seg_again rfl (ih m' hm' n' (i + 1) s' s' H9 (by omega) w' (r.inv K9) ?_ (fun b hb => ?_) (Nat.le_trans hz9 r.size))
            · rw [r.heap]
              exact T.keep _ _ _ st7 fun b hb o e => (pin' b hb o e).1
            · obtain ⟨o, e, _⟩ := T.obj _ _ st7 b hb
              exact (pin' b hb o e).2
    have mono : ∀ (b : Bool) (s s' : Shared), (∃ H', Inv X pins σ H' s ∧ Q (.bl b) H') → s'.os = s.os → AllBare s'.gens → (∀ b o, s.heap.get? b = some o → s'.heap.get? b = some o) → ∃ H', Inv X pins σ H' s' ∧ Q (.bl b) H' := fun b s s' ⟨H', J, q⟩ h1 h2 h3 =>
      ⟨H', inv_gens (J.kept (t' := s'.toks) h3) rfl h1 h2, q⟩
    generalize hs5 : ({ s3 with heap := h'.push go, gens := s3.gens.push (.fresh (.compStart (.GeneratorExp elt [⟨tg, iter, [], 0⟩] scope gpos) 0 (.ref it) .none ce)), toks := s3.toks + 1 + 1 + 1 } : Shared) = s5 at I5
    have hg5 : s5.gens[s3.gens.size]? = some (.fresh (.compStart (.GeneratorExp elt [⟨tg, iter, [], 0⟩] scope gpos) 0 (.ref it) .none ce)) := by
      rw [← hs5]
      exact Array.getElem?_push_size ..
    have hz5 : s3.gens.size + 1 ≤ s5.gens.size := by
      rw [← hs5]
      exact Nat.le_of_eq (Array.size_push ..).symm
    have ht5 : tn 0 s5.heap := by rw [← hs5]; exact st5
    have wt : Waits X.prog X.w X.A.in1 s3.gens.size h'.objs.size false (fun s => ∃ H', Inv X pins σ H' s ∧ Q (.bl true) H') (fun s => ∃ H', Inv X pins σ H' s ∧ Q (.bl false) H') (m0 + 1) s5 := by
      refine ⟨gen (pl := []) I5, I5.nolimit, I5.bare, _, hg5, fun s' r => ⟨rfl, ?_⟩⟩
      have lp := loop m0 (m0 + 1) 0 s' s' H3 (Nat.lt_succ_self _) hw0 (r.inv I5) (by rw [r.heap]; exact ht5) nfp (Nat.le_trans hz5 r.size)
      show Seg (model X.prog X.w) _ _ _ _ s' _ ((compStart (.GeneratorExp elt [⟨tg, iter, [], 0⟩] scope gpos) 0 (.ref it) .none ce).onRaise (leaving ce)) [] s'
      unfold compStart
      rw [Sem.onRaise_eq_wrap]
      show Seg (model X.prog X.w) _ _ _ _ s' _ ((ask >>= _).wrap _ _ _ _) [] s'
      refine seg_bind_wrap (wpAny_askSetting ?_)
      have ts : tn 0 s'.heap := by rw [r.heap]; exact ht5
      split
      · exact seg_again rfl lp
      · first
          | exact seg_bind_wrap (wpAny_rule (seg_bind_wrap (wpAny_standAt (seg_bind_wrap (T.self _ 0 s' _ _ ts (seg_again rfl lp))))))
          | (refine seg_bind_wrap (wpAny_rule ?_); show Seg (model X.prog X.w) _ _ _ _ s' _ ((standAt iter.pos >>= _).wrap _ _ _ _) [] s'; exact seg_bind_wrap (wpAny_standAt (seg_bind_wrap (T.self _ 0 s' _ _ ts (seg_again rfl lp)))))
    refine call_function_tree PySem.F.kind_all PySem.F.plain_all PySem.F.entry_all (PySem.F.args_all1 _) ?_
    unfold Builtin.«all»
    refine wpAny_bind (m := oneArg "all" _) (wpAny_pure ?_)
    refine wpAny_bind (wpAny_pyIter_gen (gen (pl := []) I5) ?_)
    refine wpAny_pure ⟨plainId_quiet PySem.F.plain_all_loop _, codeAny_mono (all_loop hh hr.depth (mono true) (mono false) (m0 + 1) s5 wt) fun r s' hq => ?_⟩
    rcases hq with ⟨rfl, H', J, q⟩ | ⟨rfl, H', J, q⟩
    · exact ⟨.bl true, H', J, rfl, q⟩
    · exact ⟨.bl false, H', J, rfl, q⟩
  cases hf : codeAmong gpos ps.toList with
  | none =>
    refine wpAny_genexprCodeX hcode (cd.code hPs ht) (cd.tab hPs) hf fun c' h' tk hx hge hlt hco' _ htab' _ => ?_
    obtain ⟨o1, vs, f1, tf, fl, tg1, inF, tx, tt, op, _, _, _, _, _, _, _, _, _, htr, _⟩ := hco'
    exact cont _ h' tk _ (Nat.le_trans hge (Nat.le_of_lt hlt)) (fun b o hb e => hx b o hb e) htab'.2 htr
  | some cv =>
    refine wpAny_genexprCode_hit hcode (cd.code hPs ht) hf ?_
    have := cont cv s2.heap s2.toks #[] (Nat.le_refl _) (fun _ _ _ e => e) (by rw [hPs]; simp) (by simpa using ht)
    exact this
end
def topS (i : Nat) : Stmt := PySem.Challenge.pw_friendfoe_k67_papers_that_none_do.main.body.getD i (.Pass ⟨0, 0, 0, 0⟩)
abbrev s_neighbours : Stmt := topS 1
abbrev N_neighbours : List Str := ["web", "many", "ties", "around", "place", "one", "other", "kind"]
theorem sc_neighbours : FnScope N_neighbours ["web"] (defScope s_neighbours) := ⟨rfl, rfl, rfl, by decide +kernel, rfl, by decide +kernel, by decide +kernel⟩
abbrev s_sides_from : Stmt := topS 2
abbrev N_sides_from : List Str := ["start", "around", "sides", "waiting", "place", "other", "kind"]
theorem sc_sides_from : FnScope N_sides_from ["start", "around"] (defScope s_sides_from) := ⟨rfl, rfl, rfl, by decide +kernel, rfl, by decide +kernel, by decide +kernel⟩
abbrev s_parts_of : Stmt := topS 3
abbrev N_parts_of : List Str := ["web", "around", "parts", "placed", "start", "part"]
theorem sc_parts_of : FnScope N_parts_of ["web"] (defScope s_parts_of) := ⟨rfl, rfl, rfl, by decide +kernel, rfl, by decide +kernel, by decide +kernel⟩
abbrev s_is_whole : Stmt := topS 5
abbrev N_is_whole : List Str := ["thing"]
theorem sc_is_whole : FnScope N_is_whole ["thing"] (defScope s_is_whole) := ⟨rfl, rfl, rfl, by decide +kernel, rfl, by decide +kernel, by decide +kernel⟩
abbrev s_is_whole_below : Stmt := topS 6
abbrev N_is_whole_below : List Str := ["limit", "thing"]
theorem sc_is_whole_below : FnScope N_is_whole_below ["limit", "thing"] (defScope s_is_whole_below) := ⟨rfl, rfl, rfl, by decide +kernel, rfl, by decide +kernel, by decide +kernel⟩
abbrev s_are_unlike_places : Stmt := topS 7
abbrev N_are_unlike_places : List Str := ["many", "one", "other"]
theorem sc_are_unlike_places : FnScope N_are_unlike_places ["many", "one", "other"] (defScope s_are_unlike_places) := ⟨rfl, rfl, rfl, by decide +kernel, rfl, by decide +kernel, by decide +kernel⟩
abbrev s_is_tuple_of : Stmt := topS 8
abbrev N_is_tuple_of : List Str := ["length", "thing"]
theorem sc_is_tuple_of : FnScope N_is_tuple_of ["length", "thing"] (defScope s_is_tuple_of) := ⟨rfl, rfl, rfl, by decide +kernel, rfl, by decide +kernel, by decide +kernel⟩
abbrev s_are_rising_below : Stmt := topS 9
abbrev N_are_rising_below : List Str := ["limit", "thing", "number", "following"]
theorem sc_are_rising_below : FnScope N_are_rising_below ["limit", "thing"] (defScope s_are_rising_below) := ⟨rfl, rfl, rfl, by decide +kernel, rfl, by decide +kernel, by decide +kernel⟩
abbrev s_friends_of : Stmt := topS 11
abbrev N_friends_of : List Str := ["web", "tie"]
theorem sc_friends_of : FnScope N_friends_of ["web"] (defScope s_friends_of) := ⟨rfl, rfl, rfl, by decide +kernel, rfl, by decide +kernel, by decide +kernel⟩
abbrev s_heads_of : Stmt := topS 12
abbrev N_heads_of : List Str := ["web", "friends", "place"]
theorem sc_heads_of : FnScope N_heads_of ["web"] (defScope s_heads_of) := ⟨rfl, rfl, rfl, by decide +kernel, rfl, by decide +kernel, by decide +kernel⟩
abbrev s_crowd_holds : Stmt := topS 14
abbrev N_crowd_holds : List Str := ["k", "heads", "foes", "thing", "led", "one", "other", "crowd", "place"]
theorem sc_crowd_holds : FnScope N_crowd_holds ["k", "heads", "foes", "thing"] (defScope s_crowd_holds) := ⟨rfl, rfl, rfl, by decide +kernel, rfl, by decide +kernel, by decide +kernel⟩
abbrev s_clash_holds : Stmt := topS 15
abbrev N_clash_holds : List Str := ["heads", "foes", "one", "other"]
theorem sc_clash_holds : FnScope N_clash_holds ["heads", "foes", "one", "other"] (defScope s_clash_holds) := ⟨rfl, rfl, rfl, by decide +kernel, rfl, by decide +kernel, by decide +kernel⟩
abbrev s_case_holds : Stmt := topS 16
abbrev N_case_holds : List Str := ["k", "heads", "foes", "thing", "word", "one", "other", "together", "apart", "joined", "place"]
theorem sc_case_holds : FnScope N_case_holds ["k", "heads", "foes", "thing"] (defScope s_case_holds) := ⟨rfl, rfl, rfl, by decide +kernel, rfl, by decide +kernel, by decide +kernel⟩
abbrev s_paper_holds : Stmt := topS 17
abbrev N_paper_holds : List Str := ["k", "heads", "foes", "thing"]
theorem sc_paper_holds : FnScope N_paper_holds ["k", "heads", "foes", "thing"] (defScope s_paper_holds) := ⟨rfl, rfl, rfl, by decide +kernel, rfl, by decide +kernel, by decide +kernel⟩
abbrev s_none_holds : Stmt := topS 18
abbrev N_none_holds : List Str := ["web", "k", "thing", "foes", "one", "other", "kind"]
theorem sc_none_holds : FnScope N_none_holds ["web", "k", "thing"] (defScope s_none_holds) := ⟨rfl, rfl, rfl, by decide +kernel, rfl, by decide +kernel, by decide +kernel⟩
abbrev s_l_deck : Stmt := topS 20
abbrev N_l_deck : List Str := ["_law_script", "_law_deck_here", "_law_k"]
theorem sc_l_deck : FnScope N_l_deck ["_law_script"] (defScope s_l_deck) := ⟨rfl, rfl, rfl, by decide +kernel, rfl, by decide +kernel, by decide +kernel⟩
abbrev s_l_draw : Stmt := topS 21
abbrev N_l_draw : List Str := ["_law_deck_here", "_law_most", "_law_cells", "_law_state", "_law_found", "_law_mixed"]
theorem sc_l_draw : FnScope N_l_draw ["_law_deck_here", "_law_most"] (defScope s_l_draw) := ⟨rfl, rfl, rfl, by decide +kernel, rfl, by decide +kernel, by decide +kernel⟩
abbrev s_l_groups : Stmt := topS 22
abbrev N_l_groups : List Str := ["_law_web", "_law_kinds", "_law_groups_here", "_law_one", "_law_other", "_law_kind", "_law_low", "_law_high", "_law_group"]
theorem sc_l_groups : FnScope N_l_groups ["_law_web", "_law_kinds"] (defScope s_l_groups) := ⟨rfl, rfl, rfl, by decide +kernel, rfl, by decide +kernel, by decide +kernel⟩
abbrev s_l_is_place : Stmt := topS 23
abbrev N_l_is_place : List Str := ["_law_web", "_law_thing"]
theorem sc_l_is_place : FnScope N_l_is_place ["_law_web", "_law_thing"] (defScope s_l_is_place) := ⟨rfl, rfl, rfl, by decide +kernel, rfl, by decide +kernel, by decide +kernel⟩
abbrev s_l_crowd : Stmt := topS 24
abbrev N_l_crowd : List Str := ["_law_web", "_law_k", "_law_places", "_law_one", "_law_groups_here", "_law_met", "_law_other", "_law_kind", "_law_at", "_law_here"]
theorem sc_l_crowd : FnScope N_l_crowd ["_law_web", "_law_k", "_law_places"] (defScope s_l_crowd) := ⟨rfl, rfl, rfl, by decide +kernel, rfl, by decide +kernel, by decide +kernel⟩
abbrev s_l_clash : Stmt := topS 25
abbrev N_l_clash : List Str := ["_law_web", "_law_one", "_law_other", "_law_groups_here", "_law_foes", "_law_tie"]
theorem sc_l_clash : FnScope N_l_clash ["_law_web", "_law_one", "_law_other"] (defScope s_l_clash) := ⟨rfl, rfl, rfl, by decide +kernel, rfl, by decide +kernel, by decide +kernel⟩
abbrev s_l_none : Stmt := topS 26
abbrev N_l_none : List Str := ["_law_web", "_law_k", "_law_thing", "_law_waiting", "_law_here", "_law_paper", "_law_one", "_law_other"]
theorem sc_l_none : FnScope N_l_none ["_law_web", "_law_k", "_law_thing"] (defScope s_l_none) := ⟨rfl, rfl, rfl, by decide +kernel, rfl, by decide +kernel, by decide +kernel⟩
abbrev s_l_small_web : Stmt := topS 27
abbrev N_l_small_web : List Str := ["_law_deck_here", "_law_many", "_law_ties", "_law_one", "_law_other", "_law_way", "_law_turn"]
theorem sc_l_small_web : FnScope N_l_small_web ["_law_deck_here"] (defScope s_l_small_web) := ⟨rfl, rfl, rfl, by decide +kernel, rfl, by decide +kernel, by decide +kernel⟩
abbrev s_l_crowds : Stmt := topS 28
abbrev N_l_crowds : List Str := ["_law_web", "_law_k", "_law_groups_here", "_law_met", "_law_one", "_law_other", "_law_kind", "_law_found", "_law_size", "_law_longer", "_law_some", "_law_place"]
theorem sc_l_crowds : FnScope N_l_crowds ["_law_web", "_law_k", "_law_groups_here"] (defScope s_l_crowds) := ⟨rfl, rfl, rfl, by decide +kernel, rfl, by decide +kernel, by decide +kernel⟩
abbrev s_l_made : Stmt := topS 29
abbrev N_l_made : List Str := ["_law_deck_here", "_law_web", "_law_k", "_law_deep", "_law_groups_here", "_law_clashes", "_law_tie", "_law_one", "_law_other", "_law_kind", "_law_crowds_here", "_law_found", "_law_place", "_law_some", "_law_met", "_law_pairs", "_law_here", "_law_friend"]
theorem sc_l_made : FnScope N_l_made ["_law_deck_here", "_law_web", "_law_k", "_law_deep"] (defScope s_l_made) := ⟨rfl, rfl, rfl, by decide +kernel, rfl, by decide +kernel, by decide +kernel⟩
abbrev s_l_odd : Stmt := topS 30
abbrev N_l_odd : List Str := ["_law_deck_here", "_law_some"]
theorem sc_l_odd : FnScope N_l_odd ["_law_deck_here"] (defScope s_l_odd) := ⟨rfl, rfl, rfl, by decide +kernel, rfl, by decide +kernel, by decide +kernel⟩
abbrev s_l_same : Stmt := topS 31
abbrev N_l_same : List Str := ["_law_found", "_law_due"]
theorem sc_l_same : FnScope N_l_same ["_law_found", "_law_due"] (defScope s_l_same) := ⟨rfl, rfl, rfl, by decide +kernel, rfl, by decide +kernel, by decide +kernel⟩
abbrev s_l_within : Stmt := topS 32
abbrev N_l_within : List Str := ["_law_deck_here", "_law_web", "_law_paper", "_law_found", "_law_foes", "_law_tie", "_law_turn", "_law_one", "_law_other", "_law_kind"]
theorem sc_l_within : FnScope N_l_within ["_law_deck_here", "_law_web", "_law_paper"] (defScope s_l_within) := ⟨rfl, rfl, rfl, by decide +kernel, rfl, by decide +kernel, by decide +kernel⟩
abbrev s_l_number : Stmt := topS 33
abbrev N_l_number : List Str := ["_law_deck_here", "_law_many"]
theorem sc_l_number : FnScope N_l_number ["_law_deck_here", "_law_many"] (defScope s_l_number) := ⟨rfl, rfl, rfl, by decide +kernel, rfl, by decide +kernel, by decide +kernel⟩
abbrev s_l_bent : Stmt := topS 34
abbrev N_l_bent : List Str := ["_law_deck_here", "_law_paper", "_law_many", "_law_deep", "_law_at", "_law_inner", "_law_way", "_law_some", "_law_row", "_law_one"]
theorem sc_l_bent : FnScope N_l_bent ["_law_deck_here", "_law_paper", "_law_many", "_law_deep"] (defScope s_l_bent) := ⟨rfl, rfl, rfl, by decide +kernel, rfl, by decide +kernel, by decide +kernel⟩
abbrev s_l_right : Stmt := topS 35
abbrev N_l_right : List Str := ["_law_web", "_law_k", "_law_thing", "_law_kept", "_law_number_here"]
theorem sc_l_right : FnScope N_l_right ["_law_web", "_law_k", "_law_thing"] (defScope s_l_right) := ⟨rfl, rfl, rfl, by decide +kernel, rfl, by decide +kernel, by decide +kernel⟩
abbrev s_law : Stmt := topS 36
abbrev N_law : List Str := ["_law_script", "_law_deck_here", "_law_turn", "_law_web", "_law_k", "_law_paper", "_law_number_here"]
theorem sc_law : FnScope N_law ["_law_script"] (defScope s_law) := ⟨rfl, rfl, rfl, by decide +kernel, rfl, by decide +kernel, by decide +kernel⟩
/-! ### own rules: a list against [] -/
section
variable {X : Cx}
def rEqE (K : PySem.W.Frag) : R2 := fun x y H Q => ∃ (a b : Addr) (xs : List V), x = .ref a ∧ y = .ref b ∧ SqL K H a xs ∧ SqL K H b [] ∧ Q (.bl xs.isEmpty) H
def rNeE (K : PySem.W.Frag) : R2 := fun x y H Q => ∃ (a b : Addr) (xs : List V), x = .ref a ∧ y = .ref b ∧ SqL K H a xs ∧ SqL K H b [] ∧ Q (.bl (!xs.isEmpty)) H
theorem op_eqE (hu : X.A.units < cLine) : OpR X (compareOp .Eq) (rEqE X.K) := by
  intro pins s σ H x y v u Q I rx ry h
  obtain ⟨a, b, xs, rfl, rfl, ha, hb, q⟩ := h
  obtain rfl : v = Value.ref a := rx
  obtain rfl : u = Value.ref b := ry
  obtain ⟨its, r1, p1, _⟩ := I.list ha
  obtain ⟨its2, r2, p2, _⟩ := I.list hb
  cases r2
  cases xs with
  | nil =>
    cases r1
    exact SeqAt.eq_listAt (e := fun _ => true) p1.isList p2.isList rfl hu (fun j h1 _ => absurd h1 (by simp)) ⟨.bl true, H, I, rfl, q⟩
  | cons z zs =>
    cases r1 with
    | cons r t => exact SeqAt.eq_list_lengthsAt p1.isList p2.isList (by simp) hu ⟨.bl false, H, I, rfl, q⟩
theorem op_neE (hu : X.A.units < cLine) : OpR X (compareOp .NotEq) (rNeE X.K) := by
  intro pins s σ H x y v u Q I rx ry h
  obtain ⟨a, b, xs, rfl, rfl, ha, hb, q⟩ := h
  obtain rfl : v = Value.ref a := rx
  obtain rfl : u = Value.ref b := ry
  obtain ⟨its, r1, p1, _⟩ := I.list ha
  obtain ⟨its2, r2, p2, _⟩ := I.list hb
  cases r2
  cases xs with
  | nil =>
    cases r1
    exact SeqAt.RcNeAt.lists (e := fun _ => true) p1.isList p2.isList rfl hu (fun j h1 _ => absurd h1 (by simp)) _ _ _ _ ⟨.bl false, H, I, rfl, q⟩
  | cons z zs =>
    cases r1 with
    | cons r t => exact SeqAt.RcNeAt.lists_lengths p1.isList p2.isList (by simp) hu _ _ _ _ ⟨.bl true, H, I, rfl, q⟩
end
section
variable {P : Program} {w : World} {K : PySem.W.Frag} {mg : Str → Option Value} {base : Heap}
theorem at0 {α : Type} (x : α) (xs : List α) : atI (x :: xs) 0 = some x := atI_nat (j := 0) rfl
theorem ix0 (n : Nat) : ixN (n + 1) 0 = some 0 := by
  unfold ixN
  rw [if_pos (by decide), if_pos (by omega)]
  rfl
/-! ### a draw -/
theorem ok_l_draw {f : Addr} {fd : FuncData} (F : Fun K "_law_draw" "_law_draw" s_l_draw f fd) : FnOk P w K mg base CX0 1 f fd ["_law_deck_here", "_law_most"] spDraw := by
  refine F.ok sc_l_draw (fun vs H Q E h => ?_) (fun cdv A outer s H vs Q E hr h => ?_)
  · obtain ⟨d, c, m, rfl, _⟩ := h
    rfl
  · obtain ⟨d, c, m, rfl, hD, hm, hb, q⟩ := h
    have ndc := hD.ne
    obtain ⟨cells, st, n, hd, hc, hl⟩ := hD
    refine ⟨_, (pss_cons (ps_asg (pv 0) (pg_unl rfl (pgs_cons (pg_name (i := 2) sc_l_draw.nd rfl (.inl rfl)) (pgs_cons (pg_name (i := 3) sc_l_draw.nd rfl (.inl rfl)) pgs_nil))))
      (Evl.pss_cut (ps_if (PW.pt (pw_and (pt_cmpR (op_neE hr.units0) (pv 2) (pe_lst pa_nil) (nomark _)) (pw_and1 (pt_cmpR op_ge (pe_ix ix_list (pv 2) pe_int (fun _ _ => rfl)) (pe_op op_pow pe_int pe_int) (nomark _)))))
        (pss_cons (ps_set (i := 4) sc_l_draw.nd rfl (.inl rfl) (pe_op op_mod (pe_ix ix_list (pv 2) pe_int (fun _ _ => rfl)) (pv 1)))
        (pss_cons (ps_asg (pe_op op_fdivW (pe_ix ix_list (pv 2) pe_int (fun _ _ => rfl)) (pv 1)) (pg_sub (pv 2) pe_int set_list))
        (pss_one (ps_ret (pv 4)))))
        pss_nil)
      (Evl.pss_cut (ps_if (pt_cmpR (op_neE hr.units0) (pv 2) (pe_lst pa_nil) (nomark _))
        (pss_one (ps_set (i := 3) sc_l_draw.nd rfl (.inl rfl) (pe_op op_mod (pe_op op_add (pv 3) (pe_bm PySem.F.plainAttrs_list PySem.F.slot_list_pop PySem.F.type_list_pop mt_popAt (pv 2) (pa_cons pe_int pa_nil))) pe_int)))
        pss_nil)
      (Evl.pss_cut (ps_asg (pe_op op_mod (pe_op op_add (pe_op op_mul (pv 3) pe_int) pe_int) pe_int) (pg_sub (pv 0) pe_int set_list))
      (Evl.pss_cut (ps_set (i := 5) sc_l_draw.nd rfl (.inl rfl) (pe_op op_mod (pe_op op_add (pe_op op_add (pe_op op_mul (pe_ix ix_list (pv 0) pe_int (fun _ _ => rfl)) (pe_ix ix_list (pv 0) pe_int (fun _ _ => rfl))) (pe_op op_mul pe_int (pe_ix ix_list (pv 0) pe_int (fun _ _ => rfl)))) pe_int) pe_int))
      (pss_one (ps_ret (pe_op op_mod (pe_op op_fdiv (pe_op op_mod (pe_op op_mul (pv 5) pe_int) pe_int) pe_int) (pv 1))))))))), ?_⟩
    refine ⟨.ref d, rfl, d, _, rfl, SqL.of hd, rfl, _, _, rfl, _, _, rfl, rfl, ?_⟩
    -- a great cell, by its digits
    refine ⟨fun σ' H3 => σ' = [some (.ref d), some (.int m), some (.ref c), some (.int st), none, none] ∧ H3 d = some (.lst [.ref c, .int st]) ∧ H3 c = some (.lst (cells.map V.int)) ∧ Kp d c H H3, ?_, ?_⟩
    · refine ⟨.ref c, rfl, Nat.zero_le _, fun p np => ?_⟩
      have hd2 := same_new (o := .lst []) np _ _ hd
      have hc2 := same_new (o := .lst []) np _ _ hc
      have k2 : Kp d c H (upd H p (.lst [])) := Kp.new np
      refine ⟨c, p, _, rfl, rfl, SqL.of hc2, SqL.of upd_same, _, rfl, ?_⟩
      generalize upd H p (.lst []) = H2 at hd2 hc2 k2
      cases hcs : cells with
      | nil =>
        subst hcs
        exact ⟨rfl, hd2, hc2, k2⟩
      | cons x xs =>
        subst hcs
        refine ⟨.ref c, rfl, c, _, 0, .int x, rfl, rfl, SqL.of hc2, at0 _ _, 10, 18, rfl, rfl, ⟨by decide, by decide, by decide⟩, x, _, rfl, rfl, _, rfl, ?_⟩
        refine ite2 (fun _ => ?_) (fun _ => ?_)
        · refine ⟨.ref c, rfl, c, _, 0, .int x, rfl, rfl, SqL.of hc2, at0 _ _, .int m, rfl, x, m, rfl, rfl, hm, ?_⟩
          refine ⟨.ref c, rfl, c, _, 0, .int x, rfl, rfl, SqL.of hc2, at0 _ _, .int m, rfl, x, m, rfl, rfl, wide_div hm hb (by decide) (by decide), .ref c, rfl, c, _, 0, 0, rfl, rfl, hc2, ix0 _, ?_⟩
          refine ⟨.int (x % m), rfl, q _ _ (mod_rng hm).1 (mod_rng hm).2 ⟨(x / m) :: xs, st, 0, ?_, ?_, ?_⟩ (k2.trans Kp.at_c)⟩
          · rw [upd_ne ndc]
            exact hd2
          · rw [upd_same]
            rfl
          · simpa using hl
        · exact ⟨rfl, hd2, hc2, k2⟩
    clear hd hc
    rintro σ' H2 ⟨rfl, hd, hc, k2⟩
    -- the state
    refine ⟨fun σ' H3 => ∃ x : Int, σ' = [some (.ref d), some (.int m), some (.ref c), some (.int x), none, none] ∧ H3 d = some (.lst [.ref c, .int st]) ∧ (∃ cs : List Int, H3 c = some (.lst (cs.map V.int)) ∧ cs.length ≤ 63) ∧ Kp d c H H3, ?_, ?_⟩
    · refine ⟨.ref c, rfl, Nat.zero_le _, fun p np => ?_⟩
      have hd2 := same_new (o := .lst []) np _ _ hd
      have hc2 := same_new (o := .lst []) np _ _ hc
      have k3 : Kp d c H (upd H2 p (.lst [])) := k2.trans (Kp.new np)
      refine ⟨c, p, _, rfl, rfl, SqL.of hc2, SqL.of upd_same, _, rfl, ?_⟩
      generalize upd H2 p (.lst []) = H3 at hd2 hc2 k3
      cases hcs : cells with
      | nil =>
        subst hcs
        exact ⟨st, rfl, hd2, ⟨[], hc2, by simp⟩, k3⟩
      | cons x xs =>
        subst hcs
        refine ⟨.int st, rfl, .ref c, rfl, .inl ⟨rfl, _, SqL.of hc2⟩, c, _, 0, 0, .int x, rfl, rfl, hc2, by decide, by decide, seqIndex_of (by decide) (by simp), rfl, _, _, rfl, rfl, _, 2147483629, rfl, rfl, show (0 : Int) < 2147483629 by decide, ?_⟩
        refine ⟨_, rfl, ?_, ⟨xs, by rw [upd_same]; rfl, by simp at hl; omega⟩, k3.trans Kp.at_c⟩
        rw [upd_ne ndc]
        exact hd2
    rintro σ' H3 ⟨x, rfl, hd3, ⟨cs, hc3, hl3⟩, k3⟩
    refine ⟨fun σ' H4 => ∃ N : Int, σ' = [some (.ref d), some (.int m), some (.ref c), some (.int x), none, none] ∧ 0 ≤ N ∧ N < 2147483647 ∧ H4 d = some (.lst [.ref c, .int N]) ∧ H4 c = some (.lst (cs.map V.int)) ∧ Kp d c H H4, ?_, ?_⟩
    · refine ⟨.int x, rfl, x, 48271, rfl, rfl, .inr ⟨by decide, by decide⟩, _, 69621, rfl, rfl, _, 2147483647, rfl, rfl, show (0 : Int) < 2147483647 by decide, .ref d, rfl, d, _, 1, 1, rfl, rfl, hd3, rfl, ?_⟩
      refine ⟨(x * 48271 + 69621) % 2147483647, rfl, (mod_rng (by decide)).1, (mod_rng (by decide)).2, ?_, ?_, k3.trans Kp.at_d⟩
      · rw [upd_same]
        rfl
      · rw [upd_ne (Ne.symm ndc)]
        exact hc3
    rintro σ' H4 ⟨N, rfl, hN0, hN1, hd4, hc4, k4⟩
    refine ⟨fun σ' H5 => ∃ M : Int, σ' = [some (.ref d), some (.int m), some (.ref c), some (.int x), none, some (.int M)] ∧ 0 ≤ M ∧ M < 2147483629 ∧ H5 = H4, ?_, ?_⟩
    · exact ⟨.ref d, rfl, d, _, 1, .int N, rfl, rfl, SqL.of hd4, rfl, .ref d, rfl, d, _, 1, .int N, rfl, rfl, SqL.of hd4, rfl, N, N, rfl, rfl, .inl ⟨by omega, by omega⟩, .ref d, rfl, d, _, 1, .int N, rfl, rfl, SqL.of hd4, rfl, 16807, N, rfl, rfl, .inl ⟨by decide, by decide⟩, _, _, rfl, rfl, _, 7, rfl, rfl, _, 2147483629, rfl, rfl, show (0 : Int) < 2147483629 by decide, _, rfl, (mod_rng (by decide)).1, (mod_rng (by decide)).2, rfl⟩
    rintro σ' H5 ⟨M, rfl, hM0, hM1, rfl⟩
    refine ⟨.int M, rfl, M, 39373, rfl, rfl, .inr ⟨by decide, by decide⟩, _, 2147483563, rfl, rfl, show (0 : Int) < 2147483563 by decide, _, 8, rfl, rfl, ⟨by decide, by decide⟩, .int m, rfl, _, m, rfl, rfl, hm, ?_⟩
    exact q _ _ (mod_rng hm).1 (mod_rng hm).2 ⟨cs, N, 0, hd4, hc4, hl3⟩ k4
/-! ### the deck is laid -/
theorem cutV_ints (ns : List Int) (lo hi : Option Int) : ∃ ms : List Int, cutV (ns.map V.int) lo hi = ms.map V.int ∧ ms.length ≤ ns.length := by
  refine ⟨(ns.drop (HT.sIx ns.length 0 lo)).take (HT.sIx ns.length ns.length hi - HT.sIx ns.length 0 lo), ?_, ?_⟩
  · unfold cutV
    rw [List.length_map, List.map_take, List.map_drop]
  · rw [List.length_take, List.length_drop]
    omega
def spDeck (K : PySem.W.Frag) : Sp := fun vs H Q _ => ∃ (a : Addr) (ns : List Int), vs = [.ref a] ∧ SqL K H a (ns.map V.int) ∧ ns.length ≤ 63 ∧
  ∀ d c H', Same H H' → H d = none → H c = none → Deck H' d c → Q (.ref d) H'
theorem ok_l_deck {f : Addr} {fd : FuncData} (F : Fun K "_law_deck" "_law_deck" s_l_deck f fd) (M : Free mg) : FnOk P w K mg base CX0 1 f fd ["_law_script"] (spDeck K) := by
  refine F.ok sc_l_deck (fun vs H Q E h => ?_) (fun cdv A outer s H vs Q E hr h => ?_)
  · obtain ⟨a, ns, rfl, _⟩ := h
    rfl
  · obtain ⟨a, ns, rfl, hS, hl, q⟩ := h
    refine ⟨_, (pss_cons (ps_set (i := 1) sc_l_deck.nd rfl (.inl rfl) (pe_lst (pa_cons (pe_callTy call_list_of (by rfl) M.list (by decide +kernel) (pa_cons (pe_slice sl_list (pv 0) po_none (po_some pe_int)) pa_nil)) (pa_cons (pe_op op_add pe_int (pe_op op_mod (pe_callB (cr_sum rfl) (by rfl) M.sum (by decide +kernel) (pa_cons (pe_slice sl_list (pv 0) po_none (po_some pe_int)) pa_nil)) pe_int)) pa_nil))))
      (pss_cons (ps_for PassesOwn.never rfl (pi_range1 (by rfl) M.range (pa_cons pe_int pa_nil)) (pg_name (i := 2) sc_l_deck.nd rfl (.inl rfl))
        (pss_one (ps_asg (pe_op op_mod (pe_op op_add (pe_op op_mul (pe_ix ix_list (pv 1) pe_int (fun _ _ => rfl)) pe_int) pe_int) pe_int) (pg_sub (pv 1) pe_int set_list))))
      (pss_one (ps_ret (pv 1))))), ?_⟩
    obtain ⟨ms, em, lm⟩ := cutV_ints ns none (some 63)
    refine ⟨.ref a, rfl, 63, rfl, a, _, rfl, hS, fun p1 n1 => ⟨p1, _, rfl, .inl (SqL.of upd_same), fun p2 n2 => ?_⟩⟩
    rw [em] at n2 ⊢
    have s1 : Same H (upd H p1 (.lst (ms.map V.int))) := same_new n1
    have s2 := s1.trans (same_new (o := .lst (ms.map V.int)) n2)
    have h2 : (upd (upd H p1 (.lst (ms.map V.int))) p2 (.lst (ms.map V.int))) p2 = some (.lst (ms.map V.int)) := upd_same
    have f2 : H p2 = none := s1.free n2
    generalize upd (upd H p1 (.lst (ms.map V.int))) p2 (.lst (ms.map V.int)) = H2 at s2 h2
    refine ⟨.ref a, rfl, 63, rfl, a, _, rfl, s2.seq hS, fun p4 n4 => ⟨p4, ms, rfl, SqL.of (by rw [upd_same, em]), _, 2147483629, rfl, rfl, show (0 : Int) < 2147483629 by decide, 48271, _, rfl, rfl, (by show 2 ≤ sizeLine; decide), fun d nd => ?_⟩⟩
    have s4 := s2.trans (same_new (o := .lst (cutV (ns.map V.int) none (some 63))) n4)
    have h4 := same_new (o := .lst (cutV (ns.map V.int) none (some 63))) n4 _ _ h2
    have ndH : H d = none := s4.free nd
    have hp2d : p2 ≠ d := ne_of_none h4 nd
    refine ⟨2, rfl, by decide, by decide, ?_⟩
    refine for_range (lo := 0) (n := 2) (fun i σ' H' => ∃ (y2 : Option V) (st : Int), σ' = [some (.ref a), some (.ref d), y2] ∧ H' d = some (.lst [.ref p2, .int st]) ∧ H' p2 = some (.lst (ms.map V.int)) ∧ Same H H') ?_ ?_ ?_
    · exact ⟨none, _, rfl, upd_same, by rw [upd_ne hp2d]; exact h4, s4.trans (same_new nd)⟩
    · rintro i σ' H5 hi ⟨y2, st, rfl, hd5, h5, s5⟩
      refine ⟨.ref d, rfl, d, _, 1, .int st, rfl, rfl, SqL.of hd5, rfl, st, 48271, rfl, rfl, .inr ⟨by decide, by decide⟩, _, 69621, rfl, rfl, _, 2147483647, rfl, rfl, show (0 : Int) < 2147483647 by decide, .ref d, rfl, d, _, 1, 1, rfl, rfl, hd5, rfl, ?_⟩
      refine ⟨_, _, rfl, by rw [upd_same]; rfl, by rw [upd_ne hp2d]; exact h5, fun b o e => ?_⟩
      rw [upd_ne (ne_of_none e ndH)]
      exact s5 b o e
    · rintro σ' H5 ⟨y2, st, rfl, hd5, h5, s5⟩
      exact ⟨.ref d, rfl, q d p2 H5 s5 ndH f2 ⟨ms, st, 0, hd5, h5, by omega⟩⟩
/-! ### webs -/
structure Tie where
  one : Int
  other : Int
  foe : Bool
def kindS : Bool → Str
  | true => "foe"
  | false => "friend"
def TieV (H : Hp) (v : V) (t : Tie) : Prop := ∃ a, v = .ref a ∧ H a = some (.tup [.int t.one, .int t.other, .str (kindS t.foe)])
def TieOk (n : Int) (t : Tie) : Prop := 0 ≤ t.one ∧ t.one < n ∧ 0 ≤ t.other ∧ t.other < n ∧ t.one ≠ t.other
def WebAt (H : Hp) (v : V) (n : Int) (ts : List Tie) : Prop := ∃ a b vs, v = .ref a ∧ H a = some (.tup [.int n, .ref b]) ∧ H b = some (.tup vs) ∧ Paired (TieV H) vs ts
structure WebOk (n : Int) (ts : List Tie) : Prop where
  lo : 1 ≤ n
  hi : n ≤ 40
  few : ts.length ≤ 120
  ok : ∀ t ∈ ts, TieOk n t
/-- tuples stay -/
def Tk (H H' : Hp) : Prop := ∀ b xs, H b = some (.tup xs) → H' b = some (.tup xs)
theorem Tk.trans {H H1 H2 : Hp} (a : Tk H H1) (b : Tk H1 H2) : Tk H H2 := fun x xs h => b x xs (a x xs h)
theorem Same.tk {H H' : Hp} (s : Same H H') : Tk H H' := fun b xs h => s b _ h
theorem tk_lst {H : Hp} {l : Addr} {xs ys : List V} (h : H l = some (.lst xs)) : Tk H (upd H l (.lst ys)) := fun b zs e => by
  rw [upd_ne (ne_of e h (by intro z; cases z))]
  exact e
theorem TieV.tk {H H' : Hp} (k : Tk H H') {v : V} {t : Tie} (h : TieV H v t) : TieV H' v t := by
  obtain ⟨a, rfl, e⟩ := h
  exact ⟨a, rfl, k _ _ e⟩
theorem ties_tk {H H' : Hp} (k : Tk H H') {vs : List V} {ts : List Tie} (h : Paired (TieV H) vs ts) : Paired (TieV H') vs ts := Paired.mono (fun _ _ x => x.tk k) h
theorem WebAt.tk {H H' : Hp} (k : Tk H H') {v : V} {n : Int} {ts : List Tie} (h : WebAt H v n ts) : WebAt H' v n ts := by
  obtain ⟨a, b, vs, rfl, h1, h2, h3⟩ := h
  exact ⟨a, b, vs, rfl, k _ _ h1, k _ _ h2, ties_tk k h3⟩
theorem Kp.tk {d c : Addr} {H H' : Hp} (k : Kp d c H H') (D : Deck H d c) : Tk H H' := fun b xs e => by
  obtain ⟨cells, st, n, h1, h2, _⟩ := D
  exact k b _ (ne_of e h1 (by intro z; cases z)) (ne_of e h2 (by intro z; cases z)) e
theorem Kp.mut {d c l : Addr} {H H' : Hp} {o : HO} (k : Kp d c H H') (h : H l = none) : Kp d c H (upd H' l o) := fun b u h1 h2 e => by
  rw [upd_ne (ne_of_none e h)]
  exact k b u h1 h2 e
theorem Deck.mut {H : Hp} {d c l : Addr} {o : HO} (D : Deck H d c) (h1 : l ≠ d) (h2 : l ≠ c) : Deck (upd H l o) d c := by
  obtain ⟨cells, st, n, e1, e2, e3⟩ := D
  exact ⟨cells, st, n, by rw [upd_ne (Ne.symm h1)]; exact e1, by rw [upd_ne (Ne.symm h2)]; exact e2, e3⟩
theorem Deck.new {H : Hp} {d c l : Addr} {o : HO} (D : Deck H d c) (h : H l = none) : Deck (upd H l o) d c := D.same (same_new h)
theorem Deck.ned {H : Hp} {d c l : Addr} (D : Deck H d c) (h : H l = none) : l ≠ d ∧ l ≠ c := by
  obtain ⟨cells, st, n, e1, e2, e3⟩ := D
  exact ⟨(ne_of_none e1 h).symm, (ne_of_none e2 h).symm⟩
theorem Paired.at {α β : Type} {F : α → β → Prop} : ∀ {l : List α} {m : List β} {i : Nat} {a : α}, Paired F l m → l[i]? = some a → ∃ b, m[i]? = some b ∧ F a b
  | _, _, _, _, .nil, e => by simp at e
  | _, _, 0, _, .cons r _, e => by simp at e; subst e; exact ⟨_, rfl, r⟩
  | _, _, i + 1, a, .cons _ t, e => by
    obtain ⟨u, h1, h2⟩ := Paired.at (i := i) (a := a) t (by simpa using e)
    exact ⟨u, by simpa using h1, h2⟩
theorem Paired.at' {α β : Type} {F : α → β → Prop} : ∀ {l : List α} {m : List β} {i : Nat} {b : β}, Paired F l m → m[i]? = some b → ∃ a, l[i]? = some a ∧ F a b
  | _, _, _, _, .nil, e => by simp at e
  | _, _, 0, _, .cons r _, e => by simp at e; subst e; exact ⟨_, rfl, r⟩
  | _, _, i + 1, b, .cons _ t, e => by
    obtain ⟨u, h1, h2⟩ := Paired.at' (i := i) (b := b) t (by simpa using e)
    exact ⟨u, by simpa using h1, h2⟩
theorem getI {α : Type} {xs : List α} {i : Int} (h0 : 0 ≤ i) (h1 : i < (xs.length : Int)) : ∃ v, atI xs i = some v ∧ xs[i.toNat]? = some v := by
  obtain ⟨j, rfl⟩ : ∃ j : Nat, i = (j : Int) := ⟨i.toNat, by omega⟩
  have h2 : j < xs.length := by omega
  exact ⟨xs[j], atI_nat (List.getElem?_eq_getElem h2), by rw [Int.toNat_natCast]; exact List.getElem?_eq_getElem h2⟩
theorem other_ne {n a b : Int} (h0 : 0 ≤ a) (h1 : a < n) (g0 : 0 ≤ b) (g1 : b < n - 1) : a ≠ (a + 1 + b) % n := by
  by_cases h : a + 1 + b < n
  · rw [Int.emod_eq_of_lt (by omega) h]
    omega
  · have e : a + 1 + b = (a + 1 + b - n) + 1 * n := by omega
    rw [e, Int.add_mul_emod_self_right, Int.emod_eq_of_lt (by omega) (by omega)]
    omega
theorem pick2 {α : Type} (a b : α) (k : Bool) : atI [a, b] (if k then 1 else 0) = some (if k then b else a) := by
  cases k <;> rfl
def spWeb : Sp := fun vs H Q _ => ∃ (d c : Addr), vs = [.ref d] ∧ Deck H d c ∧
  ∀ v n ts H', WebAt H' v n ts → WebOk n ts → Deck H' d c → Kp d c H H' → Q v H'
end
/-! ### tuples cut and put together -/
section
variable {X : Cx}
theorem cutV_whole {xs : List V} {lo hi : Option Int} (h : HT.sIx xs.length 0 lo = 0 ∧ HT.sIx xs.length xs.length hi = xs.length) : cutV xs lo hi = xs := by
  unfold cutV
  rw [h.1, h.2]
  simp
def rSlU : V → Option Int → Option Int → Hp → VK → Prop := fun x lo hi H Q => ∃ a xs, x = .ref a ∧ H a = some (.tup xs) ∧ ∀ r H', Same H H' → H' r = some (.tup (cutV xs lo hi)) → Q (.ref r) H'
theorem sl_tupU : SlR X rSlU := by
  intro pins s σ H x v vl vu lo hi sl Q I rx hs pl pu h
  obtain ⟨a, xs, rfl, hx, q⟩ := h
  refine sl_tupA pins s σ H _ v vl vu lo hi sl Q I rx hs pl pu ⟨a, xs, rfl, SqT.of hx, fun hw => ?_, fun _ p np => ?_⟩
  · exact q a H (Same.refl H) (by rw [cutV_whole hw]; exact hx)
  · exact q p _ (same_new np) upd_same
def rCatU : R2 := fun x y H Q => ∃ a b xs ys, x = .ref a ∧ y = .ref b ∧ H a = some (.tup xs) ∧ H b = some (.tup ys) ∧ xs.length + ys.length ≤ 100000 ∧ ∀ r H', Same H H' → H' r = some (.tup (xs ++ ys)) → Q (.ref r) H'
theorem op_catU : OpR X (binaryOp .Add) rCatU := by
  intro pins s σ H x y v u Q I rx ry h
  obtain ⟨a, b, xs, ys, rfl, rfl, ha, hb, hz, q⟩ := h
  refine op_catA pins s σ H _ _ v u Q I rx ry ⟨a, b, xs, ys, rfl, rfl, SqT.of ha, SqT.of hb, Evl.sz_of hz, fun e => ?_, fun _ e => ?_, fun _ _ p np => ?_⟩
  · subst e
    exact q b H (Same.refl H) hb
  · subst e
    exact q a H (Same.refl H) (by rw [List.append_nil]; exact ha)
  · exact q p _ (same_new np) upd_same
end
/-! ### things of any kind -/
/-- its kind is known -/
def Kn (H : Hp) : V → Prop
  | .non => True
  | .bl _ => True
  | .int _ => True
  | .str _ => True
  | .ref a => (∃ xs, H a = some (.lst xs)) ∨ (∃ xs, H a = some (.tup xs)) ∨ ∃ kvs, H a = some (.dK kvs)
  | _ => False
def isI : V → Bool
  | .int _ => true
  | .bl _ => true
  | _ => false
def isB : V → Bool
  | .bl _ => true
  | _ => false
def isW : V → Bool
  | .int _ => true
  | _ => false
def isT (H : Hp) : V → Bool
  | .ref a => match H a with
    | some (.tup _) => true
    | _ => false
  | _ => false
section
variable {K : PySem.W.Frag} {H : Hp}
theorem kn_int {v : V} (h : Kn H v) : ∃ t, TyX K H v t ∧ PySem.W.kitOne K t (.type "int") = some (isI v) := by
  cases v with
  | non => exact ⟨_, .base .non, kit_ty (r := false) (by decide +kernel)⟩
  | bl b => exact ⟨_, .base (.bl b), kit_ty (r := true) (by decide +kernel)⟩
  | int i => exact ⟨_, .base (.int i), kit_ty (r := true) (by decide +kernel)⟩
  | str x => exact ⟨_, .base (.str x), kit_ty (r := false) (by decide +kernel)⟩
  | ref a =>
    rcases h with ⟨xs, h⟩ | ⟨xs, h⟩ | ⟨xs, h⟩
    · exact ⟨_, .base (.lst h), kit_ty (r := false) (by decide +kernel)⟩
    · exact ⟨_, .base (.tup h), kit_ty (r := false) (by decide +kernel)⟩
    · exact ⟨_, .base (.dK h), kit_ty (r := false) (by decide +kernel)⟩
  | byt b => exact h.elim
  | flt b => exact h.elim
  | ty n => exact h.elim
theorem kn_bool {v : V} (h : Kn H v) : ∃ t, TyX K H v t ∧ PySem.W.kitOne K t (.type "bool") = some (isB v) := by
  cases v with
  | non => exact ⟨_, .base .non, kit_ty (r := false) (by decide +kernel)⟩
  | bl b => exact ⟨_, .base (.bl b), kit_ty (r := true) (by decide +kernel)⟩
  | int i => exact ⟨_, .base (.int i), kit_ty (r := false) (by decide +kernel)⟩
  | str x => exact ⟨_, .base (.str x), kit_ty (r := false) (by decide +kernel)⟩
  | ref a =>
    rcases h with ⟨xs, h⟩ | ⟨xs, h⟩ | ⟨xs, h⟩
    · exact ⟨_, .base (.lst h), kit_ty (r := false) (by decide +kernel)⟩
    · exact ⟨_, .base (.tup h), kit_ty (r := false) (by decide +kernel)⟩
    · exact ⟨_, .base (.dK h), kit_ty (r := false) (by decide +kernel)⟩
  | byt b => exact h.elim
  | flt b => exact h.elim
  | ty n => exact h.elim
theorem kn_tup {v : V} (h : Kn H v) : ∃ t, TyX K H v t ∧ PySem.W.kitOne K t (.type "tuple") = some (isT H v) := by
  cases v with
  | non => exact ⟨_, .base .non, kit_ty (r := false) (by decide +kernel)⟩
  | bl b => exact ⟨_, .base (.bl b), kit_ty (r := false) (by decide +kernel)⟩
  | int i => exact ⟨_, .base (.int i), kit_ty (r := false) (by decide +kernel)⟩
  | str x => exact ⟨_, .base (.str x), kit_ty (r := false) (by decide +kernel)⟩
  | ref a =>
    unfold isT
    rcases h with ⟨xs, h⟩ | ⟨xs, h⟩ | ⟨xs, h⟩
    · exact ⟨_, .base (.lst h), by simp only [h]; exact kit_ty (r := false) (by decide +kernel)⟩
    · exact ⟨_, .base (.tup h), by simp only [h]; exact kit_ty (r := true) (by decide +kernel)⟩
    · exact ⟨_, .base (.dK h), by simp only [h]; exact kit_ty (r := false) (by decide +kernel)⟩
  | byt b => exact h.elim
  | flt b => exact h.elim
  | ty n => exact h.elim
theorem isT_at {v : V} (h : isT H v = true) : ∃ a xs, v = .ref a ∧ H a = some (.tup xs) := by
  cases v with
  | ref a =>
    unfold isT at h
    cases e : H a with
    | none => simp only [e] at h; cases h
    | some o =>
      cases o with
      | tup xs => exact ⟨a, xs, rfl, e⟩
      | _ => simp only [e] at h; cases h
  | _ => cases h
theorem isT_of {a : Addr} {xs : List V} (h : H a = some (.tup xs)) : isT H (.ref a) = true := by
  unfold isT
  simp only [h]
end
section
variable {P : Program} {w : World} {K : PySem.W.Frag} {mg : Str → Option Value} {base : Heap}
def spWhole : Sp := fun vs H Q _ => ∃ v, vs = [v] ∧ Kn H v ∧ Q (.bl (isW v)) H
theorem and_whole {v : V} : (isI v && !isB v) = isW v := by cases v <;> rfl
theorem ok_is_whole {f : Addr} {fd : FuncData} (F : Fun K "is_whole" "is_whole" s_is_whole f fd) (M : Free mg) : FnOk P w K mg base CX0 1 f fd ["thing"] spWhole := by
  refine F.ok sc_is_whole (fun vs H Q E h => ?_) (fun cdv A outer s H vs Q E hr h => ?_)
  · obtain ⟨v, rfl, _⟩ := h
    rfl
  · obtain ⟨v, rfl, hk, q⟩ := h
    refine ⟨_, (pss_one (ps_ret (pe_and (pe_callB call_isi (by rfl) M.isinstance (by decide +kernel) (pa_cons (pv 0) (pa_cons (pe_bltn (v := .ty "int") (by rfl) M.int (by decide +kernel) rfl) pa_nil))) (pe_one (pe_not (pe_callB call_isi (by rfl) M.isinstance (by decide +kernel) (pa_cons (pv 0) (pa_cons (pe_bltn (v := .ty "bool") (by rfl) M.bool (by decide +kernel) rfl) pa_nil)))))))), ?_⟩
    obtain ⟨t1, h1, e1⟩ := kn_int (K := K) hk
    obtain ⟨t2, h2, e2⟩ := kn_bool (K := K) hk
    refine ⟨v, rfl, v, _, t1, _, _, rfl, .ty "int", h1, e1, _, rfl, ?_⟩
    rw [← and_whole] at q
    cases hi : isI v with
    | false =>
      rw [hi] at q
      exact q
    | true =>
      rw [hi] at q
      exact ⟨v, rfl, v, _, t2, _, _, rfl, .ty "bool", h2, e2, _, rfl, q⟩
def wfrom (lo : Int) : V → Bool
  | .int i => decide (lo ≤ i)
  | _ => false
def parts (H : Hp) : V → Option (List V)
  | .ref a => match H a with
    | some (.tup xs) => some xs
    | _ => none
  | _ => none
theorem parts_of' {H : Hp} {a : Addr} {xs : List V} (h : H a = some (.tup xs)) : parts H (.ref a) = some xs := by
  unfold parts
  simp only [h]
theorem parts_none {H : Hp} {v : V} (h : isT H v = false) : parts H v = none := by
  cases v with
  | ref a =>
    unfold isT at h
    unfold parts
    cases e : H a with
    | none => simp only [e]
    | some o =>
      cases o with
      | tup xs => simp only [e] at h; cases h
      | _ => simp only [e]
  | _ => rfl
def lenIs (H : Hp) (v : V) (n : Int) : Bool := match parts H v with
  | some xs => decide ((xs.length : Int) = n)
  | none => false
def spTupleOf : Sp := fun vs H Q _ => ∃ n v, vs = [.int n, v] ∧ Kn H v ∧ Q (.bl (lenIs H v n)) H
theorem dec_int (a b : Int) : decide (V.int a = V.int b) = decide (a = b) := by
  by_cases h : a = b
  · rw [decide_eq_true h, h, decide_eq_true rfl]
  · rw [decide_eq_false h, decide_eq_false (fun z => h (V.int.inj z))]
theorem ok_is_tuple_of {f : Addr} {fd : FuncData} (F : Fun K "is_tuple_of" "is_tuple_of" s_is_tuple_of f fd) (M : Free mg) : FnOk P w K mg base CX0 1 f fd ["length", "thing"] spTupleOf := by
  refine F.ok sc_is_tuple_of (fun vs H Q E h => ?_) (fun cdv A outer s H vs Q E hr h => ?_)
  · obtain ⟨n, v, rfl, _⟩ := h
    rfl
  · obtain ⟨n, v, rfl, hk, q⟩ := h
    refine ⟨_, (pss_one (ps_ret (pe_and (pe_callB call_isi (by rfl) M.isinstance (by decide +kernel) (pa_cons (pv 1) (pa_cons (pe_bltn (v := .ty "tuple") (by rfl) M.tuple (by decide +kernel) rfl) pa_nil))) (pe_one (pe_cmpR op_eq (pe_callB call_len_seq (by rfl) M.len PySem.boot_len (pa_cons (pv 1) pa_nil)) (pv 0) (nomark _)))))), ?_⟩
    obtain ⟨t1, h1, e1⟩ := kn_tup (K := K) hk
    refine ⟨v, rfl, v, _, t1, _, _, rfl, .ty "tuple", h1, e1, _, rfl, ?_⟩
    unfold lenIs at q
    cases hi : isT H v with
    | false =>
      rw [parts_none hi] at q
      exact q
    | true =>
      obtain ⟨a, xs, rfl, e⟩ := isT_at hi
      rw [parts_of' e] at q
      refine ⟨.ref a, rfl, a, xs, rfl, .inr (SqT.of e), .int n, rfl, rfl, ?_⟩
      rw [dec_int]
      exact q
/-! ### a def whose code object stands at c: its own table is at Pt -/
structure FunC (K : PySem.W.Frag) (x qual : Str) (st : Stmt) (f : Addr) (fd : FuncData) (c : Addr) : Prop where
  ex : ∃ (oc : Value) (od : Option Addr) (kV doc pm : Value) (an : Option Addr) (ct : Value) (osl : Array (Option Value)),
    fd = PySem.W.fnOf x qual (defArgs st) (defBody st) (defScope st) .none kV doc pm an (.ref c) ct ∧ K.lookup f = some ⟨oc, od, .func fd, osl⟩ ∧ PySem.W.codeIn K (.ref c) qual = true
  kp : PySem.W.keepIn K (.ref f) = true
theorem FunC.ok {x qual : Str} {st : Stmt} {f c : Addr} {fd : FuncData} {N ps : List Str} {k : Nat} {sp : Sp} (F : FunC K x qual st f fd c) (S : FnScope N ps (defScope st)) (len : ∀ vs H Q E, sp vs H Q E → vs.length = ps.length)
    (hbody : ∀ (A : Around) (outer : List Env) (s : Shared) (H : Hp) (vs : List V) (Q : VK) (E : XK), Room k (A.deeper (envOfC qual (defScope st) s.heap.objs.size f (.ref c))) → sp vs H Q E →
      ∃ t, PSs (cxOf CX0 P w K mg base N qual (defScope st) f (.ref c) A outer s H E).nox (defBody st) t ∧ t { nx := fun _ H' => Q .non H', rt := Q } (start N vs) H) : FnOk P w K mg base CX0 (k + 1) f fd ps sp := by
  obtain ⟨oc, od, kV, doc, pm, an, ct, osl, rfl, lk, hcd⟩ := F.ex
  refine fn_of lk hcd S len fun A outer s H vs Q E hr hsp => ?_
  obtain ⟨t, h, q⟩ := hbody A outer s H vs Q E hr hsp
  exact ⟨t, h.nox, q⟩
theorem FunC.fn {x qual : Str} {st : Stmt} {f c : Addr} {fd : FuncData} (F : FunC K x qual st f fd c) : Fun K x qual st f fd := by
  obtain ⟨oc, od, kV, doc, pm, an, ct, osl, rfl, lk, hcd⟩ := F.ex
  exact ⟨⟨oc, od, kV, doc, pm, an, _, ct, osl, rfl, lk, hcd⟩, F.kp⟩
theorem parts_at {H : Hp} {v : V} {xs : List V} (h : parts H v = some xs) : ∃ a, v = .ref a ∧ H a = some (.tup xs) := by
  cases v with
  | ref a =>
    unfold parts at h
    cases e : H a with
    | none => simp only [e] at h; cases h
    | some o =>
      cases o with
      | tup ys => simp only [e] at h; cases h; exact ⟨a, rfl, e⟩
      | _ => simp only [e] at h; cases h
  | _ => cases h
end
/-! ### all but the tables is kept -/
structure Kt (Ps : List Addr) (H H' : Hp) : Prop where
  tab : ∀ P ∈ Ps, GxR.TabG H' P
  keep : ∀ b o, b ∉ Ps → H b = some o → H' b = some o
def Tabs (Ps : List Addr) (H : Hp) : Prop := ∀ P ∈ Ps, GxR.TabG H P
theorem Kt.refl {Ps : List Addr} {H : Hp} (h : Tabs Ps H) : Kt Ps H H := ⟨h, fun _ _ _ e => e⟩
theorem Kt.trans {Ps : List Addr} {H H1 H2 : Hp} (a : Kt Ps H H1) (b : Kt Ps H1 H2) : Kt Ps H H2 := ⟨b.tab, fun x o h e => b.keep x o h (a.keep x o h e)⟩
theorem Kt.same {Ps : List Addr} {H H' : Hp} (h : Tabs Ps H) (s : Same H H') : Kt Ps H H' := ⟨fun P hP => by obtain ⟨ps, e, t⟩ := h P hP; exact ⟨ps, s _ _ e, t⟩, fun b o _ e => s b o e⟩
theorem Kt.tabbed {Ps : List Addr} {P : Addr} {H H' : Hp} (h : Tabs Ps H) (hP : P ∈ Ps) (t : GxR.Tabbed P H H') : Kt Ps H H' := by
  refine ⟨fun Q hQ => ?_, fun b o hb e => ?_⟩
  · by_cases e : Q = P
    · rw [e]
      exact t.1
    · obtain ⟨ps, e1, t1⟩ := h Q hQ
      exact ⟨ps, by rw [t.2 Q e]; exact e1, t1⟩
  · rw [t.2 b (fun z => hb (by rw [z]; exact hP))]
    exact e
theorem Tabs.out {Ps : List Addr} {H : Hp} {a : Addr} {o : HO} (t : Tabs Ps H) (h : H a = some o) (no : ∀ ps, o ≠ .tbl ps) : a ∉ Ps := fun z => by
  obtain ⟨ps, e, _⟩ := t a z
  rw [e] at h
  cases h
  exact no _ rfl
theorem Kt.tup {Ps : List Addr} {a : Addr} {H H' : Hp} {xs : List V} (k : Kt Ps H H') (t : Tabs Ps H) (h : H a = some (.tup xs)) : H' a = some (.tup xs) := k.keep a _ (t.out h fun _ z => by cases z) h
theorem Kt.lst {Ps : List Addr} {a : Addr} {H H' : Hp} {xs : List V} (k : Kt Ps H H') (t : Tabs Ps H) (h : H a = some (.lst xs)) : H' a = some (.lst xs) := k.keep a _ (t.out h fun _ z => by cases z) h
theorem Kt.dct {Ps : List Addr} {a : Addr} {H H' : Hp} {xs : List (Key × V)} (k : Kt Ps H H') (t : Tabs Ps H) (h : H a = some (.dK xs)) : H' a = some (.dK xs) := k.keep a _ (t.out h fun _ z => by cases z) h
theorem Kt.tk {Ps : List Addr} {H H' : Hp} (k : Kt Ps H H') (t : Tabs Ps H) : Tk H H' := fun _ _ e => k.tup t e
theorem Kt.kn {Ps : List Addr} {H H' : Hp} (k : Kt Ps H H') (t : Tabs Ps H) {v : V} (h : Kn H v) : Kn H' v := by
  cases v with
  | ref a =>
    rcases h with ⟨xs, h⟩ | ⟨xs, h⟩ | ⟨xs, h⟩
    · exact .inl ⟨xs, k.lst t h⟩
    · exact .inr (.inl ⟨xs, k.tup t h⟩)
    · exact .inr (.inr ⟨xs, k.dct t h⟩)
  | _ => exact h
theorem Kt.deck {Ps : List Addr} {d c : Addr} {H H' : Hp} (k : Kt Ps H H') (t : Tabs Ps H) (D : Deck H d c) : Deck H' d c := by
  obtain ⟨cells, st, n, e1, e2, e3⟩ := D
  exact ⟨cells, st, n, k.lst t e1, k.lst t e2, e3⟩
/-! ### x in t of data of any depth -/
def rInT (K : PySem.W.Frag) : R2 := fun x y H Q => ∃ d ds, Dp K H x d ∧ Dp K H y (.tuple ds) ∧ SeqAt.shaped d = true ∧ SeqAt.shaped (.tuple ds) = true ∧ Q (.bl (ds.any fun z => PyData.eqv z d)) H
theorem op_inTup {X : Cx} (hu : X.A.units + 65 < cLine) : OpR X (compareOp .In) (rInT X.K) := by
  intro pins s σ H x y v u Q I rx ry want
  obtain ⟨d, ds, hd, he, sd, se, q⟩ := want
  obtain ⟨as, r1⟩ := Dp.reads I d x v hd rx
  obtain ⟨bs, r2⟩ := Dp.reads I (.tuple ds) y u he ry
  have lay : PyData.canLayAll0 ds = true := by
    have z := SeqAt.canLay_of_shaped se
    rw [PyData.canLay0] at z
    exact z
  have deep := SeqAt.depth_of_shaped sd
  exact SeqAt.in_tuple_reads r2 r1 lay (SeqAt.canLay_of_shaped sd) (by omega) ⟨.bl _, H, I, rfl, q⟩
/-! ### defs below which no repr is under way: repr has a reading there -/
section
variable {P : Program} {w : World} {K : PySem.W.Frag} {mg : Str → Option Value} {base : Heap}
structure FnG (P : Program) (w : World) (K : PySem.W.Frag) (mg : Str → Option Value) (base : Heap) (k : Nat) (f : Addr) (fd : FuncData) (ps : List Str) (sp : Sp) : Prop where
  cnt : ∀ vs H Q E, sp vs H Q E → vs.length = ps.length
  go : ∀ (B : PySem.Around) (out : List Env) (z : Shared) (H : Hp) (ar : Args) (us : List Value) (vs : List V) (Q : VK) (E : XK), B.guards = some [] → Room k B → Env0 P w K mg base B out z H → BindsTo z fd ar (ps.zip us) → Vals vs us → sp vs H Q E → codeAny (model P w) B (.call (.ref f) ar) (CR CX0 out P w H z Q E) z
theorem FnG.of {k : Nat} {f : Addr} {fd : FuncData} {ps : List Str} {sp : Sp} (F : FnOk P w K mg base CX0 k f fd ps sp) : FnG P w K mg base k f fd ps sp :=
  ⟨F.len, fun B out z H ar us vs Q E _ => F.run B out z H ar us vs Q E⟩
/-- a def of the text, by its body -/
theorem okG {x qual : Str} {st : Stmt} {f : Addr} {fd : FuncData} {N ps : List Str} {k : Nat} {sp : Sp} (F : Fun K x qual st f fd) (S : FnScope N ps (defScope st)) (cnt : ∀ vs H Q E, sp vs H Q E → vs.length = ps.length)
    (hb : ∀ (cd : Value) (B : PySem.Around) (out : List Env) (z : Shared) (H : Hp) (vs : List V) (Q : VK) (E : XK), (B.deeper (envOfC qual (defScope st) z.heap.objs.size f cd)).guards = some [] → Room k (B.deeper (envOfC qual (defScope st) z.heap.objs.size f cd)) → sp vs H Q E →
      ∃ t, PSs (cxOf CX0 P w K mg base N qual (defScope st) f cd B out z H E).nox (defBody st) t ∧ t { nx := fun _ H' => Q .non H', rt := Q } (start N vs) H) : FnG P w K mg base (k + 1) f fd ps sp := by
  obtain ⟨o1, o2, o3, o4, o5, o6, cd, o8, o9, rfl, look, code⟩ := F.ex
  refine ⟨cnt, fun B out z H ar us vs Q E hg room e0 bind rel want => ?_⟩
  have kept : ∀ b o, base.get? b = some o → z.heap.get? b = some o := fun b o e => (e0.bs b o e).1
  have KZ : K.In z.heap := e0.mod.kin.keeps kept
  refine codeAny_call_function room.depth (KZ _ _ look) rfl S.co S.gen rfl (PySem.W.codeRec_of KZ code) (bind _ _ _ _ ?_)
  refine wpAny_newFunctionEnv_cells S.kind (fun y hy => (S.par y.1 (List.of_mem_zip hy).1).imp id fun c => ⟨c, PySem.W.cellsFrom_some _ _ _ (.inl c)⟩) fun env he z1 new => ?_
  subst he
  refine ⟨(e0.mod.nolimit.keeps kept).keeps new.toInCall.keep, codeAny_func ?_⟩
  obtain ⟨t, ht, hq⟩ := hb cd B out z H vs Q E hg (room.deeper _) want
  refine wpAny_mono (ht.nox.run [] z1 (start N vs) H _ (inv_start S room.hd e0 (cnt _ _ _ _ want) rel new) hq) (fun g z2 end_ => ?_) fun _ _ h => h
  cases g with
  | brk => exact end_.elim fun _ h => h.elim fun _ h => h.2.elim
  | cont => exact end_.elim fun _ h => h.elim fun _ h => h.2.elim
  | ret u =>
    obtain ⟨v, σ2, H2, J, rv, q⟩ := end_
    exact ⟨v, H2, J.os, J.bare, J.base, J.hok, rv, q⟩
  | next =>
    obtain ⟨σ2, H2, J, q⟩ := end_
    exact ⟨.non, H2, J.os, J.bare, J.base, J.hok, rfl, q⟩
end
section
variable {X : Cx} {k : Nat} {f : Addr} {fd : FuncData} {ps : List Str} {sp : Sp} {x : Str} {p pos : Pos} {e : Expr} {es : List Expr} {t : TA}
/-- the call of such a def -/
theorem pe_callG (F : FnG X.prog X.w X.K X.mg X.base k f fd ps sp) (hG : X.A.guards = some []) (hr : Room k X.A) (hg : Gl X x) (hm : X.mg x = some (.ref f)) (hk : PySem.W.keepIn X.K (.ref f) = true) (hb : Binds X.K fd ps [])
    (ha : PA X (e :: es) t) (h1 : (x == ("__debug__" : Str)) = false := by decide) (h2 : starEach (e :: es) X.env = (false, eval e X.env) :: starEach es X.env := by rfl) (h3 : (backTo pos (starEach es X.env)).any (·.1) = false := by rfl) :
    PE X (.Call (.Name x p) (e :: es) [] pos) (tCall sp [] E0 t) := by
  refine ⟨fun pins z σ H Q I want => wpAny_Call_Name_kw (ld_glob I hg hm (PySem.W.callWith_K (h₀ := X.base) I.ok.mod.kin hk (thn (ha.run pos pins z σ H _ I want) fun us z1 got => ?_) h2 h3) h1)⟩
  obtain ⟨vs, H1, J, rel, q⟩ := got
  have q1 : sp vs H1 Q E0 := by rw [← List.append_nil vs]; exact q
  have bd := hb z1 us J.kIn (by rw [List.append_nil, ← rel.length]; exact F.cnt _ _ _ _ q1)
  rw [List.append_nil] at bd
  refine ⟨J.kIn, wpAny_call (codeAny_mono (F.go X.A X.stack z1 H1 ⟨us, []⟩ us vs Q E0 hG hr J.env0 bd rel q1) fun r z2 fin => ?_)⟩
  match r, fin with
  | .ok (.ret u), fin => exact J.after fin
  | .ok .next, fin => exact False.elim fin
  | .ok .brk, fin => exact False.elim fin
  | .ok .cont, fin => exact False.elim fin
  | .error _, fin => exact False.elim fin
/-- repr of a list or tuple of plain things -/
def rRepr (K : PySem.W.Frag) : List V → Hp → VK → Prop := fun xs H Q => ∃ (a : Addr) (d : PyData), xs = [.ref a] ∧ Dp K H (.ref a) d ∧ d.showable = true ∧ d.hasDict = false ∧ d.depth ≤ 60 ∧ d.shown.length ≤ sizeLine ∧ Q (.str d.shown) H
theorem call_reprD (hG : X.A.guards = some []) (hu : X.A.units + 64 < cLine) : CallR X (.builtin "repr") (rRepr X.K) := by
  intro pins z σ H xs us Q I rel want
  obtain ⟨a, d, ex, hd, h1, h2, h3, h4, q⟩ := want
  subst ex
  obtain ⟨u, eu, rx⟩ := vals1 rel
  subst eu
  obtain ⟨as, rd⟩ := Dp.reads I d (.ref a) u hd rx
  obtain rfl : u = Value.ref a := rx
  exact repr_of_reads' rd h1 (fun h => by rw [h2] at h; cases h) hG (by omega) (fun _ _ h => h) (fun h' t tk kp => ⟨.str d.shown, H, I.kept kp, ⟨t, rfl⟩, q⟩) h4
end
section
variable {P : Program} {w : World} {K : PySem.W.Frag} {mg : Str → Option Value} {base : Heap}
def DfG (P : Program) (w : World) (K : PySem.W.Frag) (mg : Str → Option Value) (base : Heap) (k : Nat) (x : Str) (ps : List Str) (sp : Sp) : Prop :=
  ∃ (f : Addr) (fd : FuncData), FnG P w K mg base k f fd ps sp ∧ mg x = some (.ref f) ∧ PySem.W.keepIn K (.ref f) = true ∧ Binds K fd ps []
theorem DfG.of {x : Str} {st : Stmt} {f : Addr} {fd : FuncData} {k : Nat} {ps : List Str} {sp : Sp} (g : mg x = some (.ref f)) (F : Fun K x x st f fd) (G : FnG P w K mg base k f fd ps sp)
    (h : ∀ (kV doc pm : Value) (an : Option Addr) (cdv ct : Value) (us : List Value), us.length = ps.length → bindArgs (PySem.W.fnOf x x (defArgs st) (defBody st) (defScope st) .none kV doc pm an cdv ct) ⟨us, []⟩ = pure (ps.zip us)) : DfG P w K mg base k x ps sp :=
  ⟨f, fd, G, g, F.kp, F.binds h⟩
end
/-! ### the end of a law that asks for repr: the caller of the law has none under way -/
/-- the script alone may be tracked, and it stays -/
def Lone (H : Hp) (a : Addr) : Prop := ∀ b u, H b = some u → b = a ∧ ∃ o xs, u = .frz o (.lst xs)
def GoesG (P : Program) (w : World) (K : PySem.W.Frag) (mg : Str → Option Value) (k : Nat) (fa : Addr) (x : Str) (n : Nat) : Prop :=
  ∃ (fd : FuncData) (sp : Sp), (∀ (z : Shared) (u : Value), BindsTo z fd ⟨[u], []⟩ [(x, u)]) ∧ (∀ (H : Hp) (a : Addr) (ns : List Int), ns.length ≤ n → SqL K H a (ns.map V.int) → sp [.ref a] H (fun v _ => v = .bl true) fun _ _ _ => False) ∧
    ∀ base : Heap, K.In base → base.Ns mainGlobals mg → FnG P w K mg base k fa fd [x] sp
theorem law_goes {P : Program} {w : World} {K : PySem.W.Frag} {mg mb : Str → Option Value} {k n : Nat} {fa a : Addr} {x : Str} {z : Shared} {vs : List Value} {ns : List Int} (KZ : K.In z.heap) (hmg : z.heap.Ns mainGlobals mg) (hmb : z.heap.Ns builtinsNs mb)
    (hboot : ∀ x : Str, x ≠ "__name__" → mb x = bootBuiltins x) (nolim : z.heap.NoLimit) (nogen : z.gens = #[]) (hscr : z.heap.get? a = some { cls := .type "list", data := .seq vs.toArray }) (hni : IntsAre vs ns) (small : ns.length ≤ sizeLine) (hn : ns.length ≤ n) (room : Room k callerA)
    (G : GoesG P w K mg k fa x n) : codeAny (model P w) callerA (.call (.ref fa) ⟨[.ref a], []⟩) (fun r z' => r = .ok (.ret (.bool true)) ∧ OldK z.heap z'.heap ∧ z'.os = z.os ∧ AllBare z'.gens) z := by
  obtain ⟨fd, sp, bind, want, fn⟩ := G
  -- H tracks the script or nothing
  have main : ∀ H : Hp, Lone H a → (H a ≠ none → K.lookup a = none) → SqL K H a (ns.map V.int) → HOk P w H z.heap → codeAny (model P w) callerA (.call (.ref fa) ⟨[.ref a], []⟩) (fun r z' => r = .ok (.ret (.bool true)) ∧ OldK z.heap z'.heap ∧ z'.os = z.os ∧ AllBare z'.gens) z := by
    intro H lone own seq hok
    have free : ∀ {b : Addr}, b ≠ a → H b = none := fun {b} hb => by
      cases e : H b with
      | none => rfl
      | some u => exact absurd (lone b u e).1 hb
    have keepNs : ∀ {b : Addr} {m : Str → Option Value}, z.heap.Ns b m → (hidT z.heap H).Ns b m := by
      rintro b m ⟨o, es, ep, e, d, r⟩
      refine ⟨o, es, ep, hidT_get e (free fun hb => ?_), d, r⟩
      subst hb
      rw [hscr] at e
      cases e
      cases d
    have keepK : K.In (hidT z.heap H) := fun b o e => hidT_get (KZ b o e) (by
      by_cases hb : b = a
      · subst hb
        cases q : H b with
        | none => rfl
        | some u =>
          rw [own (by rw [q]; exact fun h => nomatch h)] at e
          cases e
      · exact free hb)
    obtain ⟨mc, lim1, lim2⟩ := nolim
    have modul : Mod K mg (hidT z.heap H) := ⟨keepK, keepNs hmg, ⟨mb, keepNs hmb, hboot⟩, ⟨mc, keepNs lim1, lim2⟩⟩
    have env : Env0 P w K mg (hidT z.heap H) callerA [] z H := ⟨rfl, modul, fun _ _ e => of_hidT e, Nat.le_of_eq (hidT_size _ _), trivial, fun b hb => (List.not_mem_nil hb).elim, hok, .of_eq nogen⟩
    refine codeAny_mono ((fn _ keepK (keepNs hmg)).go callerA [] z H ⟨[.ref a], []⟩ [.ref a] [.ref a] _ _ rfl room env (bind z (.ref a)) (.cons rfl .nil) (want H a ns hn seq)) fun r z' fin => ?_
    match r, fin with
    | .ok .next, fin => exact False.elim fin
    | .ok .brk, fin => exact False.elim fin
    | .ok .cont, fin => exact False.elim fin
    | .error _, fin => exact False.elim fin
    | .ok (.ret u), fin =>
      obtain ⟨v, H', os, bare, un, hok', rv, ev⟩ := fin
      obtain rfl : v = .bl true := ev
      obtain rfl : u = Value.bool true := rv
      refine ⟨rfl, OldK.of_keep fun b o e => ?_, os, bare⟩
      cases q : H b with
      | none => exact un.keep b o e q (fun h => (List.not_mem_nil h).elim) (by simp)
      | some u =>
        obtain ⟨_, ob, xs, rfl⟩ := lone b u q
        obtain ⟨e1, _⟩ := hok b _ q
        obtain ⟨e2, _⟩ := hok' b _ (un.frzs b ob _ q)
        rw [e] at e1
        cases e1
        exact e2
  have rel := vals_ints hni
  by_cases own : K.lookup a = none
  · refine main (fun b => if b = a then some (.frz { cls := .type "list", data := .seq vs.toArray } (.lst (ns.map V.int))) else none) (fun b u e => ?_) (fun _ => own) (.inl (.inr ⟨_, if_pos rfl⟩)) fun b u e => ?_
    all_goals
      simp only at e
      have hb : b = a := Decidable.byContradiction fun h => by rw [if_neg h] at e; cases e
      rw [if_pos hb] at e
      cases e
    · exact ⟨hb, _, _, rfl⟩
    · subst hb
      exact ⟨hscr, by rw [List.length_map]; exact small, vs, _, rel, hscr⟩
  · obtain ⟨o, ho⟩ := Option.ne_none_iff_exists'.mp own
    have e := KZ a o ho
    rw [hscr] at e
    cases e
    exact main (fun _ => none) (fun b u e => nomatch e) (fun h => absurd rfl h) (.inr ⟨_, vs.toArray, _, ho, rfl, rfl, rfl, by rw [List.size_toArray, hni.length]; exact small, by simpa using rel⟩) fun b u e => nomatch e
theorem walk_g {l : PySem.W.OpenLaw} {n k : Nat} {q : Program} {loose : List Str} {XP : (Str → Option Value) → Heap → Prop} {YP : World → Heap → Prop} {d : DefRec} {K : Params → PySem.W.Frag} {x : Str} (hn : l.most = some n) (hn2 : n ≤ sizeLine) (hdf : d.params.defaults = []) (room : Room k callerA)
    (hY : ∀ (w : World) (h : Heap), YP w h → (K w.params).In h) (F : ∀ (w : World) (mg : Str → Option Value) (fa : Addr) (h : Heap), (K w.params).In h → h.Ns mainGlobals mg → mg d.name = some (.ref fa) → GoesG l.prog w (K w.params) mg k fa x n) :
    PySem.W.WalkO q loose XP YP l.row.toRowW d [] (fun f vs => PySem.call f vs) := by
  refine Att.attach_callB hn hdf fun w z0 z1 mg mb fa o pm cd doc a vs ns G Y ho hd hcd hmg hobj hints hlen hbits hg => ?_
  have KZ := hY w _ Y
  exact law_goes KZ G.T.g G.T.b G.T.builtins G.T.nolimit hg hobj hints (Nat.le_trans hlen hn2) hlen room (F w mg fa _ KZ G.T.g hmg)
/-! ### as law_goes, for laws whose defs hold generator expressions too: cs, the code objects and their tables -/
def GoesT (P : Program) (w : World) (K : PySem.W.Frag) (mg : Str → Option Value) (k : Nat) (fa : Addr) (x : Str) (n : Nat) (h : Heap) : Prop :=
  ∃ (fd : FuncData) (cs : List (Addr × Addr)) (sp : Sp), (∀ p ∈ cs, h.get? p.2 = some { cls := .none, data := .fields #[] }) ∧ (∀ p ∈ cs, K.lookup p.2 = none) ∧ (∀ p ∈ cs, PySem.W.CodeHd h p.1 p.2) ∧ (∀ (z : Shared) (u : Value), BindsTo z fd ⟨[u], []⟩ [(x, u)]) ∧
    (∀ (H : Hp) (a : Addr) (ns : List Int), ns.length ≤ n → (∀ p ∈ cs, H p.2 = some (.tbl #[])) → SqL K H a (ns.map V.int) → sp [.ref a] H (fun v _ => v = .bl true) fun _ _ _ => False) ∧
    ∀ base : Heap, K.In base → base.Ns mainGlobals mg → (∀ p ∈ cs, LamX.TabB base mg p.1 p.2) → FnG P w K mg base k fa fd [x] sp
/-- what may be tracked at the start: the script, as it stands, and the tables, empty -/
inductive First (a : Addr) (ts : List Addr) (b : Addr) : HO → Prop
  | script {o : Obj} {xs : List V} : b = a → First a ts b (.frz o (.lst xs))
  | table : b ∈ ts → First a ts b (.tbl #[])
theorem law_goesT {P : Program} {w : World} {K : PySem.W.Frag} {mg mb : Str → Option Value} {k n : Nat} {fa a : Addr} {x : Str} {z : Shared} {vs : List Value} {ns : List Int} (KZ : K.In z.heap) (hmg : z.heap.Ns mainGlobals mg) (hmb : z.heap.Ns builtinsNs mb)
    (hboot : ∀ x : Str, x ≠ "__name__" → mb x = bootBuiltins x) (nolim : z.heap.NoLimit) (nogen : z.gens = #[]) (mods : ∃ (bm : Addr) (ob : Obj), mg "__builtins__" = some (.ref bm) ∧ bm ≠ builtinsNs ∧ z.heap.get? bm = some ob ∧ ob.cls = .type "module" ∧ ob.dict = some builtinsNs ∧ ob.data = .plain)
    (hscr : z.heap.get? a = some { cls := .type "list", data := .seq vs.toArray }) (hni : IntsAre vs ns) (small : ns.length ≤ sizeLine) (hn : ns.length ≤ n) (room : Room k callerA)
    (G : GoesT P w K mg k fa x n z.heap) : codeAny (model P w) callerA (.call (.ref fa) ⟨[.ref a], []⟩) (fun r z' => r = .ok (.ret (.bool true)) ∧ OldK z.heap z'.heap ∧ z'.os = z.os ∧ AllBare z'.gens) z := by
  obtain ⟨fd, cs, sp, tabs, tabK, code, bind, want, fn⟩ := G
  have tabAt : ∀ b ∈ cs.map (·.2), z.heap.get? b = some { cls := .none, data := .fields #[] } := fun b hb => by
    obtain ⟨p, hp, rfl⟩ := List.mem_map.mp hb
    exact tabs p hp
  have main : ∀ H : Hp, (∀ b u, H b = some u → First a (cs.map (·.2)) b u) → (∀ p ∈ cs, H p.2 = some (.tbl #[])) → (H a ≠ none → K.lookup a = none) → SqL K H a (ns.map V.int) → HOk P w H z.heap →
      codeAny (model P w) callerA (.call (.ref fa) ⟨[.ref a], []⟩) (fun r z' => r = .ok (.ret (.bool true)) ∧ OldK z.heap z'.heap ∧ z'.os = z.os ∧ AllBare z'.gens) z := by
    intro H first isTab own seq hok
    -- what is neither a list nor an empty table is not tracked
    have free : ∀ {b : Addr} {o : Obj}, z.heap.get? b = some o → (∀ us m, o.data ≠ .seq us m) → o.data ≠ .fields #[] → H b = none := fun {b o} e h1 h2 => by
      cases q : H b with
      | none => rfl
      | some u =>
        cases first b u q with
        | script hb =>
          rw [hb, hscr] at e
          cases e
          exact absurd rfl (h1 _ _)
        | table hb =>
          rw [tabAt b hb] at e
          cases e
          exact absurd rfl h2
    have keepNs : ∀ {b : Addr} {m : Str → Option Value}, z.heap.Ns b m → (hidT z.heap H).Ns b m := by
      rintro b m ⟨o, es, ep, e, d, r⟩
      exact ⟨o, es, ep, hidT_get e (free e (fun us m y => by rw [d] at y; cases y) fun y => by rw [d] at y; cases y), d, r⟩
    have keepK : K.In (hidT z.heap H) := fun b o e => hidT_get (KZ b o e) (by
      cases q : H b with
      | none => rfl
      | some u =>
        cases first b u q with
        | script hb =>
          subst hb
          rw [own (by rw [q]; exact fun h => nomatch h)] at e
          cases e
        | table hb =>
          obtain ⟨p, hp, rfl⟩ := List.mem_map.mp hb
          rw [tabK p hp] at e
          cases e)
    obtain ⟨mc, lim1, lim2⟩ := nolim
    have modul : Mod K mg (hidT z.heap H) := ⟨keepK, keepNs hmg, ⟨mb, keepNs hmb, hboot⟩, ⟨mc, keepNs lim1, lim2⟩⟩
    have tb : ∀ p ∈ cs, LamX.TabB (hidT z.heap H) mg p.1 p.2 := fun p hp => by
      obtain ⟨og, eg, pg, atg, dg, rg⟩ := hmg
      refine ⟨?_, ?_, fun y => ?_⟩
      · obtain ⟨o, us, file, tf, flags, tg, inF, text, tt, e1, c1, c2, c3, c4, c5, c6, c7, c8, c9⟩ := code p hp
        exact ⟨o, us, file, tf, flags, tg, inF, text, tt, hidT_get e1 (free e1 (fun _ _ y => by rw [c2] at y; cases y) fun y => by rw [c2] at y; cases y; simp at c3), c1, c2, c3, c4, c5, c6, c7, c8, c9⟩
      · obtain ⟨bm, ob, b1, b2, b3, b4, b5, b6⟩ := mods
        refine ⟨bm, ob, b1, b2, fun y => ?_, fun y => ?_, hidT_get b3 (free b3 (fun _ _ y => by rw [b6] at y; cases y) fun y => by rw [b6] at y; cases y), b4, b5, b6⟩
        · rw [y, atg] at b3
          cases b3
          rw [dg] at b6
          cases b6
        · rw [y, tabs p hp] at b3
          cases b3
          cases b6
      · rw [y, tabs p hp] at atg
        cases atg
        cases dg
    have env : Env0 P w K mg (hidT z.heap H) callerA [] z H := ⟨rfl, modul, fun _ _ e => of_hidT e, Nat.le_of_eq (hidT_size _ _), trivial, fun b hb => (List.not_mem_nil hb).elim, hok, .of_eq nogen⟩
    refine codeAny_mono ((fn _ keepK (keepNs hmg) tb).go callerA [] z H ⟨[.ref a], []⟩ [.ref a] [.ref a] _ _ rfl room env (bind z (.ref a)) (.cons rfl .nil) (want H a ns hn isTab seq)) fun r z' fin => ?_
    match r, fin with
    | .ok .next, fin => exact False.elim fin
    | .ok .brk, fin => exact False.elim fin
    | .ok .cont, fin => exact False.elim fin
    | .error _, fin => exact False.elim fin
    | .ok (.ret u), fin =>
      obtain ⟨v, H', os, bare, un, hok', rv, ev⟩ := fin
      obtain rfl : v = .bl true := ev
      obtain rfl : u = Value.bool true := rv
      have stays : ∀ b o, b ∉ cs.map (·.2) → z.heap.get? b = some o → z'.heap.get? b = some o := fun b o nb e => by
        cases q : H b with
        | none => exact un.keep b o e q (fun h => (List.not_mem_nil h).elim) (by simp)
        | some u =>
          cases first b u q with
          | table hb => exact absurd hb nb
          | script hb =>
            obtain ⟨e1, _⟩ := hok b _ q
            obtain ⟨e2, _⟩ := hok' b _ (un.frzs b _ _ q)
            rw [e] at e1
            cases e1
            exact e2
      have grows : ∀ p ∈ cs, ∃ more : Array Value, z'.heap.get? p.2 = some { cls := .none, data := .fields more } := fun p hp => by
        obtain ⟨more, y⟩ := un.tbls p.2 #[] (isTab p hp)
        exact ⟨_, hok' p.2 _ y⟩
      refine ⟨rfl, ⟨fun b o e => ?_, fun b o e => ?_⟩, os, bare⟩
      · by_cases hb : b ∈ cs.map (·.2)
        · obtain ⟨p, hp, rfl⟩ := List.mem_map.mp hb
          obtain ⟨more, hm⟩ := grows p hp
          rw [tabs p hp] at e
          cases e
          exact .inr (.inl ⟨((code p hp).tab (tabs p hp)).isCodeTable, rfl, #[], more, rfl, by rw [Array.empty_append]; exact hm⟩)
        · exact .inl (stays b o hb e)
      · by_cases hb : b ∈ cs.map (·.2)
        · obtain ⟨p, hp, rfl⟩ := List.mem_map.mp hb
          obtain ⟨more, hm⟩ := grows p hp
          exact ⟨_, hm⟩
        · exact ⟨o, stays b o hb e⟩
  have rel := vals_ints hni
  have apart : a ∉ cs.map (·.2) := fun y => by
    have q := tabAt a y
    rw [hscr] at q
    cases q
  have other : ∀ p ∈ cs, p.2 ≠ a := fun p hp y => apart (by rw [← y]; exact List.mem_map.mpr ⟨p, hp, rfl⟩)
  by_cases own : K.lookup a = none
  · refine main (fun b => if b = a then some (.frz { cls := .type "list", data := .seq vs.toArray } (.lst (ns.map V.int))) else if b ∈ cs.map (·.2) then some (.tbl #[]) else none) (fun b u e => ?_) (fun p hp => ?_) (fun _ => own) (.inl (.inr ⟨_, if_pos rfl⟩)) fun b u e => ?_
    · try simp only at e
      by_cases hb : b = a
      · rw [if_pos hb] at e
        cases e
        exact .script hb
      · rw [if_neg hb] at e
        by_cases ht : b ∈ cs.map (·.2)
        · rw [if_pos ht] at e
          cases e
          exact .table ht
        · rw [if_neg ht] at e
          cases e
    · try simp only
      rw [if_neg (other p hp), if_pos (List.mem_map.mpr ⟨p, hp, rfl⟩)]
    · try simp only at e
      by_cases hb : b = a
      · rw [if_pos hb] at e
        cases e
        rw [hb]
        exact ⟨hscr, by rw [List.length_map]; exact small, vs, _, rel, hscr⟩
      · rw [if_neg hb] at e
        by_cases ht : b ∈ cs.map (·.2)
        · rw [if_pos ht] at e
          cases e
          exact tabAt b ht
        · rw [if_neg ht] at e
          cases e
  · obtain ⟨o, ho⟩ := Option.ne_none_iff_exists'.mp own
    have e := KZ a o ho
    rw [hscr] at e
    cases e
    refine main (fun b => if b ∈ cs.map (·.2) then some (.tbl #[]) else none) (fun b u e => ?_) (fun p hp => if_pos (List.mem_map.mpr ⟨p, hp, rfl⟩)) (fun h => absurd (if_neg apart) h) (.inr ⟨_, vs.toArray, _, ho, rfl, rfl, rfl, by rw [List.size_toArray, hni.length]; exact small, by simpa using rel⟩) fun b u e => ?_
    all_goals
      try simp only at e
      by_cases ht : b ∈ cs.map (·.2)
      · rw [if_pos ht] at e
        cases e
        first
          | exact .table ht
          | exact tabAt b ht
      · rw [if_neg ht] at e
        cases e
theorem walk_gt {l : PySem.W.OpenLaw} {n k : Nat} {q : Program} {loose : List Str} {XP : (Str → Option Value) → Heap → Prop} {YP : World → Heap → Prop} {d : DefRec} {K : Params → PySem.W.Frag} {x : Str} (hn : l.most = some n) (hn2 : n ≤ sizeLine) (hdf : d.params.defaults = []) (room : Room k callerA)
    (hY : ∀ (w : World) (h : Heap), YP w h → (K w.params).In h) (F : ∀ (w : World) (mg : Str → Option Value) (fa : Addr) (h : Heap), (K w.params).In h → h.Ns mainGlobals mg → mg d.name = some (.ref fa) →
      (∀ (y : Str) (fy : Addr), ((recsOf q).any fun e => e.name == y) = true → mg y = some (.ref fy) → LamX.OwnTab (K w.params) fy h) → GoesT l.prog w (K w.params) mg k fa x n h) :
    PySem.W.WalkO q loose XP YP l.row.toRowW d [] (fun f vs => PySem.call f vs) := by
  refine Att.attach_callB hn hdf fun w z0 z1 mg mb fa o pm cd doc a vs ns G Y ho hd hcd hmg hobj hints hlen hbits hg => ?_
  have KZ := hY w _ Y
  have tabs : ∀ (y : Str) (fy : Addr), ((recsOf q).any fun e => e.name == y) = true → mg y = some (.ref fy) → LamX.OwnTab (K w.params) fy z1.heap := fun y fy hy hm c P o1 fd1 e dd vs1 sl k1 k2 k3 k4 k5 => by
    obtain ⟨dL, hmem, hnm⟩ := List.any_eq_true.mp hy
    have hnm : dL.name = y := beq_iff_eq.mp hnm
    obtain ⟨a', o', fd', c', P', h1, h2, h3, h4, h5, h6⟩ := G.T.tab dL hmem
    rw [hnm, hm] at h1
    cases h1
    rw [KZ _ _ k1] at h2
    cases h2
    rw [k2] at h3
    cases h3
    rw [k3] at h4
    cases h4
    obtain ⟨⟨oc, vc, e1, _, e3, e4⟩, hP⟩ := h6
    rw [KZ _ _ k4] at e1
    cases e1
    cases e3
    rw [k5] at e4
    cases e4
    exact hP
  exact law_goesT KZ G.T.g G.T.b G.T.builtins G.T.nolimit hg G.T.bmain hobj hints (Nat.le_trans hlen hn2) hlen room (F w mg fa _ KZ G.T.g hmg tabs)
/-! ### enumerate of a tuple -/
set_option maxHeartbeats 1000000 in
theorem meets_enumOne {v : Value} {o : Obj} {S : Heap → Prop} (B : Begins v o S) : Meets (Builtin.«enumerate.__new__» ⟨[.type "enumerate", v], []⟩) (fun _ R s => S s.heap ∧
      R (.ok (.ret (.ref (s.heap.push o).objs.size))) { s with heap := (s.heap.push o).push { cls := .type "enumerate", data := .fields #[.none, .bool false, .ref s.heap.objs.size, rawInt 0, .none, .none] } }) :=
  .of_wp fun prog w A R s h => by
    obtain ⟨hp, g, d, tk, os⟩ := s
    obtain ⟨h1, h⟩ := h
    have sub0 := sub_enumerate
    have begun : ∀ {A' : PySem.Around} {E : Value → Shared → Prop} {Q : Value → Shared → Prop}, Q (.ref hp.objs.size) ⟨hp.push o, g, d, tk, os⟩ → wpAny (model prog w) A' (pyIter v) Q E ⟨hp, g, d, tk, os⟩ := fun q => B.iter prog w _ _ ⟨hp, g, d, tk, os⟩ _ h1 q
    wp_walk using begun
    refine wpAny_stack_any fun st => wpAny_pure ?_
    split
    · rename_i c _ _ _ _ _
      cases (c == Value.type "enumerate")
      all_goals
        wp_walk using begun
        exact ⟨_, rfl, h⟩
    · wp_walk using begun
      exact ⟨_, rfl, h⟩
theorem call_enumT {P : Program} {w : World} {A : PySem.Around} {E : Value → Shared → Prop} {s : Shared} {t : Addr} {items : Array Value} {Q : Value → Shared → Prop} (ht : s.heap.IsTuple t items)
    (h : ∀ h', IsEnum h' (s.heap.objs.size + 1) s.heap.objs.size 0 .none → h'.IsTupleIter s.heap.objs.size t 0 → (∀ b o, s.heap.get? b = some o → h'.get? b = some o) → Q (.ref (s.heap.objs.size + 1)) { s with heap := h' }) : wpAny (model P w) A (call (.type "enumerate") [.ref t]) Q E s := by
  refine callType_new PySem.F.called_enumerate (by decide) (PySem.F.typeCall_enumerate_1 _) (PySem.F.newCall_enumerate_1 _) (fun ob => PySem.F.args_object_init_2 ob _) PySem.F.entry_enumerate_new (meets_enumOne (begins_tuple t items)) ⟨ht, ?_⟩
  have size1 := Heap.size_push s.heap { cls := .type "tuple_iterator", data := .fields #[.ref t, .int 0 0] }
  have en := Heap.get?_push_size (s.heap.push { cls := .type "tuple_iterator", data := .fields #[.ref t, .int 0 0] }) (o := { cls := .type "enumerate", data := .fields #[.none, .bool false, .ref s.heap.objs.size, rawInt 0, .none, .none] }) rfl
  rw [size1] at en
  show _ ∧ _
  rw [size1]
  exact ⟨⟨_, en, rfl⟩, h _ en ⟨_, Heap.get?_push_of_some _ (Heap.get?_push_size _ rfl), rfl, rfl⟩ fun b o e => Heap.get?_push_of_some _ (Heap.get?_push_of_some _ e)⟩
/-- the turns: a new pair each, of the number and the part -/
def ItN (K : PySem.W.Frag) (a : Addr) : It where
  go := fun i H => ∃ (xs : List V) (x : V), SqT K H a xs ∧ xs[i]? = some x
  yld := fun i H v H' => ∃ T x, v = .ref T ∧ H T = none ∧ H' = upd H T (.tup [.int (i : Nat), x]) ∧ ∀ xs, SqT K H a xs → xs[i]? = some x
  stop := fun i H => ∃ xs : List V, SqT K H a xs ∧ xs.length ≤ i
theorem turn_enumT {P : Program} {w : World} {K : PySem.W.Frag} {elts : List Expr} {kk : Nat} {tpos : Pos} (a e it : Addr) (n1 : e ≠ it) (n2 : a ≠ it) (n3 : e ≠ a) :
    Turn P w K (.Tuple elts kk tpos) (ItN K a) [e, it] e (fun i h => (∃ old, IsEnum h e it ((i : Nat) : Int) old) ∧ h.IsTupleIter it a i) where
  mem := List.mem_cons_self
  obj := by
    rintro i h ⟨⟨old, he⟩, o, ho, hc, hd⟩ b hb
    rcases List.mem_cons.mp hb with rfl | hb
    · exact ⟨_, he, fun v q => nomatch q⟩
    · rw [List.mem_singleton.mp hb]
      exact ⟨o, ho, fun v q => by rw [hd] at q; cases q⟩
  keep := by
    rintro i h h' ⟨⟨old, he⟩, hit⟩ kp
    exact ⟨⟨old, kp e (by simp) _ he⟩, hit.at fun o q => kp it (by simp) o q⟩
  item := by
    intro X hP hw hK hc i pins s σ H E I hf st hg
    subst hP hw hK
    obtain ⟨⟨old, he⟩, hit⟩ := st
    obtain ⟨xs, x, hq, hx⟩ := hg
    obtain ⟨its, rv, tup, _⟩ := I.tuple hq
    obtain ⟨u, hu, ru⟩ := rv.get hx
    have le := Heap.lt_size he
    have li : it < s.heap.objs.size := let ⟨_, q, _⟩ := hit; Heap.lt_size q
    have lt : i < its.toArray.size := by simpa using (List.getElem?_eq_some_iff.mp hu).1
    refine wpAny_pyNext_enum_itemD (Draws.tuple (A := X.A.in1) (I.ok.hd hc) it a n2 its.toArray) he ⟨hit, tup⟩ lt n1 (by simp [n1, n3]) fun x' h' tk ex out st' new _ kp => ?_
    obtain rfl : u = x' := Option.some.inj (((by simpa using hu) : its.toArray[i]? = some u).symm.trans ex)
    refine ⟨_, rfl, wpAny_letOwnedTupleGo_enum (s := { s with heap := h', toks := tk + 1 }) out fun h2 he2 sb => ?_⟩
    have new2 : h2.get? s.heap.objs.size = some { cls := .type "tuple", data := .seq #[.int i tk, u] } := (sb.2 _ (Nat.ne_of_gt le)).trans new
    have objT : ObjOk X.prog X.w (upd H s.heap.objs.size (.tup [.int (i : Nat), x])) h2 s.heap.objs.size (.tup [.int (i : Nat), x]) := ⟨by show 2 ≤ sizeLine; decide, [.int i tk, u], .cons ⟨_, rfl⟩ (.cons ru .nil), ⟨_, new2, rfl, _, rfl⟩⟩
    have J : Inv X pins σ (upd H s.heap.objs.size (.tup [.int (i : Nat), x])) { s with heap := h2, toks := tk + 1 } := I.turnedNew (ch := [e, it]) (fun b ob hb q => by
      simp only [List.mem_cons, List.not_mem_nil, or_false, not_or] at hb
      exact (sb.2 b hb.1).trans (kp b ob hb.1 hb.2 q)) hf (Nat.le_refl _) objT
    refine ⟨.ref s.heap.objs.size, _, J, rfl, ⟨_, x, rfl, I.hok.fresh (Nat.le_refl _), rfl, fun ys hy => by rw [I.tuple_inj hy hq]; exact hx⟩, ⟨⟨u, ?_⟩, st'.1.at fun o q => (sb.2 it (Ne.symm n1)).trans q⟩, fun b hb => ?_⟩
    · rw [show ((i + 1 : Nat) : Int) = (i : Int) + 1 from by omega]
      exact he2
    · have lb : b < s.heap.objs.size := by
        rcases List.mem_cons.mp hb with rfl | hb
        · exact le
        · rw [List.mem_singleton.mp hb]
          exact li
      rw [upd_ne (Nat.ne_of_lt lb)]
      exact (hf b hb).1
  done := by
    intro X hP hw hK hc i pins s σ H E I hf st hg
    subst hP hw hK
    obtain ⟨⟨old, he⟩, hit⟩ := st
    obtain ⟨xs, hq, hx⟩ := hg
    obtain ⟨its, rv, tup, _⟩ := I.tuple hq
    have hl := rv.length
    obtain ⟨f0, f1, f2, f3, f4, f5⟩ := hf it (by simp)
    have D : Draws X.prog X.w X.A.in1 it [it, a] i (fun _ _ => False) (fun j h => j = i ∧ h.IsTupleIter it a i ∧ h.IsTuple a its.toArray) := {
      live := fun j h z => let ⟨_, ⟨o, q, _⟩, _⟩ := z; ⟨o, q⟩
      frame := fun j h h' z kp => ⟨z.1, z.2.1.at fun o q => kp it (by simp) o q, z.2.2.at fun o q => kp a (by simp) o q⟩
      item := fun j s' Q E' hj z => absurd z.1 (Nat.ne_of_lt hj)
      done := fun s' Q E' z fin => wpAny_nextOf_tuple_end (I.ok.hd hc) z.2.1 z.2.2 (by simp; omega) fin }
    exact wpAny_pyNext_enum_endD D he ⟨rfl, hit, tup⟩ fun h' eb => ⟨rfl, I.turned (t' := s.toks) (fun b o hb q => eb b o hb q) f0 f1 f3 f4 f5⟩
  self := fun A i s Q E st h => let ⟨⟨_, he⟩, _⟩ := st; wpAny_pyIter_enum he h
def iEnT (K : PySem.W.Frag) (ta : TA) : TI := fun σ H R => ta σ H fun vs H1 => ∃ a xs, vs = [.ref a] ∧ SqT K H1 a xs ∧ R (ItN K a) H1
theorem pi_enumT {X : Cx} {e : Expr} {ta : TA} {p pos tpos : Pos} {elts : List Expr} {kk : Nat} (hg : Gl X "enumerate") (hm : X.mg "enumerate" = none) (ha : PA X [e] ta) (hs : starEach [e] X.env = [(false, eval e X.env)] := by rfl) :
    PI X (.Tuple elts kk tpos) (.Call (.Name "enumerate" p) [e] [] pos) (iEnT X.K ta) := by
  refine ⟨fun pins s σ H R I want => Call_ (ld_blt I hg hm boot_enumerate (PyProof.Rows.callWith_type1 (thn (ha.run pos pins s σ H _ I want) fun us s1 got => ?_) hs rfl))⟩
  obtain ⟨vs, H1, J, rel, a, xs, ex, hq, q⟩ := got
  subst ex
  obtain ⟨u, eu, r1⟩ := vals1 rel
  subst eu
  obtain rfl : u = Value.ref a := r1
  obtain ⟨its, rv, tup, _⟩ := J.tuple hq
  have la : a < s1.heap.objs.size := let ⟨_, q, _⟩ := tup; Heap.lt_size q
  refine call_enumT (items := its.toArray) tup fun h' he hit kp => wpAny_pyIter_enum he ?_
  have J2 : Inv X pins σ H1 { s1 with heap := h' } := J.kept (t' := s1.toks) kp
  refine ⟨s1.heap.objs.size + 1, [s1.heap.objs.size + 1, s1.heap.objs.size], _, _, H1, rfl, J2, turn_enumT a (s1.heap.objs.size + 1) s1.heap.objs.size (Nat.succ_ne_self _) (Nat.ne_of_lt la) (Nat.ne_of_gt (Nat.lt_succ_of_lt la)), ⟨⟨.none, he⟩, hit⟩, fun b hb => ?_, q⟩
  have lb : s1.heap.objs.size ≤ b := by
    rcases List.mem_cons.mp hb with rfl | hb
    · exact Nat.le_succ _
    · rw [List.mem_singleton.mp hb]
      exact Nat.le_refl _
  exact J.fpOk lb (J.hok.fresh lb)
theorem walk_enumT {K : PySem.W.Frag} {a : Addr} {xs : List V} : Walk (ItN K a) xs.length (fun H => SqT K H a xs) (YPair (fun i => some (.int (i : Nat))) (fun i => xs[i]?)) :=
  ⟨fun i H hi h => ⟨xs, xs[i], h, List.getElem?_eq_getElem hi⟩, fun H h => ⟨xs, h, Nat.le_refl _⟩, fun i H x H' hi h y => by
    obtain ⟨T, z, e1, e2, e3, e4⟩ := y
    exact ⟨T, _, z, e1, e2, e3, rfl, e4 xs h⟩⟩
/-! ### t[::-1] of a tuple -/
theorem fm_congr {α β : Type} {f g : α → Option β} : ∀ {l : List α}, (∀ x ∈ l, f x = g x) → l.filterMap f = l.filterMap g
  | [], _ => rfl
  | x :: l, h => by
    rw [List.filterMap_cons, List.filterMap_cons, h x (by simp), fm_congr (l := l) fun y hy => h y (List.mem_cons_of_mem _ hy)]
theorem back_pick (items : Array Value) : ((List.range items.size).filterMap fun (k : Nat) => items[((items.size : Int) - 1 + (k : Int) * (-1)).toNat]?).toArray = items.toList.reverse.toArray := by
  have e : (List.range items.size).filterMap (fun (k : Nat) => items[((items.size : Int) - 1 + (k : Int) * (-1)).toNat]?) = ((List.range items.size).map fun k => items.size - 1 - k).filterMap (items[·]?) := by
    rw [List.filterMap_map]
    refine fm_congr fun k hk => ?_
    have := List.mem_range.mp hk
    show _ = items[items.size - 1 - k]?
    congr 1
    omega
  rw [e, PySem.W.krv_range, List.filterMap_reverse, PySem.W.krv_all]
section
variable {P : Program} {w : World} {A : PySem.Around} {E : Value → Shared → Prop} {s : Shared}
theorem applied_back {sl : Addr} {vk : Value} {n : Nat} {Q : Int × Int × Nat → Shared → Prop} (hs : s.heap.IsSliceOf sl .none .none vk) (pk : IsPart vk (some (-1))) (h : Q ((n : Int) - 1, -1, n) s) : wpAny (model P w) A (Builtin.Slice.sliceApplied (.ref sl) (pure (n : Int))) Q E s := by
  obtain ⟨os, look, _, flds⟩ := id hs
  unfold Builtin.Slice.sliceApplied Builtin.Slice.sliceFields
  refine wpAny_bind (wpAny_bind (wpAny_field look flds (x := .none) rfl (wpAny_bind (wpAny_field look flds (x := .none) rfl (wpAny_bind (wpAny_field look flds (x := vk) rfl (wpAny_pure ?_)))))))
  refine wpAny_bind (HT.slicePart_ pk ?_)
  show wpAny _ _ (if ((-1 : Int) == 0) = true then _ else _) _ _ s
  rw [if_neg (by decide)]
  refine wpAny_bind (HT.slicePart_ .none (wpAny_bind (HT.slicePart_ .none (wpAny_bind (wpAny_pure ?_)))))
  have pl : Builtin.Slice.slicePlaces ((n : Int) - 1) (-1) (-1) = n := by
    unfold Builtin.Slice.slicePlaces
    rw [if_neg (by decide)]
    by_cases z : (n : Int) - 1 > -1
    · rw [if_pos z, show (-(-1) : Int) = 1 from by decide, Int.ediv_one]
      omega
    · rw [if_neg z]
      omega
  show wpAny _ _ (pure ((n : Int) - 1, (-1 : Int), Builtin.Slice.slicePlaces ((n : Int) - 1) (-1) (-1))) _ _ s
  rw [pl]
  exact wpAny_pure h
theorem getItem_back {t sl : Addr} {items : Array Value} {vk : Value} {Q : Value → Shared → Prop} (ht : IsTup s.heap t items) (hs : s.heap.IsSliceOf sl .none .none vk) (pk : IsPart vk (some (-1))) (hsz : items.size ≤ sizeLine)
    (h : Q (.ref s.heap.objs.size) { s with heap := s.heap.push { cls := .type "tuple", data := .seq items.toList.reverse.toArray } }) : wpAny (model P w) A (getItem (.ref t) (.ref sl)) Q E s := by
  have small : sizeOk (.seq items.toList.reverse.toArray) := by
    show items.toList.reverse.toArray.size ≤ sizeLine
    rw [List.size_toArray, List.length_reverse, Array.length_toList]
    exact hsz
  obtain ⟨os, look, kind, _⟩ := id hs
  have isSl : s.TypeIs (.ref sl) "slice" := ⟨os, look, kind⟩
  unfold getItem
  try with_reducible refine wpAny_holding ?_
  first | refine wpAny_bind (wpAny_pure ?_) | skip
  refine wpAny_bind (wpAny_sequenceKey ht.typeIs (by decide) ?_)
  refine wpAny_bind (wpAny_callSpecial?_slot (name := Str.ofString "__getitem__") ht.typeIs PyProof.Rows.slot_tuple_getitem (wpAny_call_entry PyProof.Rows.slot_tuple_getitem ht.typeIs PySem.F.entry_tuple_getitem ?_ (PySem.F.args_tuple_getitem_2 _ _)))
  show wpAny _ _ (Builtin.Tuple.tupleItemsOf (.ref t) >>= _) _ _ s
  refine wpAny_bind (tupleItemsOf_ ht ?_)
  refine wpAny_bind (wpAny_typeOf isSl ?_)
  rw [if_pos (by decide)]
  refine wpAny_bind (applied_back hs pk ?_)
  have no : ¬ (((items.size : Int) - 1 == 0 && (-1 : Int) == 1 && items.size == items.size) = true) := by
    intro z
    rw [Bool.and_eq_true, Bool.and_eq_true] at z
    exact absurd z.1.2 (by decide)
  show wpAny _ _ (if ((items.size : Int) - 1 == 0 && (-1 : Int) == 1 && items.size == items.size) = true then _ else _) _ _ s
  rw [if_neg no, back_pick]
  first
    | exact wpAny_bind (m := Builtin.Tuple.tupleExact _) (wpAny_newObj_type (wpAny_pure ⟨_, rfl, wpAny_pure h⟩) small)
    | exact wpAny_bind (wpAny_bind (m := Builtin.Tuple.tupleExact _) (wpAny_newObj_type (wpAny_pure (wpAny_pure ⟨_, rfl, wpAny_pure h⟩)) small))
    | exact wpAny_bind (m := Builtin.Tuple.tupleExact _) (wpAny_newObj_type (wpAny_bind (wpAny_pure (wpAny_pure ⟨_, rfl, wpAny_pure h⟩))) small)
end
def tRevT (K : PySem.W.Frag) (te : TE) : TE := fun σ H Q => te σ H fun x H1 => ∃ a xs, x = .ref a ∧ SqT K H1 a xs ∧ ∀ p, H1 p = none → Q (.ref p) (upd H1 p (.tup xs.reverse))
theorem pe_revT {X : Cx} {e : Expr} {te : TE} {k : Nat} {p1 p2 p3 pos : Pos} (he : PE X e te) : PE X (.Subscript e (.Slice none none (some (.UnaryOp .USub (.Constant (.int 1) k p1) p2)) p3) pos) (tRevT X.K te) := by
  refine ⟨fun pins s σ H Q I want => Subscript_ (thn (he.run pins s σ H _ I want) fun v s1 got => ?_)⟩
  obtain ⟨x, H1, I1, r1, a, xs, ex, hx, q⟩ := got
  subst ex
  obtain rfl : v = Value.ref a := r1
  have step : PO X (some (.UnaryOp .USub (.Constant (.int 1) k p1) p2)) (tPart (tUn (rU fun i => .int (-i)) (tC (.int 1)))) := po_some (pe_un un_neg pe_int)
  refine wpAny_Slice (thn (po_none.run pins s1 σ H1 (fun o H2 => o = none ∧ H2 = H1) I1 ⟨rfl, rfl⟩) fun vl s2 got2 => ?_)
  obtain ⟨_, _, I2, pl, rfl, rfl⟩ := got2
  refine thn (po_none.run pins s2 σ _ (fun o H3 => o = none ∧ H3 = _) I2 ⟨rfl, rfl⟩) fun vu s3 got3 => ?_
  obtain ⟨_, _, I3, pu, rfl, rfl⟩ := got3
  refine thn (step.run pins s3 σ _ (fun o H4 => o = some (-1) ∧ H4 = _) I3 ⟨1, rfl, -1, rfl, rfl, rfl⟩) fun vk s4 got4 => ?_
  obtain ⟨_, H4, I4, pk, rfl, rfl⟩ := got4
  cases pl
  cases pu
  have I5 : Inv X pins σ H4 { s4 with heap := s4.heap.push { cls := .type "slice", data := .fields #[.none, .none, vk] } } := I4.kept (t' := s4.toks) fun b ob z => Heap.get?_push_of_some _ z
  obtain ⟨its, rel, tup, small⟩ := I5.tuple hx
  have hlen := rel.length
  show wpAny (model X.prog X.w) X.A (subscriptTail e (.Slice none none (some (.UnaryOp .USub (.Constant (.int 1) k p1) p2)) p3) (.ref a) (.ref s4.heap.objs.size)) (EP X pins σ Q) X.xe _
  refine tail_any (ops := [.ref a, .ref s4.heap.objs.size]) tup.typeIs PyProof.Rows.slot_tuple_getitem.lookup ?_ (by with_unfolding_all rfl)
  refine getItem_back tup (Heap.IsSliceOf.new _ .none .none vk) pk (by rw [List.size_toArray]; omega) ?_
  refine ⟨.ref _, _, I5.laid (t' := s4.toks) (o := .tup xs.reverse) (fun b ob z => Heap.get?_push_of_some _ z) (Nat.le_refl _) ?_, rfl, q _ (I5.hok.fresh (Nat.le_refl _))⟩
  exact ⟨by rw [List.length_reverse]; exact small, _, rel.reverse, IsTup.new _ _⟩
/-! ### ties, walks, parts: the mathematics -/
def Adj (ts : List Tie) (a b : Int) (foe : Bool) : Prop := ∃ t ∈ ts, t.foe = foe ∧ ((t.one = a ∧ t.other = b) ∨ (t.one = b ∧ t.other = a))
theorem Adj.symm {ts : List Tie} {a b : Int} {k : Bool} (h : Adj ts a b k) : Adj ts b a k := by
  obtain ⟨t, ht, e, h⟩ := h
  exact ⟨t, ht, e, h.symm⟩
/-- a walk with so many foes, even or odd -/
inductive RP (ts : List Tie) (a : Int) : Int → Bool → Prop
  | nil : RP ts a a false
  | step {b c : Int} {p k : Bool} : RP ts a b p → Adj ts b c k → RP ts a c (p ^^ k)
def Rch (ts : List Tie) (a b : Int) : Prop := ∃ p, RP ts a b p
theorem RP.trans {ts : List Tie} {a b c : Int} {p q : Bool} (h : RP ts a b p) (g : RP ts b c q) : RP ts a c (p ^^ q) := by
  induction g with
  | nil =>
    rw [Bool.xor_false]
    exact h
  | step _ k ih =>
    rw [← Bool.xor_assoc]
    exact ih.step k
theorem RP.one {ts : List Tie} {a b : Int} {k : Bool} (h : Adj ts a b k) : RP ts a b k := by
  have q := RP.nil.step h
  rw [Bool.false_xor] at q
  exact q
theorem RP.symm {ts : List Tie} {a b : Int} {p : Bool} (h : RP ts a b p) : RP ts b a p := by
  induction h with
  | nil => exact .nil
  | step _ k ih =>
    have q := (RP.one k.symm).trans ih
    rw [Bool.xor_comm] at q
    exact q
theorem Rch.refl {ts : List Tie} {a : Int} : Rch ts a a := ⟨_, .nil⟩
theorem Rch.symm {ts : List Tie} {a b : Int} (h : Rch ts a b) : Rch ts b a := by
  obtain ⟨p, h⟩ := h
  exact ⟨p, h.symm⟩
theorem Rch.trans {ts : List Tie} {a b c : Int} (h : Rch ts a b) (g : Rch ts b c) : Rch ts a c := by
  obtain ⟨p, h⟩ := h
  obtain ⟨q, g⟩ := g
  exact ⟨_, h.trans g⟩
theorem Rch.adj {ts : List Tie} {a b : Int} {k : Bool} (h : Adj ts a b k) : Rch ts a b := ⟨_, RP.one h⟩
theorem Rch.ind {ts : List Tie} {a b : Int} (C : Int → Prop) (h : Rch ts a b) (h0 : C a) (hs : ∀ x y k, C x → Adj ts x y k → C y) : C b := by
  obtain ⟨p, h⟩ := h
  induction h with
  | nil => exact h0
  | step _ k ih => exact hs _ _ _ ih k
theorem Adj.rng {ts : List Tie} {n a b : Int} {k : Bool} (ok : ∀ t ∈ ts, TieOk n t) (h : Adj ts a b k) : 0 ≤ b ∧ b < n := by
  obtain ⟨t, ht, _, h⟩ := h
  obtain ⟨h1, h2, h3, h4, _⟩ := ok t ht
  rcases h with ⟨e1, e2⟩ | ⟨e1, e2⟩
  · omega
  · omega
theorem Rch.rng {ts : List Tie} {n a b : Int} (ok : ∀ t ∈ ts, TieOk n t) (ha : 0 ≤ a ∧ a < n) (h : Rch ts a b) : 0 ≤ b ∧ b < n := h.ind (fun x => 0 ≤ x ∧ x < n) ha fun _ _ _ _ k => k.rng ok
def leader (ts : List Tie) (s : Int) : Prop := ∀ q, Rch ts s q → s ≤ q
/-- rising lists of the same numbers are one -/
theorem rising_ext : ∀ {xs ys : List Int}, xs.Pairwise (· < ·) → ys.Pairwise (· < ·) → (∀ z, z ∈ xs ↔ z ∈ ys) → xs = ys
  | [], [], _, _, _ => rfl
  | [], y :: ys, _, _, h => by have := (h y).mpr (by simp); simp at this
  | x :: xs, [], _, _, h => by have := (h x).mp (by simp); simp at this
  | x :: xs, y :: ys, hx, hy, h => by
    rw [List.pairwise_cons] at hx hy
    have e : x = y := by
      have h1 := (h x).mp (by simp)
      have h2 := (h y).mpr (by simp)
      rcases List.mem_cons.mp h1 with e | e
      · exact e
      · rcases List.mem_cons.mp h2 with e' | e'
        · exact e'.symm
        · have := hx.1 y e'
          have := hy.1 x e
          omega
    subst e
    rw [rising_ext hx.2 hy.2 fun z => ?_]
    constructor
    · intro hz
      rcases List.mem_cons.mp ((h z).mp (List.mem_cons_of_mem _ hz)) with e | e
      · have := hx.1 z hz
        omega
      · exact e
    · intro hz
      rcases List.mem_cons.mp ((h z).mpr (List.mem_cons_of_mem _ hz)) with e | e
      · have := hy.1 z hz
        omega
      · exact e
/-- 0, 1, .., n - 1 -/
def rng (n : Nat) : List Int := (List.range n).map fun (i : Nat) => (i : Int)
theorem mem_rng {n : Nat} {z : Int} : z ∈ rng n ↔ 0 ≤ z ∧ z < n := by
  unfold rng
  rw [List.mem_map]
  constructor
  · rintro ⟨i, hi, rfl⟩
    have := List.mem_range.mp hi
    omega
  · rintro ⟨h1, h2⟩
    exact ⟨z.toNat, List.mem_range.mpr (by omega), by omega⟩
theorem rng_rising (n : Nat) : (rng n).Pairwise (· < ·) := by
  unfold rng
  rw [List.pairwise_map]
  exact List.pairwise_lt_range.imp (by intro a b h; omega)
theorem rng_succ (n : Nat) : rng (n + 1) = rng n ++ [(n : Int)] := by
  unfold rng
  rw [List.range_succ, List.map_append]
  rfl
theorem rng_length (n : Nat) : (rng n).length = n := by
  unfold rng
  rw [List.length_map, List.length_range]
open Classical in
/-- the part of s -/
noncomputable def partOf (ts : List Tie) (n : Nat) (s : Int) : List Int := (rng n).filter fun p => decide (Rch ts s p)
open Classical in
/-- the parts by their first places, below i -/
noncomputable def partsTo (ts : List Tie) (n i : Nat) : List (List Int) := ((rng i).filter fun s => decide (leader ts s)).map (partOf ts n)
open Classical in
theorem partsTo_succ (ts : List Tie) (n i : Nat) : partsTo ts n (i + 1) = partsTo ts n i ++ (if leader ts i then [partOf ts n i] else []) := by
  unfold partsTo
  rw [rng_succ, List.filter_append, List.map_append]
  congr 1
  by_cases h : leader ts (i : Int)
  · rw [if_pos h, List.filter_cons, if_pos (decide_eq_true h)]
    rfl
  · rw [if_neg h, List.filter_cons, if_neg (by simpa using h)]
    rfl
theorem part_rising (ts : List Tie) (n : Nat) (s : Int) : (partOf ts n s).Pairwise (· < ·) := (rng_rising n).filter _
theorem mem_part {ts : List Tie} {n : Nat} {s z : Int} : z ∈ partOf ts n s ↔ (0 ≤ z ∧ z < n) ∧ Rch ts s z := by
  unfold partOf
  rw [List.mem_filter, mem_rng]
  simp
/-! ### the least place that each comes to, gone over again and again -/
def relax (f : Int → Int) (t : Tie) : Int → Int := fun x => if x = t.one ∨ x = t.other then min (f t.one) (f t.other) else f x
def rounds (ts : List Tie) : Nat → Int → Int
  | 0 => fun x => x
  | r + 1 => ts.foldl relax (rounds ts r)
theorem relax_le (f : Int → Int) (t : Tie) (x : Int) : relax f t x ≤ f x := by
  unfold relax
  split
  · rename_i h
    rcases h with rfl | rfl <;> omega
  · exact Int.le_refl _
theorem fold_le : ∀ (l : List Tie) (f : Int → Int) (x : Int), l.foldl relax f x ≤ f x
  | [], _, _ => Int.le_refl _
  | t :: l, f, x => Int.le_trans (fold_le l (relax f t) x) (relax_le f t x)
theorem fold_tie : ∀ (l : List Tie) (f : Int → Int) (t : Tie), t ∈ l → l.foldl relax f t.one ≤ min (f t.one) (f t.other) ∧ l.foldl relax f t.other ≤ min (f t.one) (f t.other)
  | t' :: l, f, t, h => by
    rcases List.mem_cons.mp h with e | e
    · subst e
      have h1 := fold_le l (relax f t) t.one
      have h2 := fold_le l (relax f t) t.other
      have e1 : relax f t t.one = min (f t.one) (f t.other) := by unfold relax; rw [if_pos (.inl rfl)]
      have e2 : relax f t t.other = min (f t.one) (f t.other) := by unfold relax; rw [if_pos (.inr rfl)]
      rw [e1] at h1
      rw [e2] at h2
      exact ⟨h1, h2⟩
    · have ih := fold_tie l (relax f t') t e
      have h1 := relax_le f t' t.one
      have h2 := relax_le f t' t.other
      exact ⟨Int.le_trans ih.1 (by omega), Int.le_trans ih.2 (by omega)⟩
theorem fold_rch {ts : List Tie} : ∀ (l : List Tie) (f : Int → Int), (∀ t ∈ l, t ∈ ts) → (∀ x, Rch ts x (f x)) → ∀ x, Rch ts x (l.foldl relax f x)
  | [], _, _, h => h
  | t :: l, f, hl, h => fold_rch l (relax f t) (fun t' ht => hl t' (List.mem_cons_of_mem _ ht)) fun x => by
    have ad : Rch ts t.one t.other := Rch.adj (k := t.foe) ⟨t, hl t (by simp), rfl, .inl ⟨rfl, rfl⟩⟩
    unfold relax
    split
    · rename_i hx
      have key : Rch ts x t.one ∧ Rch ts x t.other := by
        rcases hx with e | e <;> subst e
        · exact ⟨Rch.refl, ad⟩
        · exact ⟨ad.symm, Rch.refl⟩
      rcases Int.le_total (f t.one) (f t.other) with q | q
      · rw [Int.min_eq_left q]
        exact key.1.trans (h _)
      · rw [Int.min_eq_right q]
        exact key.2.trans (h _)
    · exact h x
theorem rounds_rch (ts : List Tie) : ∀ (r : Nat) (x : Int), Rch ts x (rounds ts r x)
  | 0, _ => Rch.refl
  | r + 1, x => fold_rch ts _ (fun _ h => h) (rounds_rch ts r) x
theorem filter_lt {p q : Int → Bool} : ∀ {l : List Int}, (∀ x ∈ l, q x = true → p x = true) → (∃ x ∈ l, p x = true ∧ q x = false) → (l.filter q).length < (l.filter p).length
  | [], _, ⟨x, hx, _⟩ => by simp at hx
  | y :: l, hi, ⟨x, hx, hp, hq⟩ => by
    have mono : (l.filter q).length ≤ (l.filter p).length := by
      have hi' : ∀ x ∈ l, q x = true → p x = true := fun x h => hi x (List.mem_cons_of_mem _ h)
      clear hi hx hp hq
      induction l with
      | nil => exact Nat.le_refl _
      | cons z l ih =>
        have ih := ih fun x h => hi' x (List.mem_cons_of_mem _ h)
        rw [List.filter_cons, List.filter_cons]
        have hz := hi' z (by simp)
        cases h1 : q z <;> cases h2 : p z <;> simp_all <;> omega
    rw [List.filter_cons, List.filter_cons]
    rcases List.mem_cons.mp hx with e | e
    · subst e
      rw [hq, hp]
      simp
      omega
    · have ih := filter_lt (l := l) (fun x h => hi x (List.mem_cons_of_mem _ h)) ⟨x, e, hp, hq⟩
      have hy := hi y (by simp)
      cases h1 : q y <;> cases h2 : p y <;> simp_all <;> omega
open Classical in
/-- behind as many rounds as there are places each has its part's least place -/
theorem rounds_least {ts : List Tie} {n : Nat} (ok : ∀ t ∈ ts, TieOk n t) {m p : Int} (hm : leader ts m) (h0 : 0 ≤ m ∧ m < n) (hp : Rch ts m p) : rounds ts n p = m := by
  have ge : ∀ r x, Rch ts m x → m ≤ rounds ts r x := fun r x hx => hm _ (hx.trans (rounds_rch ts r x))
  have mono : ∀ r x, rounds ts (r + 1) x ≤ rounds ts r x := fun r x => fold_le ts _ x
  have atm : ∀ r, rounds ts r m = m := fun r => by
    have h1 := ge r m Rch.refl
    have h2 : rounds ts r m ≤ m := by
      induction r with
      | zero => exact Int.le_refl _
      | succ r ih => exact Int.le_trans (mono r m) (ih (ge r m Rch.refl))
    omega
  have cnt : ∀ r, ((rng n).filter fun x => decide (Rch ts m x ∧ rounds ts r x ≠ m)).length ≤ n - r := fun r => by
    induction r with
    | zero =>
      refine Nat.le_trans (List.length_filter_le _ _) ?_
      rw [rng_length]
      omega
    | succ r ih =>
      by_cases hex : ∃ x, Rch ts m x ∧ rounds ts r x ≠ m
      · obtain ⟨x, hx, hne⟩ := hex
        -- an edge over which it comes
        have edge : ∃ a b k, Rch ts m a ∧ rounds ts r a = m ∧ Adj ts a b k ∧ rounds ts r b ≠ m := by
          by_cases hn : ∃ a b k, Rch ts m a ∧ rounds ts r a = m ∧ Adj ts a b k ∧ rounds ts r b ≠ m
          · exact hn
          · exfalso
            refine hne (hx.ind (fun y => Rch ts m y ∧ rounds ts r y = m) ⟨Rch.refl, atm r⟩ fun a b k ha k' => ⟨ha.1.trans (Rch.adj k'), ?_⟩).2
            by_cases hb : rounds ts r b = m
            · exact hb
            · exact absurd ⟨a, b, k, ha.1, ha.2, k', hb⟩ hn
        obtain ⟨a, b, k, ha, ha2, hab, hb⟩ := edge
        have hmb : Rch ts m b := ha.trans (Rch.adj hab)
        have hb' : rounds ts (r + 1) b = m := by
          have h1 := ge (r + 1) b hmb
          obtain ⟨t, ht, _, h⟩ := hab
          have ft := fold_tie ts (rounds ts r) t ht
          have h2 : rounds ts (r + 1) b ≤ m := by
            rcases h with ⟨e1, e2⟩ | ⟨e1, e2⟩
            · have q := ft.2
              rw [e1, e2, ha2] at q
              exact Int.le_trans q (by omega)
            · have q := ft.1
              rw [e1, e2, ha2] at q
              exact Int.le_trans q (by omega)
          omega
        have lt := filter_lt (p := fun x => decide (Rch ts m x ∧ rounds ts r x ≠ m)) (q := fun x => decide (Rch ts m x ∧ rounds ts (r + 1) x ≠ m)) (l := rng n) (fun x _ hq => by
          have hq := of_decide_eq_true hq
          refine decide_eq_true ⟨hq.1, fun z => hq.2 ?_⟩
          have h1 := ge (r + 1) x hq.1
          have h2 := mono r x
          omega) ⟨b, mem_rng.mpr (hmb.rng ok h0), decide_eq_true ⟨hmb, hb⟩, decide_eq_false fun z => z.2 hb'⟩
        omega
      · have e : (rng n).filter (fun x => decide (Rch ts m x ∧ rounds ts (r + 1) x ≠ m)) = [] := by
          rw [List.filter_eq_nil_iff]
          intro x _ hq
          have hq := of_decide_eq_true hq
          refine hex ⟨x, hq.1, fun z => hq.2 ?_⟩
          have h1 := ge (r + 1) x hq.1
          have h2 := mono r x
          omega
        rw [e]
        exact Nat.zero_le _
  have c := cnt n
  rw [Nat.sub_self] at c
  have e := List.eq_nil_of_length_eq_zero (Nat.le_zero.mp c)
  by_cases hne : rounds ts n p = m
  · exact hne
  · rw [List.filter_eq_nil_iff] at e
    exact absurd (decide_eq_true ⟨hp, hne⟩) (e p (mem_rng.mpr (hp.rng ok h0)))
open Classical in
/-- each has a least place -/
theorem has_leader {ts : List Tie} {n : Nat} (ok : ∀ t ∈ ts, TieOk n t) {p : Int} (h0 : 0 ≤ p ∧ p < n) : ∃ m, leader ts m ∧ (0 ≤ m ∧ m < n) ∧ Rch ts m p := by
  have key : ∀ (k : Nat) (x : Int), x = k → Rch ts p x → ∃ m, leader ts m ∧ (0 ≤ m ∧ m < n) ∧ Rch ts m p := by
    intro k
    induction k using Nat.strongRecOn with
    | ind k ih =>
      intro x hx hr
      have hxr := hr.rng ok h0
      by_cases hl : leader ts x
      · exact ⟨x, hl, hxr, hr.symm⟩
      · have hl' : ∃ q, Rch ts x q ∧ q < x := by
          by_cases h : ∃ q, Rch ts x q ∧ q < x
          · exact h
          · exfalso
            refine hl fun q hq => ?_
            by_cases h' : q < x
            · exact absurd ⟨q, hq, h'⟩ h
            · omega
        obtain ⟨q, hq, hlt⟩ := hl'
        have hqr := hq.rng ok hxr
        exact ih q.toNat (by omega) q (by omega) (hr.trans hq)
  exact key p.toNat p (by omega) Rch.refl

/-! ### rows of numbers as data -/
def IntsV (H : Hp) (v : V) (xs : List Int) : Prop := ∃ b, v = .ref b ∧ H b = some (.tup (xs.map V.int))
theorem IntsV.tk {H H' : Hp} (k : Tk H H') {v : V} {xs : List Int} (h : IntsV H v xs) : IntsV H' v xs := by
  obtain ⟨a, rfl, e⟩ := h
  exact ⟨a, rfl, k _ _ e⟩
def intsD (xs : List Int) : PyData := .tuple (xs.map PyData.int)
section
variable {K : PySem.W.Frag} {H : Hp}
theorem dp_ints : ∀ (xs : List Int), DpAll K H (xs.map V.int) (xs.map PyData.int)
  | [] => .nil
  | x :: xs => .cons (.int x) (dp_ints xs)
theorem IntsV.dp {v : V} {xs : List Int} (h : IntsV H v xs) : Dp K H v (intsD xs) := by
  obtain ⟨b, rfl, e⟩ := h
  exact .tup (SqT.of e) (dp_ints xs)
end
theorem lay_ints : ∀ xs : List Int, PyData.canLayAll0 (xs.map PyData.int) = true
  | [] => by simp [PyData.canLayAll0]
  | x :: xs => by simp [PyData.canLayAll0, PyData.canLay0, lay_ints xs]
theorem deep_ints : ∀ xs : List Int, PyData.depthAll (xs.map PyData.int) = 0
  | [] => by simp [PyData.depthAll]
  | x :: xs => by simp [PyData.depthAll, PyData.depth, deep_ints xs]
theorem lay_intsD (xs : List Int) : (intsD xs).canLay0 = true := by
  unfold intsD
  rw [PyData.canLay0]
  exact lay_ints xs
theorem deep_intsD (xs : List Int) : (intsD xs).depth = 1 := by
  unfold intsD
  rw [PyData.depth, deep_ints]
theorem shaped_intsD (xs : List Int) : SeqAt.shaped (intsD xs) = true := by
  unfold SeqAt.shaped
  rw [lay_intsD, deep_intsD]
  rfl
theorem eqv_nil (xs : List Int) : PyData.eqv (intsD xs) (intsD []) = xs.isEmpty := by
  unfold intsD
  rw [PyData.eqv]
  cases xs <;> rfl
section
variable {prog : Program} {w : World} {A : Around} {gi : Nat} {a : Addr} {End Fin : Shared → Prop}
theorem any_loop (hh : A.handled = none) (hroom : A.depth < recursionLimit)
    (hE : ∀ s s' : Shared, End s → s'.os = s.os → AllBare s'.gens → (∀ b o, s.heap.get? b = some o → s'.heap.get? b = some o) → End s')
    (hF : ∀ s s' : Shared, Fin s → s'.os = s.os → AllBare s'.gens → (∀ b o, s.heap.get? b = some o → s'.heap.get? b = some o) → Fin s') :
    ∀ (n : Nat) (s : Shared), Waits prog w A.in1 gi a true End Fin n s →
      codeAny (model prog w) A (.builtin "any.loop" ⟨[.ref a], []⟩) (fun r s' => (r = .ok (.ret (.bool false)) ∧ End s') ∨ (r = .ok (.ret (.bool true)) ∧ Fin s')) s := by
  intro n
  induction n using Nat.strongRecOn with
  | ind n ih =>
    intro s W
    refine codeAny_builtin PySem.F.entry_any_loop ?_
    rw [Around.under_plainId PySem.F.plain_any_loop]
    show wpAny (model prog w) A.in1 (pyNext (.ref a) >>= _) _ _ s
    refine wpAny_bind (waits_next (A := A.in1) hh hroom hE hF W (fun s' e => ?_) (fun s' e => ?_) fun s' m hm W' => ?_)
    · exact wpAny_bind (wpAny_rule (wpAny_pure (.inl ⟨rfl, e⟩)))
    · refine wpAny_bind (wpAny_holding (wpAny_truthy_bool ?_))
      refine wpAny_bind (wpAny_letGo ?_)
      exact wpAny_bind (wpAny_rule (wpAny_pure (.inr ⟨rfl, e⟩)))
    · refine wpAny_bind (wpAny_holding (wpAny_truthy_bool ?_))
      refine wpAny_bind (wpAny_letGo ?_)
      exact wpAny_pure ⟨plainId_quiet PySem.F.plain_any_loop _, ih m hm s' W'⟩
end
/-! ### any(elt for target in iter) -/
/-- the reading: W by the turn and a measure; P: the def's table, which may grow -/
def tAny (P : Addr) (wi : TI) (g : TG) (te : TE) (vs : List Nat) : TE := fun σ H Q => wi σ H fun J H1 => GxR.TabG H1 P ∧ ∃ W : Nat → Nat → Hp → Prop, (∀ H2, GxR.Tabbed P H1 H2 → ∃ m, W 0 m H2) ∧ ∀ i m H, W i m H →
  (J.stop i H ∧ Q (.bl false) H) ∨ (J.go i H ∧ ∃ Nx : Hp → Prop, (∀ H', Nx H' → ∃ m', m' < m ∧ W (i + 1) m' H') ∧ ∀ x H', J.yld i H x H' → g x (wipe σ vs) H' fun σ2 H2 => wipe σ2 vs = wipe σ vs ∧
    te σ2 H2 fun y H3 => ∃ b, y = .bl b ∧ if b = false then Nx H3 else Q (.bl true) H3)
section
variable {X : Cx}
theorem pe_any {k : Nat} {c P : Addr} {elt tg iter : Expr} {scope : Scope} {own : List (Str × Nat)} {p pos gpos : Pos} {wi : TI} {g : TG} {te : TE}
    (hr : Room (k + 1) X.A) (TB : GxR.TabB X.base X.mg c P) (hcode : X.env.code = .ref c) (hc : X.calm = true) (hN : X.N.Nodup) (hG : Gl X "any") (hM : X.mg "any" = none) (hi : PI X tg iter wi) (ok : BlkOk X.N X.env.scope scope own) (gk : GnOk scope) (hdN : (".0" : Str) ∉ X.N)
    (hg : ∀ (s : Shared) (H : Hp) (A' : Around) (C : Addr) (cl : List (Str × Addr)) (code : Value) (fp : List Addr), PG (gX X s H A' (genEnv scope cl C code builtinsNs X.env) fp) tg g)
    (he : ∀ (s : Shared) (H : Hp) (A' : Around) (C : Addr) (cl : List (Str × Addr)) (code : Value) (fp : List Addr), Room k A' → PE (gX X s H A' (genEnv scope cl C code builtinsNs X.env) fp) elt te)
    (hs : ∀ v, genFold iter X.env v = pure v := by intro _; rfl)
    (hst : starEach [.GeneratorExp elt [⟨tg, iter, [], 0⟩] scope gpos] X.env = (false, eval (.GeneratorExp elt [⟨tg, iter, [], 0⟩] scope gpos) X.env) :: starEach [] X.env := by rfl) :
    PE X (.Call (.Name "any" p) [.GeneratorExp elt [⟨tg, iter, [], 0⟩] scope gpos] [] pos) (tAny P wi g te (own.map (·.2))) := by
  refine ⟨fun pins s σ H Q I h => ?_⟩
  have hh : X.A.handled = none := hr.hd
  refine wpAny_Call_Name_kw (ld_blt I hG hM PyProof.Rows.boot_any ?_)
  refine PyProof.Rows.callWith_builtin1 ?_ hst (by rfl)
  rw [hst]
  show wpAny _ _ (spliced ((false, eval (.GeneratorExp elt [⟨tg, iter, [], 0⟩] scope gpos) X.env) :: backTo pos (starEach [] X.env))) _ _ s
  have hfree : ∀ y ∈ scope.names, y.2 = .free → ∃ c, X.env.cells.lookup y.1 = some c := fun y hy e =>
    (ok.free y hy e).elim (fun k => I.ok.has _ (.inl k)) fun k => I.ok.has _ (.inr k)
  refine Calls.spliced_cons (wpAny_GeneratorExp_make gk.co (closure_ok hfree) gk.nocell gk.dot ok.kind (by have := hr.dp; omega) (thn (hi.run pins s σ H _ I h) fun xv s1 hx => thn hx fun itv s2 h2 => ?_) hs)
  obtain ⟨it, fp, tn, J, H2, e, I2, T, st2, f2, ⟨ps, hP, ht⟩, W, w0, turn⟩ := h2
  subst e
  refine ⟨I2.nolimit, ?_⟩
  have hPs : s2.heap.get? P = some { cls := .none, data := .fields ps } := I2.hok P _ hP
  have cd : PySem.W.CodeHd s2.heap c P := TB.code.keeps fun b u e => I2.bk b u e
  have sz2 : ∀ b ∈ fp, b < s2.heap.objs.size := fun b hb => by
    obtain ⟨o, e, _⟩ := T.obj _ _ st2 b hb
    exact Heap.lt_size e
  have nfP : ∀ b ∈ fp, b ≠ P := fun b hb z => by
    have q := (f2 b hb).1
    rw [z, hP] at q
    cases q
  -- behind the table
  have cont : ∀ (code : Value) (h3 : Heap) (tk : Nat) (more : Array Value), s2.heap.objs.size ≤ h3.objs.size → (∀ b o, b ≠ P → s2.heap.get? b = some o → h3.get? b = some o) → h3.get? P = some { cls := .none, data := .fields (ps ++ more) } → TriplesOk (ps ++ more).toList →
      wpAny (model X.prog X.w) X.A (builtinsFor X.env.globals X.env.builtins) (fun bi s4 => ∀ h', h'.Ns s4.heap.objs.size (fun y => if y = ".0" then some (.ref it) else none) → Heap.SameBut s4.heap.objs.size (s4.heap.push { cls := .type "frame", data := .dict #[] }) h' →
        wpAny (model X.prog X.w) X.A (spliced (backTo pos (starEach [] X.env))) (fun vs s5 => wpAny (model X.prog X.w) X.A (call (.builtin "any") (.ref h'.objs.size :: vs)) (EP X pins σ Q) X.xe s5) X.xe { s4 with
            gens := s4.gens.push (.fresh (.compStart (.GeneratorExp elt [⟨tg, iter, [], 0⟩] scope gpos) 0 (.ref it) .none (genEnv scope (cloFrom X.env.cells scope.names []) s4.heap.objs.size code bi X.env))), toks := s4.toks + 1 + 1 + 1,
            heap := h'.push { cls := .type "generator", data := .fields #[.int s4.gens.size 0, .str "<genexpr>" (s4.toks + 1), .str (X.env.qual ++ "<genexpr>") (s4.toks + 1 + 1)] } }) X.xe { s2 with heap := h3, toks := tk } := by
    intro code h3 tk more hle3 hk3 hP3 ht3
    have I3 : Inv X pins σ (upd H2 P (.tbl (ps ++ more))) { s2 with heap := h3, gens := s2.gens, drawn := s2.drawn, toks := tk } := GxR.inv_tab I2 hP hk3 hP3 I2.bare
    have tab3 : GxR.Tabbed P H2 (upd H2 P (.tbl (ps ++ more))) := ⟨⟨_, upd_same, ht3⟩, fun b hb => upd_ne hb⟩
    have st3 : tn 0 h3 := T.keep _ _ _ st2 fun b hb o e => hk3 b o (nfP b hb) e
    have f3 : ∀ b ∈ fp, FpOk X pins (upd H2 P (.tbl (ps ++ more))) b := fun b hb => ⟨by rw [upd_ne (nfP b hb)]; exact (f2 b hb).1, (f2 b hb).2⟩
    generalize upd H2 P (.tbl (ps ++ more)) = H3 at I3 tab3 f3
    obtain ⟨m0, hw0⟩ := w0 H3 tab3
    have sz3 : ∀ b ∈ fp, b < h3.objs.size := fun b hb => Nat.lt_of_lt_of_le (sz2 b hb) hle3
    have hs3 : ({ s2 with heap := h3, gens := s2.gens, drawn := s2.drawn, toks := tk } : Shared) = { s2 with heap := h3, toks := tk } := rfl
    rw [hs3] at I3
    generalize hsh : ({ s2 with heap := h3, toks := tk } : Shared) = s3 at I3 ⊢
    have eh : h3 = s3.heap := by rw [← hsh]
    rw [eh] at st3 sz3
    clear hsh hs3 eh hP3 hk3 hle3
    obtain ⟨bm, ob, e1, e2, e3, e4, e5, e6, e7, e8⟩ := TB.bm
    refine wpAny_builtinsFor (m := X.mg) (by rw [I3.ok.glob]; exact I3.mod.glob.keeps I3.bk) e1 e2 (I3.bk _ _ e5) e6 e7 e8 ?_
    intro h' hn' hs'
    refine Calls.spliced_nil ?_
    have hsz : h'.objs.size = s3.heap.objs.size + 1 := by rw [hs'.1, Heap.size_push]
    generalize hgo : ({ cls := .type "generator", data := .fields #[.int s3.gens.size 0, .str "<genexpr>" (s3.toks + 1), .str (X.env.qual ++ "<genexpr>") (s3.toks + 1 + 1)] } : Obj) = go
    have kp5 : ∀ b o, s3.heap.get? b = some o → (h'.push go).get? b = some o := fun b o e => Heap.get?_push_of_some _ (hs'.extBut b o (Nat.ne_of_lt (Heap.lt_size e)) (Heap.get?_push_of_some _ e))
    generalize hce : genEnv scope (cloFrom X.env.cells scope.names []) s3.heap.objs.size code builtinsNs X.env = ce
    have hhA : (X.A.in1.in1.over (.compLoop (.GeneratorExp elt [⟨tg, iter, [], 0⟩] scope gpos) 0 (.ref it) .none ce) []).handled = none := hh
    have hFr : (X.A.in1.in1.over (.compLoop (.GeneratorExp elt [⟨tg, iter, [], 0⟩] scope gpos) 0 (.ref it) .none ce) []).frames = some (ce :: X.stack) := by
      show pushEnvs [ce] (pushEnvs [] X.A.frames) = _
      rw [I3.ok.frames]
      rfl
    have hRm : Room k (X.A.in1.in1.over (.compLoop (.GeneratorExp elt [⟨tg, iter, [], 0⟩] scope gpos) 0 (.ref it) .none ce) []) := by
      have z1 := hr.dp
      have z2 := hr.un
      refine ⟨hhA, ?_, ?_⟩
      · show X.A.depth + 0 + 1 + 3 * k + 5 < recursionLimit
        omega
      · show X.A.units + 1 + 1 + 0 + 3 + 16 * k + 200 < cLine
        omega
    generalize hAg : X.A.in1.in1.over (.compLoop (.GeneratorExp elt [⟨tg, iter, [], 0⟩] scope gpos) 0 (.ref it) .none ce) [] = Ag at hhA hFr hRm
    have I5 : Inv (gX X s3 H3 Ag ce fp) [(h'.objs.size, go)] (wipe σ (own.map (·.2))) H3 { s3 with heap := h'.push go, gens := s3.gens.push (.fresh (.compStart (.GeneratorExp elt [⟨tg, iter, [], 0⟩] scope gpos) 0 (.ref it) .none ce)), toks := s3.toks + 1 + 1 + 1 } := by
      have q := gen_start (code := code) (A' := Ag) (h5 := h'.push go) (g5 := s3.gens.push (.fresh (.compStart (.GeneratorExp elt [⟨tg, iter, [], 0⟩] scope gpos) 0 (.ref it) .none ce))) (t5 := s3.toks + 1 + 1 + 1) (go := go) I3 ok gk hN (fun b hb => ⟨f3 b hb, sz3 b hb⟩) hhA (by rw [hce]; exact hFr) kp5 (hn'.push _)
        (fun x hx => if_neg hx) hdN (I3.bare.push rfl) (a := h'.objs.size) (by omega) (Heap.get?_push_size _ (by rw [← hgo]; rfl)) (by rw [← hgo]; intro v z; cases z)
      rw [hce] at q
      exact q
    have st5 : tn 0 (h'.push go) := T.keep _ _ _ st3 fun b _ o e => kp5 b o e
    have nfp : ∀ b ∈ fp, H3 b = none := fun b hb => (f3 b hb).1
    have pg := hg s3 H3 Ag s3.heap.objs.size (cloFrom X.env.cells scope.names []) code fp
    have pe := he s3 H3 Ag s3.heap.objs.size (cloFrom X.env.cells scope.names []) code fp hRm
    rw [hce] at pg pe
    have cCo : ce.scope.isCoroutine = false := by rw [← hce]; exact gk.co
    clear hn' hs' kp5 w0 hce
    -- back in the def's context
    have back : ∀ {σ' : L2.St} {H' : Hp} {s' : Shared} {pl : List (Addr × Obj)}, Inv (gX X s3 H3 Ag ce fp) pl σ' H' s' → Inv X pins σ H' s' := fun {σ' H' s' pl} J => I3.call' (ch := fp) J.os J.base J.hok J.bare fun b hb =>
      ⟨(f3 b hb).2.2.2.1, (f3 b hb).2.1, (f3 b hb).2.2.2.2.1, (f3 b hb).2.2.2.2.2⟩
    have stat : ∀ {σ' : L2.St} {H' : Hp} {s' : Shared}, Inv (gX X s3 H3 Ag ce fp) [(h'.objs.size, go)] σ' H' s' → (∀ b ∈ fp, H' b = none) → ∀ b ∈ fp, FpOk (gX X s3 H3 Ag ce fp) [(h'.objs.size, go)] H' b := fun {σ' H' s'} J hn b hb =>
      ⟨hn b hb, (J.ok.exf b hb).1, J.ok.exfs b hb, .inl hb, fun x c e => (J.ok.exf b hb).2 x c e, fun p hp => by
        have hp : p = (h'.objs.size, go) := by simpa using hp
        rw [hp]
        exact Nat.ne_of_gt (Nat.lt_trans (sz3 b hb) (by rw [hsz]; exact Nat.lt_succ_self _))⟩
    have gen : ∀ {σ' : L2.St} {H' : Hp} {s' : Shared} {pl : List (Addr × Obj)}, Inv (gX X s3 H3 Ag ce fp) ([(h'.objs.size, go)] ++ pl) σ' H' s' → s'.heap.IsGen h'.objs.size s3.gens.size := fun {σ' H' s' pl} J => by
      have q := (J.pin (h'.objs.size, go) (by simp)).1
      exact ⟨go, _, _, q, by rw [← hgo], by rw [← hgo], by rw [← hgo]⟩
    -- the turns
    have loop : ∀ (m n i : Nat) (s₀ s : Shared) (H : Hp), m < n → W i m H → Inv (gX X s3 H3 Ag ce fp) [(h'.objs.size, go)] (wipe σ (own.map (·.2))) H s → tn i s.heap → (∀ b ∈ fp, H b = none) → s3.gens.size + 1 ≤ s.gens.size →
        Seg (model X.prog X.w) X.A.in1.in1 (fun n s₀ r s₁ => r = .ok .next ∧ gR (fun s => ∃ H', Inv X pins σ H' s ∧ Q (.bl false) H') n s₀ s₁) (gY s3.gens.size h'.objs.size true fun s => ∃ H', Inv X pins σ H' s ∧ Q (.bl true) H') n s₀
          (.compLoop (.GeneratorExp elt [⟨tg, iter, [], 0⟩] scope gpos) 0 (.ref it) .none ce) ((model X.prog X.w).den (.compLoop (.GeneratorExp elt [⟨tg, iter, [], 0⟩] scope gpos) 0 (.ref it) .none ce)) [] s := by
      intro m
      induction m using Nat.strongRecOn with
      | ind m ih =>
        intro n i s₀ s H hmn w J st nf hz
        show Seg (model X.prog X.w) _ _ _ n s₀ _ ((compTurn (.GeneratorExp elt [⟨tg, iter, [], 0⟩] scope gpos) 0 (.ref it) .none ce).onRaise (leaving ce)) [] s
        rw [compTurn_gen]
        rw [Sem.onRaise_eq_wrap]
        refine seg_bind_wrap (wpAny_standAt (seg_bind_wrap ?_))
        rw [hAg]
        rcases turn i m H w with ⟨stp, qq⟩ | ⟨go', Nx, hNx, step⟩
        · refine thnF (T.done (gX X s3 H3 Ag ce fp) rfl rfl rfl hc i _ s _ H (fun _ _ => False) J (stat J nf) st stp) fun r s6 ⟨hr6, J6⟩ => ?_
          subst hr6
          exact seg_end (.ok .next) ⟨rfl, J6.bare, H, back J6, qq⟩
        · refine GenW.wpAny_gsz hz (thnF (T.item (gX X s3 H3 Ag ce fp) rfl rfl rfl hc i _ s _ H (fun _ _ => False) J (stat J nf) st go') fun r s6 ⟨u, hr6, h6⟩ hz6 => ?_)
          subst hr6
          refine seg_bind_wrap ?_
          rw [hAg]
          refine GenW.wpAny_gsz hz6 (thnF h6 fun _ s7 ⟨x, H7, J7, r7, y7, st7, n7⟩ hz7 => ?_)
          have J7' := J7.pinned (stat J7 n7) (T.obj _ _ st7)
          refine seg_bind_wrap ?_
          rw [hAg]
          refine GenW.wpAny_gsz hz7 (thnF (pg.run _ s7 _ H7 x u _ J7' r7 (step x H7 y7)) fun _ s8 ⟨σ8, H8, J8, hw8, q8⟩ hz8 => ?_)
          simp only [List.forIn_nil]
          refine seg_bind_wrap (wpAny_pure ?_)
          simp only [if_true]
          have hy : ∀ v, yieldOut ce v = yieldValue v := fun v => by simp only [yieldOut, cCo, Bool.false_eq_true, if_false]
          simp only [hy]
          rw [Sem.bind_eq_wrap', Sem.bind_eq_wrap']
          rw [Sem.wrap_wrap, Sem.wrap_wrap]
          refine seg_wrap ?_
          rw [hAg]
          refine GenW.wpAny_gsz hz8 (thnF (pe.run _ s8 σ8 H8 _ J8 q8) fun z s9 ⟨yv, H9, J9, r9, b, eb, qb⟩ hz9 => ?_)
          subst eb
          obtain rfl : z = Value.bool b := r9
          obtain ⟨n', rfl⟩ : ∃ n', n = n' + 1 := ⟨n - 1, by omega⟩
          refine seg_at (seg_yield rfl rfl rfl ⟨b, rfl, gen J9, J9.nolimit, J9.bare, hz9, fun e => ?_, fun e s' r => ?_⟩)
          · subst e
            exact ⟨H9, back J9, qb⟩
          · have e : b = false := by
              cases b with
              | false => rfl
              | true => exact absurd rfl e
            subst e
            rw [if_pos rfl] at qb
            obtain ⟨m', hm', w'⟩ := hNx H9 qb
            have pin' : ∀ b ∈ fp, ∀ o, s7.heap.get? b = some o → s9.heap.get? b = some o ∧ H9 b = none := fun b hb o e =>
              let z := J9.pin (b, o) (List.mem_append_right _ (List.mem_append_right _ (mem_pinsAt hb e)))
              ⟨z.1, z.2.1⟩
            have hl : (wipe σ (own.map (·.2))).length = σ8.length := by rw [← hw8, wipe_length]
            have K9 : Inv (gX X s3 H3 Ag ce fp) [(h'.objs.size, go)] (wipe σ (own.map (·.2))) H9 s9 := J9.unpinned.weak hl fun j v e => by
              rw [← hw8] at e
              exact (wipe_some e).1
            refine seg_again rfl (ih m' hm' n' (i + 1) s' s' H9 (by omega) w' (r.inv K9) ?_ (fun b hb => ?_) (Nat.le_trans hz9 r.size))
            · rw [r.heap]
              exact T.keep _ _ _ st7 fun b hb o e => (pin' b hb o e).1
            · obtain ⟨o, e, _⟩ := T.obj _ _ st7 b hb
              exact (pin' b hb o e).2
    have mono : ∀ (b : Bool) (s s' : Shared), (∃ H', Inv X pins σ H' s ∧ Q (.bl b) H') → s'.os = s.os → AllBare s'.gens → (∀ b o, s.heap.get? b = some o → s'.heap.get? b = some o) → ∃ H', Inv X pins σ H' s' ∧ Q (.bl b) H' := fun b s s' ⟨H', J, q⟩ h1 h2 h3 =>
      ⟨H', inv_gens (J.kept (t' := s'.toks) h3) rfl h1 h2, q⟩
    generalize hs5 : ({ s3 with heap := h'.push go, gens := s3.gens.push (.fresh (.compStart (.GeneratorExp elt [⟨tg, iter, [], 0⟩] scope gpos) 0 (.ref it) .none ce)), toks := s3.toks + 1 + 1 + 1 } : Shared) = s5 at I5
    have hg5 : s5.gens[s3.gens.size]? = some (.fresh (.compStart (.GeneratorExp elt [⟨tg, iter, [], 0⟩] scope gpos) 0 (.ref it) .none ce)) := by
      rw [← hs5]
      exact Array.getElem?_push_size ..
    have hz5 : s3.gens.size + 1 ≤ s5.gens.size := by
      rw [← hs5]
      exact Nat.le_of_eq (Array.size_push ..).symm
    have ht5 : tn 0 s5.heap := by rw [← hs5]; exact st5
    have wt : Waits X.prog X.w X.A.in1 s3.gens.size h'.objs.size true (fun s => ∃ H', Inv X pins σ H' s ∧ Q (.bl false) H') (fun s => ∃ H', Inv X pins σ H' s ∧ Q (.bl true) H') (m0 + 1) s5 := by
      refine ⟨gen (pl := []) I5, I5.nolimit, I5.bare, _, hg5, fun s' r => ⟨rfl, ?_⟩⟩
      have lp := loop m0 (m0 + 1) 0 s' s' H3 (Nat.lt_succ_self _) hw0 (r.inv I5) (by rw [r.heap]; exact ht5) nfp (Nat.le_trans hz5 r.size)
      show Seg (model X.prog X.w) _ _ _ _ s' _ ((compStart (.GeneratorExp elt [⟨tg, iter, [], 0⟩] scope gpos) 0 (.ref it) .none ce).onRaise (leaving ce)) [] s'
      unfold compStart
      rw [Sem.onRaise_eq_wrap]
      show Seg (model X.prog X.w) _ _ _ _ s' _ ((ask >>= _).wrap _ _ _ _) [] s'
      refine seg_bind_wrap (wpAny_askSetting ?_)
      have ts : tn 0 s'.heap := by rw [r.heap]; exact ht5
      split
      · exact seg_again rfl lp
      · first
          | exact seg_bind_wrap (wpAny_rule (seg_bind_wrap (wpAny_standAt (seg_bind_wrap (T.self _ 0 s' _ _ ts (seg_again rfl lp))))))
          | (refine seg_bind_wrap (wpAny_rule ?_); show Seg (model X.prog X.w) _ _ _ _ s' _ ((standAt iter.pos >>= _).wrap _ _ _ _) [] s'; exact seg_bind_wrap (wpAny_standAt (seg_bind_wrap (T.self _ 0 s' _ _ ts (seg_again rfl lp)))))
    refine call_function_tree PySem.F.kind_any PySem.F.plain_any PySem.F.entry_any (PySem.F.args_any1 _) ?_
    unfold Builtin.«any»
    refine wpAny_bind (m := oneArg "any" _) (wpAny_pure ?_)
    refine wpAny_bind (wpAny_pyIter_gen (gen (pl := []) I5) ?_)
    refine wpAny_pure ⟨plainId_quiet PySem.F.plain_any_loop _, codeAny_mono (any_loop hh hr.depth (mono false) (mono true) (m0 + 1) s5 wt) fun r s' hq => ?_⟩
    rcases hq with ⟨rfl, H', J, q⟩ | ⟨rfl, H', J, q⟩
    · exact ⟨.bl false, H', J, rfl, q⟩
    · exact ⟨.bl true, H', J, rfl, q⟩
  cases hf : codeAmong gpos ps.toList with
  | none =>
    refine wpAny_genexprCodeX hcode (cd.code hPs ht) (cd.tab hPs) hf fun c' h' tk hx hge hlt hco' _ htab' _ => ?_
    obtain ⟨o1, vs, f1, tf, fl, tg1, inF, tx, tt, op, _, _, _, _, _, _, _, _, _, htr, _⟩ := hco'
    exact cont _ h' tk _ (Nat.le_trans hge (Nat.le_of_lt hlt)) (fun b o hb e => hx b o hb e) htab'.2 htr
  | some cv =>
    refine wpAny_genexprCode_hit hcode (cd.code hPs ht) hf ?_
    have := cont cv s2.heap s2.toks #[] (Nat.le_refl _) (fun _ _ _ e => e) (by rw [hPs]; simp) (by simpa using ht)
    exact this
end
/-! ### {**d, k: v} -/
section
open Sem (wp)
variable {prog : Program} {w : World} {K : Type} [DecidableEq K] {knd : KeyKind prog w K} {A : Around} {E : Value → Shared → Prop} {s : Shared}
theorem wpAny_dictPut {d : Addr} {kvs : List (K × Value)} {k : K} {key v : Value} {Q : Unit → Shared → Prop} (hkey : knd.is k key = true) (hm : s.heap.DictOf knd d kvs)
    (hQ : ∀ h', h'.DictOf knd d (stored kvs k v) → Heap.SameBut d s.heap h' → Q () { s with heap := h' })
    (hsz : kvs.length ≤ sizeLine) :
    wpAny (model prog w) A (dictPut d (knd.hash k) key v) Q E s := by
  obtain ⟨o, es, ep, ho, hc, hd, hk, hp, hn⟩ := hm
  have hes : es.size ≤ sizeLine := by have e1 := hp.length; have e2 : es.toList.length = es.size := by simp
                                      omega
  unfold dictPut
  refine wpAny_bind (wpAny_dictFind_of hkey ho hd hk ?_)
  have hidx : (es.findIdx? fun e => knd.is k e.key) = kvs.findIdx? fun kv => decide (kv.1 = k) := by
    rw [← hp.findIdx k]; obtain ⟨l⟩ := es; simp
  cases hi : es.findIdx? fun e => knd.is k e.key with
  | some i =>
    refine wpAny_updateDict ho hd (hQ _ ⟨_, _, ep, Heap.get?_update_self _ ho (Obj.isFreed_of_dict (Obj.data_mapDict hd _)),
      hc.mapDict _, Obj.data_mapDict hd _, hk.modify _ _, ?_, ?_⟩ (Heap.SameBut.update ..))
    · rw [stored, if_pos (any_of_findIdx_some (hidx ▸ hi))]
      have hl : (es.toList.findIdx? fun e => knd.is k e.key) = some i := by rw [← hi]; obtain ⟨l⟩ := es; simp
      have := hp.modify hn hl v
      obtain ⟨l⟩ := es
      simpa using this
    · rw [stored, if_pos (any_of_findIdx_some (hidx ▸ hi)), keys_map_store]; exact hn
  | none =>
    have hnot : k ∉ kvs.map (·.1) := not_mem_of_findIdx_none (hidx ▸ hi)
    have hany : ¬ (kvs.any fun kv => decide (kv.1 = k)) = true := by
      rw [List.any_eq_true]; rintro ⟨kv, hkv, he⟩
      exact hnot (List.mem_map.mpr ⟨kv, hkv, of_decide_eq_true he⟩)
    refine wpAny_updateDictKeys (hz := hes) ho hd (hQ _ ⟨_, _, ep + 1, Heap.get?_update_self _ ho (Obj.isFreed_of_dict (Obj.data_mapDictKeys hd _)),
      hc.mapDictKeys _, Obj.data_mapDictKeys hd _, hk.push hkey _, ?_, ?_⟩ (Heap.SameBut.update ..))
    · rw [stored, if_neg hany]
      have := hp.append hkey (knd.hash k) v
      obtain ⟨l⟩ := es
      simpa using this
    · rw [stored, if_neg hany, List.map_append, List.nodup_append]
      refine ⟨hn, by simp, ?_⟩
      intro a ha b hb
      simp only [List.map_cons, List.map_nil, List.mem_singleton] at hb
      subst hb
      exact fun e => hnot (e ▸ ha)
theorem wpAny_mergeMapping {d o : Addr} {kvs more : List (K × Value)} {Q : Unit → Shared → Prop} (hdo : d ≠ o) (hoS : (o == sysModules) = false)
    (hd : s.heap.DictOf knd d kvs) (ho : s.heap.DictOf knd o more)
    (hQ : ∀ h', h'.DictOf knd d (merged kvs more) → h'.DictOf knd o more → Heap.SameBut d s.heap h' → Q () { s with heap := h' })
    (hsz : kvs.length + more.length ≤ sizeLine) :
    wpAny (model prog w) A (mergeMapping d (.ref o) false) Q E s := by
  obtain ⟨od, esd, epd, hod, hcd, hdd, hkd, hpd, hnd⟩ := id hd
  obtain ⟨oo, eso, epo, hoo, hco, hdo', hko, hpo, hno⟩ := id ho
  have hlen : more.length = eso.size := by rw [← hpo.length]; simp
  unfold mergeMapping
  refine wpAny_bind (wpAny_isInstance ho.typeIs isSubtype_dict_dict ?_)
  dsimp only
  rw [if_pos rfl]
  refine wpAny_bind (wpAny_specialOf ho.typeIs F.slot_dict_iter.lookup ?_)
  rw [show (some (Value.builtin "dict.__iter__") == some (Value.builtin "dict.__iter__")) = true from beq_self_eq_true _]
  refine wpAny_bind (wpAny_pure ?_)
  dsimp only
  rw [if_neg (by rw [hoS]; exact Bool.false_ne_true)]
  refine wpAny_bind (wpAny_dictEntries hod hdd ?_)
  have loopE : (forIn eso PUnit.unit fun (e : DictEntry) (_ : PUnit) => (match e.key with
      | Value.ref a => do
        let __do_lift ← specialOf e.key (Str.ofString "__eq__")
        if (__do_lift != some (Value.builtin "object.__eq__")) = true then
            if (Array.filter (fun x => x.hash == e.hash) eso).size > 1 then do
              (unsupported "dict.merge-into-an-empty-dict:keys-of-equal-hash" : Sem PUnit)
              pure (ForInStep.yield PUnit.unit)
            else pure (ForInStep.yield PUnit.unit)
          else pure (ForInStep.yield PUnit.unit)
      | x => pure (ForInStep.yield PUnit.unit) : Sem (ForInStep PUnit))) = pure PUnit.unit := by
    rw [← Array.forIn_toList]
    refine forIn_yield_id _ fun e he c => ?_
    obtain ⟨k, hkey, _⟩ := hko e (Array.mem_toList_iff.mp he)
    have bv := knd.byValue k _ hkey
    cases hk : e.key with
    | ref a => rw [hk] at bv; cases bv
    | _ => rfl
  suffices rest : wpAny (model prog w) A (do
      let l ← dictEntries o
      let epoch ← dictEpoch o
      forIn (List.range l.size) PUnit.unit fun i (_ : PUnit) => (do
        let l' ← dictEntries o
        match l'[i]? with
          | some e => do
            holding [e.key, e.val] (dictPut d e.hash e.key e.val)
            let ep' ← dictEpoch o
            if (ep' != epoch) = true then do
                (unsupported "dict.changed-during-merge" : Sem PUnit)
                pure (ForInStep.yield PUnit.unit)
              else pure (ForInStep.yield PUnit.unit)
          | _ => do
            (unsupported "dict.changed-during-merge" : Sem PUnit)
            pure (ForInStep.yield PUnit.unit) : Sem (ForInStep PUnit))
      pure ()) Q E s by
    split
    · refine wpAny_bind (wpAny_dictEntries hoo hdo' ?_)
      refine wpAny_bind (wpAny_of_eq loopE ?_)
      exact rest
    · exact rest
  refine wpAny_bind (wpAny_dictEntries hoo hdo' ?_)
  refine wpAny_bind (wpAny_dictEpoch hoo hdo' ?_)
  refine wpAny_bind ?_
  refine wpAny_forIn_list _
    (fun rest _ s' => ∃ h' i, s' = { s with heap := h' } ∧ rest = List.range' i (eso.size - i) ∧ i ≤ eso.size ∧ h'.DictOf knd d (merged kvs (more.take i)) ∧ h'.get? o = some oo ∧ Heap.SameBut d s.heap h')
    _ ?_ ?_ _ _ ⟨s.heap, 0, rfl, by rw [List.range_eq_range', Nat.sub_zero], Nat.zero_le _, by simpa [merged] using hd, hoo, Heap.SameBut.refl _ _⟩
  · rintro x rest b s' ⟨h', i, rfl, hr, hi, hd', hoo', hs'⟩
    have hlt : i < eso.size := by
      rcases Nat.lt_or_ge i eso.size with h | h
      · exact h
      · rw [Nat.sub_eq_zero_of_le h] at hr; simp at hr
    obtain ⟨rfl, hrest⟩ : x = i ∧ rest = List.range' (i + 1) (eso.size - (i + 1)) := by
      have e : eso.size - i = (eso.size - (i + 1)) + 1 := by omega
      rw [e, List.range'_succ] at hr
      injection hr with h1 h2
      exact ⟨h1, h2⟩
    refine wpAny_bind (wpAny_dictEntries hoo' hdo' ?_)
    rw [Array.getElem?_eq_getElem hlt]
    obtain ⟨kv, hkv⟩ : ∃ kv, more[x]? = some kv := ⟨more[x]'(by rw [hlen]; exact hlt), List.getElem?_eq_getElem _⟩
    obtain ⟨k, v⟩ := kv
    obtain ⟨hkey, hval⟩ := hpo.get? (e := eso[x]) (by simp [hlt]) hkv
    obtain ⟨k', hkey', hhash⟩ := hko eso[x] (Array.getElem_mem hlt)
    obtain rfl : k' = k := knd.inj _ _ _ hkey' hkey
    show wpAny _ _ (holding [eso[x].key, eso[x].val] (dictPut d eso[x].hash eso[x].key eso[x].val) >>= _) _ _ _
    rw [hhash, hval]
    have hmx : (merged kvs (more.take x)).length ≤ sizeLine := by
      have e1 := merged_length_le kvs (more.take x)
      have e2 : (more.take x).length ≤ more.length := by rw [List.length_take]; omega
      omega
    refine wpAny_bind (wpAny_holding (wpAny_dictPut (hsz := hmx) hkey hd' fun h'' hd'' hs'' => ?_))
    have hoo'' : h''.get? o = some oo := (hs''.2 o (Ne.symm hdo)).trans hoo'
    refine wpAny_bind (wpAny_dictEpoch hoo'' hdo' ?_)
    rw [if_neg (by simp)]
    exact wpAny_pure ⟨h'', x + 1, rfl, hrest, hlt, by rw [merged_take_succ kvs more x (k', v) hkv]; exact hd'', hoo'', hs'.trans hs''⟩
  · rintro b s' ⟨h', i, rfl, hr, hi, hd', hoo', hs'⟩
    have hin : i = eso.size := by
      rcases Nat.lt_or_ge i eso.size with h | h
      · have e : eso.size - i = (eso.size - (i + 1)) + 1 := by omega
        rw [e, List.range'_succ] at hr; exact nomatch hr
      · exact Nat.le_antisymm hi h
    refine wpAny_pure (hQ h' ?_ ⟨oo, eso, epo, hoo', hco, hdo', hko, hpo, hno⟩ hs')
    rw [hin, ← hlen, List.take_length] at hd'; exact hd'
end
section
open Sem (wp)
variable {prog : Program} {w : World} {K : Type} [DecidableEq K] {knd : KeyKind prog w K} {A : Around} {E : Value → Shared → Prop} {s : Shared}
/-- the walk of {**m, k: v} -/
theorem wpAny_dstar {mt kt vt : Sem Value} {Q : Value → Shared → Prop}
    (h : wpAny (model prog w) A mt (fun m s1 => ∃ o more, m = .ref o ∧ (o == sysModules) = false ∧ s.heap.objs.size ≠ o ∧ s1.heap.DictOf knd o more ∧ s1.heap.DictOf knd s.heap.objs.size [] ∧ more.length ≤ sizeLine ∧
      ∀ h1, h1.DictOf knd s.heap.objs.size (merged [] more) → Heap.SameBut s.heap.objs.size s1.heap h1 →
        wpAny (model prog w) A kt (fun kv s2 => wpAny (model prog w) A vt (fun vv s3 => ∃ k acc, knd.is k kv = true ∧ s3.heap.DictOf knd s.heap.objs.size acc ∧ acc.length + 1 ≤ sizeLine ∧ s3.heap.DictOf knd h1.objs.size [] ∧ h1.objs.size ≠ s.heap.objs.size ∧ (h1.objs.size == sysModules) = false ∧
          ∀ h4, h4.DictOf knd h1.objs.size [(k, vv)] → Heap.SameBut h1.objs.size s3.heap h4 → ∀ h5, h5.DictOf knd s.heap.objs.size (stored acc k vv) → Heap.SameBut s.heap.objs.size h4 h5 → Q (.ref s.heap.objs.size) { s3 with heap := h5, toks := s3.toks + 1 }) E s2) E
          { s1 with heap := h1.push { cls := .type "dict", data := .dict #[] } }) E { s with heap := s.heap.push { cls := .type "dict", data := .dict #[] } }) :
    wpAny (model prog w) A (dictDisplay [(none, mt), (some kt, vt)]) Q E s := by
  unfold dictDisplay
  dsimp only
  rw [List.forIn_cons]
  refine wpAny_bind (wpAny_bind ?_)
  dsimp only
  refine wpAny_bind (wpAny_of_eq (if_pos rfl) ?_)
  dsimp only
  refine wpAny_bind (wpAny_alloc ?_)
  refine wpAny_bind (wpAny_holding (wpAny_mono h (fun m s1 h1 => ?_) fun _ _ e => e))
  obtain ⟨o, more, rfl, hoS, hdo, ho, hd, hsz, h1⟩ := h1
  refine wpAny_bind (wpAny_onRaise (wpAny_tryCatch (wpAny_onRaise (wpAny_holding ?_))))
  refine wpAny_mergeMapping hdo hoS hd ho (fun h' hd' ho' hs' => ?_) (by rw [List.length_nil, Nat.zero_add]; exact hsz)
  refine wpAny_pure ?_
  dsimp only
  rw [List.forIn_cons]
  refine wpAny_bind ?_
  dsimp only
  refine wpAny_of_eq (if_neg (by simp)) ?_
  dsimp only
  rw [List.forIn_nil]
  refine wpAny_pure ?_

  refine wpAny_bind ?_
  rw [if_neg (by exact Bool.false_ne_true)]
  dsimp only
  refine wpAny_bind (wpAny_holding (wpAny_subDict (knd := knd) (by show 1 ≤ 15; decide) ?_))
  refine evalPairs_cons (wpAny_mono (h1 h' hd' hs') (fun kv s2 h2 => wpAny_mono h2 (fun vv s3 h3 => evalPairs_nil ?_) fun _ _ e => e) fun _ _ e => e)
  obtain ⟨k, acc, hkey, hda, hacc, hdn, hne, hnS, hQ⟩ := h3
  refine ⟨[(k, vv)], ⟨hkey, rfl, trivial⟩, hdn, fun h4 hm4 hs4 => ?_⟩
  refine wpAny_bind (wpAny_onRaise (wpAny_holding ?_))
  have e1 : merged [] [(k, vv)] = [(k, vv)] := by simp [merged, stored]
  rw [e1] at hm4
  have hda4 : h4.DictOf knd s.heap.objs.size acc := hda.sameBut hs4 (Ne.symm hne)
  refine wpAny_mergeMapping (Ne.symm hne) hnS hda4 hm4 (fun h5 hd5 ho5 hs5 => ?_) (by rw [List.length_singleton]; exact hacc)
  refine wpAny_pure (wpAny_pure ?_)
  have e2 : merged acc [(k, vv)] = stored acc k vv := by simp [merged]
  rw [e2] at hd5
  exact hQ h4 hm4 hs4 h5 hd5 hs5
end
/-- {**d, k: v}: d a dict of ints and texts -/
def tDStar (td tk tv : L2.TE) : L2.TE := fun σ H Q => ∀ p, H p = none → td σ (upd H p (.dK [])) fun m H1 => ∃ a kvs, m = .ref a ∧ H1 a = some (.dK kvs) ∧ a ≠ p ∧ H1 p = some (.dK []) ∧ kvs.length ≤ 1000 ∧
  ∀ q, (upd H1 p (.dK (mergeK [] kvs))) q = none → tk σ (upd (upd H1 p (.dK (mergeK [] kvs))) q (.dK [])) fun x H2 => tv σ H2 fun y H3 => ∃ (k : Key) (acc : List (Key × V)), x = kV k ∧ H3 p = some (.dK acc) ∧ acc.length ≤ 1000 ∧ H3 q = some (.dK []) ∧ p ≠ q ∧
    Q (.ref p) (upd (upd H3 q (.dK [(k, y)])) p (.dK (putK acc k y)))
theorem pe_dstar {X : Cx} {pos : Pos} {m k v : Expr} {td tk tv : TE} (hm : PE X m td) (hk : PE X k tk) (hv : PE X v tv) : PE X (.Dict [none, some k] [m, v] pos) (tDStar td tk tv) := by
  refine ⟨fun pins s σ H Q I q => ?_⟩
  have hn := I.hok.fresh (Nat.le_refl s.heap.objs.size)
  have I1 := I.laid (a := s.heap.objs.size) (o := .dK []) (h' := s.heap.push { cls := .type "dict", data := .dict #[] }) (t' := s.toks) (fun _ _ q => Heap.get?_push_of_some _ q) (Nat.le_refl _) (dk_empty s.heap I.big)
  rw [arm_eval_Dict]
  refine wpAny_bind (wpAny_standAt ?_)
  show wpAny _ _ (dictDisplay [(none, do let x ← eval m X.env; standAt pos; pure x), (some (eval k X.env), do let x ← eval v X.env; standAt pos; pure x)]) _ _ _
  refine wpAny_dstar (knd := mixKind X.prog X.w) ?_
  refine wpAny_bind (thn (hm.run pins _ σ _ _ I1 (q _ hn)) fun u s1 ⟨x, H1, I2, rx, a, kvs, ex, ha, ap, hp, l, q1⟩ => wpAny_bind (wpAny_standAt (wpAny_pure ?_)))
  subst ex
  obtain rfl : u = Value.ref a := rx
  obtain ⟨z2, hd2, vs2, rel2, dd2⟩ := dk_of I2.hok ha
  obtain ⟨z1, hd1, vs1, rel1, dd1⟩ := dk_of I2.hok hp
  cases rel1
  refine ⟨a, vs2, rfl, hd2, Ne.symm ap, dd2, dd1, by rw [← rel2.length]; exact z2, fun h1 dm1 sb1 => ?_⟩
  have he1 : ∃ q, h1.get? s.heap.objs.size = some q := let ⟨q, _, _, hq, _⟩ := dm1; ⟨q, hq⟩
  have zm : (mergeK [] kvs).length ≤ sizeLine := by
    have := length_mergeK kvs []
    rw [List.length_nil] at this
    omega
  have I3 := d_write (t' := s1.toks) I2 (by rw [hp]; exact True.intro) sb1 he1 (dk_new (H' := upd H1 s.heap.objs.size (.dK (mergeK [] kvs))) zm hd1 (rel2.merge .nil) dm1)
  have hn3 := I3.hok.fresh (Nat.le_refl h1.objs.size)
  have I4 := I3.laid (a := h1.objs.size) (o := .dK []) (h' := h1.push { cls := .type "dict", data := .dict #[] }) (t' := s1.toks) (fun _ _ q => Heap.get?_push_of_some _ q) (Nat.le_refl _) (dk_empty h1 I3.big)
  refine thn (hk.run pins _ σ _ _ I4 (q1 _ hn3)) fun kv s2 ⟨y, H2, I5, ry, q2⟩ => ?_
  refine wpAny_bind (thn (hv.run pins _ σ _ _ I5 q2) fun vv s3 ⟨z, H3, I6, rz, k', acc, ek, hpa, la, hq, pq, q3⟩ => wpAny_bind (wpAny_standAt (wpAny_pure ?_)))
  subst ek
  obtain ⟨z4, hd4, vs4, rel4, dd4⟩ := dk_of I6.hok hpa
  obtain ⟨z5, hd5, vs5, rel5, dd5⟩ := dk_of I6.hok hq
  cases rel5
  refine ⟨k', vs4, kV_is ry, dd4, ?_, dd5, Ne.symm pq, hd5, fun h4 d2 sb4 h5 d1 sb5 => ⟨.ref s.heap.objs.size, _, ?_, rfl, q3⟩⟩
  · rw [← rel4.length]
    exact Nat.lt_of_le_of_lt la (by decide)
  have r1 : KV (putK acc k' z) (stored vs4 k' vv) := rel4.put k' rz
  have r2 : KV [(k', z)] [(k', vv)] := .cons ⟨rfl, rz⟩ .nil
  have he4 : ∃ q, h4.get? h1.objs.size = some q := let ⟨q, _, _, hq, _⟩ := d2; ⟨q, hq⟩
  have he5 : ∃ q, h5.get? s.heap.objs.size = some q := let ⟨q, _, _, hq, _⟩ := d1; ⟨q, hq⟩
  have I7 := d_write (t' := s3.toks + 1) I6 (by rw [hq]; exact True.intro) sb4 he4 (dk_new (H' := upd H3 h1.objs.size (.dK [(k', z)])) (by show 1 ≤ sizeLine; decide) hd5 r2 d2)
  have zp : (putK acc k' z).length ≤ sizeLine := by
    have := length_putK acc k' z
    exact Nat.le_trans this (Nat.le_of_lt (Nat.lt_of_le_of_lt (Nat.succ_le_succ la) (by decide)))
  have hp7 : (upd H3 h1.objs.size (.dK [(k', z)])) s.heap.objs.size = some (.dK acc) := by rw [upd_ne pq]; exact hpa
  have I8 := d_write (t' := s3.toks + 1) I7 (by rw [hp7]; exact True.intro) sb5 he5 (dk_new (H' := upd (upd H3 h1.objs.size (.dK [(k', z)])) s.heap.objs.size (.dK (putK acc k' z))) zp hd4 r1 d1)
  exact I8
/-! ### {**m, k1: v1, k2: v2} and {**a, **b} -/
section
open Sem (wp)
variable {prog : Program} {w : World} {K : Type} [DecidableEq K] {knd : KeyKind prog w K} {A : Around} {E : Value → Shared → Prop} {s : Shared}
theorem wpAny_dstar2 {mt kt vt kt2 vt2 : Sem Value} {Q : Value → Shared → Prop}
    (h : wpAny (model prog w) A mt (fun m s1 => ∃ o more, m = .ref o ∧ (o == sysModules) = false ∧ s.heap.objs.size ≠ o ∧ s1.heap.DictOf knd o more ∧ s1.heap.DictOf knd s.heap.objs.size [] ∧ more.length ≤ sizeLine ∧
      ∀ h1, h1.DictOf knd s.heap.objs.size (merged [] more) → Heap.SameBut s.heap.objs.size s1.heap h1 →
        wpAny (model prog w) A kt (fun kv s2 => wpAny (model prog w) A vt (fun vv s3 => wpAny (model prog w) A kt2 (fun kv2 s4 => wpAny (model prog w) A vt2 (fun vv2 s5 => ∃ k k2 acc, knd.is k kv = true ∧ knd.is k2 kv2 = true ∧ s5.heap.DictOf knd s.heap.objs.size acc ∧ acc.length + 2 ≤ sizeLine ∧ s5.heap.DictOf knd h1.objs.size [] ∧ h1.objs.size ≠ s.heap.objs.size ∧ (h1.objs.size == sysModules) = false ∧
          ∀ h4, h4.DictOf knd h1.objs.size (merged [] [(k, vv), (k2, vv2)]) → Heap.SameBut h1.objs.size s5.heap h4 → ∀ h5, h5.DictOf knd s.heap.objs.size (merged acc (merged [] [(k, vv), (k2, vv2)])) → Heap.SameBut s.heap.objs.size h4 h5 → Q (.ref s.heap.objs.size) { s5 with heap := h5, toks := s5.toks + 2 }) E s4) E s3) E s2) E
          { s1 with heap := h1.push { cls := .type "dict", data := .dict #[] } }) E { s with heap := s.heap.push { cls := .type "dict", data := .dict #[] } }) :
    wpAny (model prog w) A (dictDisplay [(none, mt), (some kt, vt), (some kt2, vt2)]) Q E s := by
  unfold dictDisplay
  dsimp only
  rw [List.forIn_cons]
  refine wpAny_bind (wpAny_bind ?_)
  dsimp only
  refine wpAny_bind (wpAny_of_eq (if_pos rfl) ?_)
  dsimp only
  refine wpAny_bind (wpAny_alloc ?_)
  refine wpAny_bind (wpAny_holding (wpAny_mono h (fun m s1 h1 => ?_) fun _ _ e => e))
  obtain ⟨o, more, rfl, hoS, hdo, ho, hd, hsz, h1⟩ := h1
  refine wpAny_bind (wpAny_onRaise (wpAny_tryCatch (wpAny_onRaise (wpAny_holding ?_))))
  refine wpAny_mergeMapping hdo hoS hd ho (fun h' hd' ho' hs' => ?_) (by rw [List.length_nil, Nat.zero_add]; exact hsz)
  refine wpAny_pure ?_
  dsimp only
  rw [List.forIn_cons]
  refine wpAny_bind ?_
  dsimp only
  refine wpAny_of_eq (if_neg (by simp)) ?_
  dsimp only
  rw [List.forIn_cons]
  refine wpAny_bind ?_
  dsimp only
  refine wpAny_of_eq (if_neg (by simp)) ?_
  dsimp only
  rw [List.forIn_nil]
  refine wpAny_pure ?_
  refine wpAny_bind ?_
  rw [if_neg (by exact Bool.false_ne_true)]
  dsimp only
  refine wpAny_bind (wpAny_holding (wpAny_subDict (knd := knd) (by show 2 ≤ 15; decide) ?_))
  refine evalPairs_cons (wpAny_mono (h1 h' hd' hs') (fun kv s2 h2 => wpAny_mono h2 (fun vv s3 h3 => evalPairs_cons (wpAny_mono h3 (fun kv2 s4 h4 => wpAny_mono h4 (fun vv2 s5 h5 => evalPairs_nil ?_) fun _ _ e => e) fun _ _ e => e)) fun _ _ e => e) fun _ _ e => e)
  obtain ⟨k, k2, acc, hkey, hkey2, hda, hacc, hdn, hne, hnS, hQ⟩ := h5
  refine ⟨[(k, vv), (k2, vv2)], ⟨hkey, rfl, hkey2, rfl, trivial⟩, hdn, fun h4 hm4 hs4 => ?_⟩
  refine wpAny_bind (wpAny_onRaise (wpAny_holding ?_))
  have hda4 : h4.DictOf knd s.heap.objs.size acc := hda.sameBut hs4 (Ne.symm hne)
  have hl : (merged [] [(k, vv), (k2, vv2)]).length ≤ 2 := merged_length_le [] [(k, vv), (k2, vv2)]
  refine wpAny_mergeMapping (Ne.symm hne) hnS hda4 hm4 (fun h5 hd5 ho5 hs5 => ?_) (by omega)
  refine wpAny_pure (wpAny_pure ?_)
  exact hQ h4 hm4 hs4 h5 hd5 hs5
theorem wpAny_dstars {mt mt2 : Sem Value} {Q : Value → Shared → Prop}
    (h : wpAny (model prog w) A mt (fun m s1 => ∃ o more, m = .ref o ∧ (o == sysModules) = false ∧ s.heap.objs.size ≠ o ∧ s1.heap.DictOf knd o more ∧ s1.heap.DictOf knd s.heap.objs.size [] ∧ more.length ≤ sizeLine ∧
      ∀ h1, h1.DictOf knd s.heap.objs.size (merged [] more) → Heap.SameBut s.heap.objs.size s1.heap h1 →
        wpAny (model prog w) A mt2 (fun m2 s2 => ∃ o2 more2 acc, m2 = .ref o2 ∧ (o2 == sysModules) = false ∧ s.heap.objs.size ≠ o2 ∧ s2.heap.DictOf knd o2 more2 ∧ s2.heap.DictOf knd s.heap.objs.size acc ∧ acc.length + more2.length ≤ sizeLine ∧
          ∀ h2, h2.DictOf knd s.heap.objs.size (merged acc more2) → Heap.SameBut s.heap.objs.size s2.heap h2 → Q (.ref s.heap.objs.size) { s2 with heap := h2 }) E
          { s1 with heap := h1 }) E { s with heap := s.heap.push { cls := .type "dict", data := .dict #[] } }) :
    wpAny (model prog w) A (dictDisplay [(none, mt), (none, mt2)]) Q E s := by
  unfold dictDisplay
  dsimp only
  rw [List.forIn_cons]
  refine wpAny_bind (wpAny_bind ?_)
  dsimp only
  refine wpAny_bind (wpAny_of_eq (if_pos rfl) ?_)
  dsimp only
  refine wpAny_bind (wpAny_alloc ?_)
  refine wpAny_bind (wpAny_holding (wpAny_mono h (fun m s1 h1 => ?_) fun _ _ e => e))
  obtain ⟨o, more, rfl, hoS, hdo, ho, hd, hsz, h1⟩ := h1
  refine wpAny_bind (wpAny_onRaise (wpAny_tryCatch (wpAny_onRaise (wpAny_holding ?_))))
  refine wpAny_mergeMapping hdo hoS hd ho (fun h' hd' ho' hs' => ?_) (by rw [List.length_nil, Nat.zero_add]; exact hsz)
  refine wpAny_pure ?_
  dsimp only
  rw [List.forIn_cons]
  refine wpAny_bind (wpAny_bind ?_)
  dsimp only
  refine wpAny_of_eq (if_pos rfl) ?_
  dsimp only
  refine wpAny_bind (wpAny_pure ?_)
  refine wpAny_bind (wpAny_holding (wpAny_mono (h1 h' hd' hs') (fun m2 s2 h2 => ?_) fun _ _ e => e))
  obtain ⟨o2, more2, acc, rfl, hoS2, hdo2, ho2, hd2, hsz2, hQ⟩ := h2
  refine wpAny_bind (wpAny_onRaise (wpAny_tryCatch (wpAny_onRaise (wpAny_holding ?_))))
  refine wpAny_mergeMapping hdo2 hoS2 hd2 ho2 (fun h'' hd'' ho'' hs'' => ?_) hsz2
  refine wpAny_pure ?_
  dsimp only
  rw [List.forIn_nil]
  refine wpAny_pure ?_
  refine wpAny_bind ?_
  refine wpAny_of_eq (if_pos rfl) ?_
  exact wpAny_pure (hQ h'' hd'' hs'')
end
/-- {**d, k1: v1, k2: v2}: d a dict of ints and texts -/
def tDStar2 (td tk tv tk2 tv2 : L2.TE) : L2.TE := fun σ H Q => ∀ p, H p = none → td σ (upd H p (.dK [])) fun m H1 => ∃ a kvs, m = .ref a ∧ H1 a = some (.dK kvs) ∧ a ≠ p ∧ H1 p = some (.dK []) ∧ kvs.length ≤ 1000 ∧
  ∀ q, (upd H1 p (.dK (mergeK [] kvs))) q = none → tk σ (upd (upd H1 p (.dK (mergeK [] kvs))) q (.dK [])) fun x H2 => tv σ H2 fun y H3 => tk2 σ H3 fun x2 H4 => tv2 σ H4 fun y2 H5 => ∃ (k k2 : Key) (acc : List (Key × V)), x = kV k ∧ x2 = kV k2 ∧ H5 p = some (.dK acc) ∧ acc.length ≤ 1000 ∧ H5 q = some (.dK []) ∧ p ≠ q ∧
    Q (.ref p) (upd (upd H5 q (.dK (mergeK [] [(k, y), (k2, y2)]))) p (.dK (mergeK acc (mergeK [] [(k, y), (k2, y2)]))))
theorem pe_dstar2 {X : Cx} {pos : Pos} {m k v k2 v2 : Expr} {td tk tv tk2 tv2 : TE} (hm : PE X m td) (hk : PE X k tk) (hv : PE X v tv) (hk2 : PE X k2 tk2) (hv2 : PE X v2 tv2) : PE X (.Dict [none, some k, some k2] [m, v, v2] pos) (tDStar2 td tk tv tk2 tv2) := by
  refine ⟨fun pins s σ H Q I q => ?_⟩
  have hn := I.hok.fresh (Nat.le_refl s.heap.objs.size)
  have I1 := I.laid (a := s.heap.objs.size) (o := .dK []) (h' := s.heap.push { cls := .type "dict", data := .dict #[] }) (t' := s.toks) (fun _ _ q => Heap.get?_push_of_some _ q) (Nat.le_refl _) (dk_empty s.heap I.big)
  rw [arm_eval_Dict]
  refine wpAny_bind (wpAny_standAt ?_)
  show wpAny _ _ (dictDisplay [(none, do let x ← eval m X.env; standAt pos; pure x), (some (eval k X.env), do let x ← eval v X.env; standAt pos; pure x), (some (eval k2 X.env), do let x ← eval v2 X.env; standAt pos; pure x)]) _ _ _
  refine wpAny_dstar2 (knd := mixKind X.prog X.w) ?_
  refine wpAny_bind (thn (hm.run pins _ σ _ _ I1 (q _ hn)) fun u s1 ⟨x, H1, I2, rx, a, kvs, ex, ha, ap, hp, l, q1⟩ => wpAny_bind (wpAny_standAt (wpAny_pure ?_)))
  subst ex
  obtain rfl : u = Value.ref a := rx
  obtain ⟨z2, hd2, vs2, rel2, dd2⟩ := dk_of I2.hok ha
  obtain ⟨z1, hd1, vs1, rel1, dd1⟩ := dk_of I2.hok hp
  cases rel1
  refine ⟨a, vs2, rfl, hd2, Ne.symm ap, dd2, dd1, by rw [← rel2.length]; exact z2, fun h1 dm1 sb1 => ?_⟩
  have he1 : ∃ q, h1.get? s.heap.objs.size = some q := let ⟨q, _, _, hq, _⟩ := dm1; ⟨q, hq⟩
  have zm : (mergeK [] kvs).length ≤ sizeLine := by
    have := length_mergeK kvs []
    rw [List.length_nil] at this
    omega
  have I3 := d_write (t' := s1.toks) I2 (by rw [hp]; exact True.intro) sb1 he1 (dk_new (H' := upd H1 s.heap.objs.size (.dK (mergeK [] kvs))) zm hd1 (rel2.merge .nil) dm1)
  have hn3 := I3.hok.fresh (Nat.le_refl h1.objs.size)
  have I4 := I3.laid (a := h1.objs.size) (o := .dK []) (h' := h1.push { cls := .type "dict", data := .dict #[] }) (t' := s1.toks) (fun _ _ q => Heap.get?_push_of_some _ q) (Nat.le_refl _) (dk_empty h1 I3.big)
  refine thn (hk.run pins _ σ _ _ I4 (q1 _ hn3)) fun kv s2 ⟨y, H2, I5, ry, q2⟩ => ?_
  refine wpAny_bind (thn (hv.run pins _ σ _ _ I5 q2) fun vv s3 ⟨z, H3, I6, rz, q3⟩ => wpAny_bind (wpAny_standAt (wpAny_pure ?_)))
  refine thn (hk2.run pins _ σ _ _ I6 q3) fun kv2 s4 ⟨y2, H4, I7, ry2, q4⟩ => ?_
  refine wpAny_bind (thn (hv2.run pins _ σ _ _ I7 q4) fun vv2 s5 ⟨z2', H5, I8, rz2, k', k2', acc, ek, ek2, hpa, la, hq, pq, q5⟩ => wpAny_bind (wpAny_standAt (wpAny_pure ?_)))
  subst ek
  subst ek2
  obtain ⟨z4, hd4, vs4, rel4, dd4⟩ := dk_of I8.hok hpa
  obtain ⟨z5, hd5, vs5, rel5, dd5⟩ := dk_of I8.hok hq
  cases rel5
  refine ⟨k', k2', vs4, kV_is ry, kV_is ry2, dd4, ?_, dd5, Ne.symm pq, hd5, fun h4 d2 sb4 h5 d1 sb5 => ⟨.ref s.heap.objs.size, _, ?_, rfl, q5⟩⟩
  · rw [← rel4.length]
    exact Nat.le_trans (Nat.add_le_add_right la 2) (by decide)
  have r2 : KV (mergeK [] [(k', z), (k2', z2')]) (merged [] [(k', vv), (k2', vv2)]) := KV.merge (.cons ⟨rfl, rz⟩ (.cons ⟨rfl, rz2⟩ .nil)) .nil
  have r1 : KV (mergeK acc (mergeK [] [(k', z), (k2', z2')])) (merged vs4 (merged [] [(k', vv), (k2', vv2)])) := KV.merge r2 rel4
  have l2 : (mergeK [] [(k', z), (k2', z2')]).length ≤ 2 := length_mergeK [(k', z), (k2', z2')] []
  have he4 : ∃ q, h4.get? h1.objs.size = some q := let ⟨q, _, _, hq, _⟩ := d2; ⟨q, hq⟩
  have he5 : ∃ q, h5.get? s.heap.objs.size = some q := let ⟨q, _, _, hq, _⟩ := d1; ⟨q, hq⟩
  have zl : 1002 ≤ sizeLine := by decide
  have I9 := d_write (t' := s5.toks + 2) I8 (by rw [hq]; exact True.intro) sb4 he4 (dk_new (H' := upd H5 h1.objs.size (.dK (mergeK [] [(k', z), (k2', z2')]))) (by omega) hd5 r2 d2)
  have zp : (mergeK acc (mergeK [] [(k', z), (k2', z2')])).length ≤ sizeLine := by
    have := length_mergeK (mergeK [] [(k', z), (k2', z2')]) acc
    omega
  have hp7 : (upd H5 h1.objs.size (.dK (mergeK [] [(k', z), (k2', z2')]))) s.heap.objs.size = some (.dK acc) := by rw [upd_ne pq]; exact hpa
  have I10 := d_write (t' := s5.toks + 2) I9 (by rw [hp7]; exact True.intro) sb5 he5 (dk_new (H' := upd (upd H5 h1.objs.size (.dK (mergeK [] [(k', z), (k2', z2')]))) s.heap.objs.size (.dK (mergeK acc (mergeK [] [(k', z), (k2', z2')])))) zp hd4 r1 d1)
  exact I10
/-- {**a, **b} -/
def tDStars (ta tb : L2.TE) : L2.TE := fun σ H Q => ∀ p, H p = none → ta σ (upd H p (.dK [])) fun m H1 => ∃ a kvs, m = .ref a ∧ H1 a = some (.dK kvs) ∧ a ≠ p ∧ H1 p = some (.dK []) ∧ kvs.length ≤ 1000 ∧
  tb σ (upd H1 p (.dK (mergeK [] kvs))) fun m2 H2 => ∃ b more acc, m2 = .ref b ∧ H2 b = some (.dK more) ∧ b ≠ p ∧ H2 p = some (.dK acc) ∧ more.length ≤ 1000 ∧ acc.length ≤ 1000 ∧
    Q (.ref p) (upd H2 p (.dK (mergeK acc more)))
theorem pe_dstars {X : Cx} {pos : Pos} {m m2 : Expr} {ta tb : TE} (hm : PE X m ta) (hm2 : PE X m2 tb) : PE X (.Dict [none, none] [m, m2] pos) (tDStars ta tb) := by
  refine ⟨fun pins s σ H Q I q => ?_⟩
  have hn := I.hok.fresh (Nat.le_refl s.heap.objs.size)
  have I1 := I.laid (a := s.heap.objs.size) (o := .dK []) (h' := s.heap.push { cls := .type "dict", data := .dict #[] }) (t' := s.toks) (fun _ _ q => Heap.get?_push_of_some _ q) (Nat.le_refl _) (dk_empty s.heap I.big)
  rw [arm_eval_Dict]
  refine wpAny_bind (wpAny_standAt ?_)
  show wpAny _ _ (dictDisplay [(none, do let x ← eval m X.env; standAt pos; pure x), (none, do let x ← eval m2 X.env; standAt pos; pure x)]) _ _ _
  refine wpAny_dstars (knd := mixKind X.prog X.w) ?_
  refine wpAny_bind (thn (hm.run pins _ σ _ _ I1 (q _ hn)) fun u s1 ⟨x, H1, I2, rx, a, kvs, ex, ha, ap, hp, l, q1⟩ => wpAny_bind (wpAny_standAt (wpAny_pure ?_)))
  subst ex
  obtain rfl : u = Value.ref a := rx
  obtain ⟨z2, hd2, vs2, rel2, dd2⟩ := dk_of I2.hok ha
  obtain ⟨z1, hd1, vs1, rel1, dd1⟩ := dk_of I2.hok hp
  cases rel1
  have zl : 2000 ≤ sizeLine := by decide
  refine ⟨a, vs2, rfl, hd2, Ne.symm ap, dd2, dd1, by rw [← rel2.length]; exact z2, fun h1 dm1 sb1 => ?_⟩
  have he1 : ∃ q, h1.get? s.heap.objs.size = some q := let ⟨q, _, _, hq, _⟩ := dm1; ⟨q, hq⟩
  have zm : (mergeK [] kvs).length ≤ sizeLine := by
    have := length_mergeK kvs []
    rw [List.length_nil] at this
    omega
  have I3 := d_write (t' := s1.toks) I2 (by rw [hp]; exact True.intro) sb1 he1 (dk_new (H' := upd H1 s.heap.objs.size (.dK (mergeK [] kvs))) zm hd1 (rel2.merge .nil) dm1)
  refine wpAny_bind (thn (hm2.run pins _ σ _ _ I3 q1) fun u2 s2 ⟨x2, H2, I4, rx2, b, more, acc, ex2, hb, bp, hp2, lm, la, q2⟩ => wpAny_bind (wpAny_standAt (wpAny_pure ?_)))
  subst ex2
  obtain rfl : u2 = Value.ref b := rx2
  obtain ⟨z3, hd3, vs3, rel3, dd3⟩ := dk_of I4.hok hb
  obtain ⟨z4, hd4, vs4, rel4, dd4⟩ := dk_of I4.hok hp2
  refine ⟨b, vs3, vs4, rfl, hd3, Ne.symm bp, dd3, dd4, by rw [← rel3.length, ← rel4.length]; omega, fun h2 dm2 sb2 => ⟨.ref s.heap.objs.size, _, ?_, rfl, q2⟩⟩
  have he2 : ∃ q, h2.get? s.heap.objs.size = some q := let ⟨q, _, _, hq, _⟩ := dm2; ⟨q, hq⟩
  have zp : (mergeK acc more).length ≤ sizeLine := by
    have := length_mergeK more acc
    omega
  exact d_write (t' := s2.toks) I4 (by rw [hp2]; exact True.intro) sb2 he2 (dk_new (H' := upd H2 s.heap.objs.size (.dK (mergeK acc more))) zp hd4 (rel3.merge rel4) dm2)
/-! ### dict comprehensions with two clauses -/
theorem compTurn2D_out (kx vx t0 i0 t1 i1 : Expr) (ifs0 ifs1 : List Expr) (scope : Scope) (pos : Pos) (it : Value) (D : Addr) (env : Env) :
    compTurn (.DictComp kx vx [⟨t0, i0, ifs0, 0⟩, ⟨t1, i1, ifs1, 0⟩] scope pos) 0 it (.ref D) env = (do
      standAt i0.pos
      match ← pyNext it with
      | none => pure (.done .next)
      | some v =>
        letOwnedTupleGo t0 it v
        assign t0 env v
        let mut ok := true
        for c in ifs0 do
          if ok then ok ← isTrue c env (eval c env)
        if ok then
          let x ← eval i1 env
          standAt i1.pos
          let x ← foldedSetIterable i1 env x
          let _ ← runOwn (.compStart (.DictComp kx vx [⟨t0, i0, ifs0, 0⟩, ⟨t1, i1, ifs1, 0⟩] scope pos) 1 (← holding [x] (pyIter x)) (.ref D) env) env
        again (.compLoop (.DictComp kx vx [⟨t0, i0, ifs0, 0⟩, ⟨t1, i1, ifs1, 0⟩] scope pos) 0 it (.ref D) env)) := by rfl
theorem compTurn2D_in (kx vx t0 i0 t1 i1 : Expr) (ifs0 ifs1 : List Expr) (scope : Scope) (pos : Pos) (it : Value) (D : Addr) (env : Env) :
    compTurn (.DictComp kx vx [⟨t0, i0, ifs0, 0⟩, ⟨t1, i1, ifs1, 0⟩] scope pos) 1 it (.ref D) env = (do
      standAt i1.pos
      match ← pyNext it with
      | none => pure (.done .next)
      | some v =>
        letOwnedTupleGo t1 it v
        assign t1 env v
        let mut ok := true
        for c in ifs1 do
          if ok then ok ← isTrue c env (eval c env)
        if ok then
          (do
            let kv ← eval kx env
            let vv ← holding [kv] (eval vx env)
            standAt { kx.pos with endLine := vx.pos.endLine, endCol := vx.pos.endCol }
            holding [kv, vv] (dictSet D kv vv))
        again (.compLoop (.DictComp kx vx [⟨t0, i0, ifs0, 0⟩, ⟨t1, i1, ifs1, 0⟩] scope pos) 1 it (.ref D) env)) := by rfl
section
variable {prog : Program} {w : World} {A : Around} {R : Result → Shared → Prop} {s : Shared} {kx vx t0 i0 t1 i1 : Expr} {ifs0 ifs1 : List Expr} {scope : Scope} {pos : Pos} {it : Value} {D : Addr} {env : Env}
/-- the loop of the first clause -/
theorem compLoop2D_out (hs : ∀ x, foldedSetIterable i1 env x = pure x) (I : Nat → Shared → Prop)
    (turn : ∀ n s, I n s → wpAny (model prog w) A (pyNext it) (fun r s₁ => match r with
      | none => R (.ok .next) s₁
      | some v => wpAny (model prog w) A (letOwnedTupleGo t0 it v) (fun _ s₁' => wpAny (model prog w) A (assign t0 env v) (fun _ s₂ =>
          wpAny (model prog w) A (forIn ifs0 true fun c r => if r = true then do let ok ← isTrue c env (eval c env); pure (ForInStep.yield ok) else pure (ForInStep.yield r)) (fun ok s₃ =>
            if ok = true then wpAny (model prog w) A (eval i1 env) (fun x s₄ => wpAny (model prog w) A (pyIter x) (fun it1 s₅ =>
              codeAny (model prog w) A (.compStart (.DictComp kx vx [⟨t0, i0, ifs0, 0⟩, ⟨t1, i1, ifs1, 0⟩] scope pos) 1 it1 (.ref D) env) (fun r s' => match r with
                | .ok _ => ∃ m, m < n ∧ I m s'
                | .error _ => False) s₅) (notedBy (model prog w) A env fun e s' => R (.error e) s') s₄) (notedBy (model prog w) A env fun e s' => R (.error e) s') s₃
            else ∃ m, m < n ∧ I m s₃) (notedBy (model prog w) A env fun e s' => R (.error e) s') s₂) (notedBy (model prog w) A env fun e s' => R (.error e) s') s₁') (notedBy (model prog w) A env fun e s' => R (.error e) s') s₁) (notedBy (model prog w) A env fun e s' => R (.error e) s') s)
    (n : Nat) (h : I n s) :
    codeAny (model prog w) A (.compLoop (.DictComp kx vx [⟨t0, i0, ifs0, 0⟩, ⟨t1, i1, ifs1, 0⟩] scope pos) 0 it (.ref D) env) R s := by
  refine codeAny_loop rfl I (fun n s hI => ?_) n h
  show wpAny _ A ((compTurn (.DictComp kx vx [⟨t0, i0, ifs0, 0⟩, ⟨t1, i1, ifs1, 0⟩] scope pos) 0 it (.ref D) env).onRaise (fun x => do noteFrame x env; theTreesLotGoes x)) _ _ s
  refine wpAny_noted ?_
  rw [compTurn2D_out]
  refine wpAny_bind (wpAny_standAt (wpAny_bind (wpAny_mono (turn n s hI) (fun r s₁ h₁ => ?_) fun _ _ h' => h')))
  cases r with
  | none => exact wpAny_pure h₁
  | some v =>
    refine wpAny_bind (wpAny_mono h₁ (fun _ s₁' h₁' => ?_) fun _ _ h' => h')
    refine wpAny_bind (wpAny_mono h₁' (fun _ s₂ h₂ => wpAny_bind (wpAny_mono h₂ (fun ok s₃ h₃ => ?_) fun _ _ h' => h')) fun _ _ h' => h')
    cases ok with
    | false => exact wpAny_pure ⟨rfl, h₃⟩
    | true =>
      refine wpAny_bind (wpAny_mono h₃ (fun x s₄ h₄ => ?_) fun _ _ h' => h')
      refine wpAny_bind (wpAny_standAt (wpAny_bind (wpAny_of_eq (hs x) (wpAny_bind (wpAny_holding (wpAny_mono h₄ (fun it1 s₅ h₅ => ?_) fun _ _ h' => h'))))))
      refine wpAny_bind (wpAny_runOwn ?_)
      rw [Around.mark_none]
      refine codeAny_mono h₅ fun r s' hr => ?_
      cases r with
      | ok f =>
        first
          | exact wpAny_pure ⟨rfl, hr⟩
          | exact wpAny_bind (wpAny_pure (wpAny_pure ⟨rfl, hr⟩))
      | error e => exact hr.elim
/-- the loop of the second -/
theorem compLoop2D_in (I : Nat → Shared → Prop)
    (turn : ∀ n s, I n s → wpAny (model prog w) A (pyNext it) (fun r s₁ => match r with
      | none => R (.ok .next) s₁
      | some v => wpAny (model prog w) A (letOwnedTupleGo t1 it v) (fun _ s₁' => wpAny (model prog w) A (assign t1 env v) (fun _ s₂ =>
          wpAny (model prog w) A (forIn ifs1 true fun c r => if r = true then do let ok ← isTrue c env (eval c env); pure (ForInStep.yield ok) else pure (ForInStep.yield r)) (fun ok s₃ =>
            if ok = true then wpAny (model prog w) A (eval kx env) (fun kv s₄ => wpAny (model prog w) A (eval vx env) (fun vv s₅ =>
              wpAny (model prog w) A (dictSet D kv vv) (fun _ s₆ => ∃ m, m < n ∧ I m s₆) (notedBy (model prog w) A env fun e s' => R (.error e) s') s₅) (notedBy (model prog w) A env fun e s' => R (.error e) s') s₄) (notedBy (model prog w) A env fun e s' => R (.error e) s') s₃
            else ∃ m, m < n ∧ I m s₃) (notedBy (model prog w) A env fun e s' => R (.error e) s') s₂) (notedBy (model prog w) A env fun e s' => R (.error e) s') s₁') (notedBy (model prog w) A env fun e s' => R (.error e) s') s₁) (notedBy (model prog w) A env fun e s' => R (.error e) s') s)
    (n : Nat) (h : I n s) :
    codeAny (model prog w) A (.compLoop (.DictComp kx vx [⟨t0, i0, ifs0, 0⟩, ⟨t1, i1, ifs1, 0⟩] scope pos) 1 it (.ref D) env) R s := by
  refine codeAny_loop rfl I (fun n s hI => ?_) n h
  show wpAny _ A ((compTurn (.DictComp kx vx [⟨t0, i0, ifs0, 0⟩, ⟨t1, i1, ifs1, 0⟩] scope pos) 1 it (.ref D) env).onRaise (fun x => do noteFrame x env; theTreesLotGoes x)) _ _ s
  refine wpAny_noted ?_
  rw [compTurn2D_in]
  refine wpAny_bind (wpAny_standAt (wpAny_bind (wpAny_mono (turn n s hI) (fun r s₁ h₁ => ?_) fun _ _ h' => h')))
  cases r with
  | none => exact wpAny_pure h₁
  | some v =>
    refine wpAny_bind (wpAny_mono h₁ (fun _ s₁' h₁' => ?_) fun _ _ h' => h')
    refine wpAny_bind (wpAny_mono h₁' (fun _ s₂ h₂ => wpAny_bind (wpAny_mono h₂ (fun ok s₃ h₃ => ?_) fun _ _ h' => h')) fun _ _ h' => h')
    cases ok with
    | false => exact wpAny_pure ⟨rfl, h₃⟩
    | true =>
      exact wpAny_bind (wpAny_bind (wpAny_mono h₃ (fun kv s₄ h₄ => wpAny_bind (wpAny_holding (wpAny_mono h₄ (fun vv s₅ h₅ => wpAny_bind (wpAny_standAt (wpAny_holding (wpAny_mono h₅ (fun _ s₆ h₆ => wpAny_pure ⟨rfl, h₆⟩) fun _ _ h' => h')))) fun _ _ h' => h'))) fun _ _ h' => h'))
/-- the second clause's start -/
theorem compStart1D_ok (h0 : codeAny (model prog w) A (.compLoop (.DictComp kx vx [⟨t0, i0, ifs0, 0⟩, ⟨t1, i1, ifs1, 0⟩] scope pos) 1 it (.ref D) env) R s)
    (h : wpAny (model prog w) A (pyIter it) (fun it' s' => codeAny (model prog w) A (.compLoop (.DictComp kx vx [⟨t0, i0, ifs0, 0⟩, ⟨t1, i1, ifs1, 0⟩] scope pos) 1 it' (.ref D) env) R s')
      (notedBy (model prog w) A env fun x s' => R (.error x) s') s) :
    codeAny (model prog w) A (.compStart (.DictComp kx vx [⟨t0, i0, ifs0, 0⟩, ⟨t1, i1, ifs1, 0⟩] scope pos) 1 it (.ref D) env) R s := by
  refine codeAny_of_tree ?_
  show wpAny _ _ ((compStart (.DictComp kx vx [⟨t0, i0, ifs0, 0⟩, ⟨t1, i1, ifs1, 0⟩] scope pos) 1 it (.ref D) env).onRaise (fun x => do noteFrame x env; standAt theWindowsPlace)) _ _ s
  refine wpAny_notedAt ?_
  unfold compStart
  show wpAny _ _ (ask >>= _) _ _ s
  refine wpAny_bind (wpAny_askSetting (wpAny_ite ?_))
  split
  · first
      | exact wpAny_bind (wpAny_pure (wpAny_pure (And.intro rfl h0)))
      | exact wpAny_pure (And.intro rfl h0)
  · first
      | exact wpAny_bind (wpAny_rule (wpAny_bind (wpAny_standAt (wpAny_bind (wpAny_mono h (fun it' s' h' => wpAny_pure (And.intro rfl h')) fun _ _ x => x)))))
      | (refine wpAny_bind (wpAny_rule ?_); show wpAny _ _ (standAt i1.pos >>= _) _ _ s; exact wpAny_bind (wpAny_standAt (wpAny_bind (wpAny_mono h (fun it' s' h' => wpAny_pure (And.intro rfl h')) fun _ _ x => x))))
end
section
variable {X : Cx}
/-- {kx: vx for tg in iter if .. for tg1 in iter1 if ..}: behind the first clause's store and tests the second source's own loop, from which Nx is reached. vs: the block's names; vs1: those of the second target -/
def tDc2 (wi : TI) (g : TG) (tt : TT) (wi1 : TI) (g1 : TG) (tt1 : TT) (tk te : TE) (vs vs1 : List Nat) : TE := fun σ H Q => wi σ H fun J H1 => ∀ D, H1 D = none → ∃ W : Nat → Nat → Hp → Prop, (∃ m, W 0 m (upd H1 D (.dK []))) ∧ ∀ i m H, W i m H →
  (J.stop i H ∧ Q (.ref D) H) ∨ (J.go i H ∧ ∃ Nx : Hp → Prop, (∀ H', Nx H' → ∃ m', m' < m ∧ W (i + 1) m' H') ∧ ∀ x H', J.yld i H x H' → g x (wipe σ vs) H' fun σ2 H2 => wipe σ2 vs = wipe σ vs ∧ tt σ2 H2 fun b H3 =>
    if b = true then wi1 σ2 H3 fun J1 H4 => ∃ W1 : Nat → Nat → Hp → Prop, (∃ m, W1 0 m H4) ∧ ∀ j k H, W1 j k H →
      (J1.stop j H ∧ Nx H) ∨ (J1.go j H ∧ ∃ Nx1 : Hp → Prop, (∀ H', Nx1 H' → ∃ k', k' < k ∧ W1 (j + 1) k' H') ∧ ∀ x H', J1.yld j H x H' → g1 x (wipe σ2 vs1) H' fun σ3 H5 => wipe σ3 vs1 = wipe σ2 vs1 ∧ tt1 σ3 H5 fun b H6 =>
        if b = true then tk σ3 H6 fun y H7 => te σ3 H7 fun z H8 => ∃ kvs k, y = kV k ∧ H8 D = some (.dK kvs) ∧ kvs.length < sizeLine ∧ Nx1 (upd H8 D (.dK (putK kvs k z))) else Nx1 H6)
    else Nx H3)
theorem dc2_core {pins : List (Addr × Obj)} {s : Shared} {σ : L2.St} {H : Hp} {Q : VK} {kx vx tg iter tg1 iter1 : Expr} {ifs ifs1 : List Expr} {scope : Scope} {own : List (Str × Nat)} {vs1 : List Nat} {pos pos' : Pos} {wi wi1 : TI} {g g1 : TG} {tt tt1 : TT} {tk te : TE} {use : Option (Value → Sem Unit)} {Qf : Value → Shared → Prop}
    (hc : X.calm = true) (hN : X.N.Nodup) (I : Inv X pins σ H s) (hi : PI X tg iter wi) (ok : BlkOk X.N X.env.scope scope own) (hv : ∀ i ∈ vs1, i ∈ own.map (·.2))
    (hg : ∀ (s : Shared) (H : Hp) (C : Addr) (cl : List (Str × Addr)) (fp : List Addr), PG (X.blk s H scope (compEnvC scope cl C X.env) fp) tg g) (ht : ∀ (s : Shared) (H : Hp) (C : Addr) (cl : List (Str × Addr)) (fp : List Addr), PTs (X.blk s H scope (compEnvC scope cl C X.env) fp) ifs tt)
    (hk : ∀ (s : Shared) (H : Hp) (C : Addr) (cl : List (Str × Addr)) (fp : List Addr), PE (X.blk s H scope (compEnvC scope cl C X.env) fp) kx tk)
    (he : ∀ (s : Shared) (H : Hp) (C : Addr) (cl : List (Str × Addr)) (fp : List Addr), PE (X.blk s H scope (compEnvC scope cl C X.env) fp) vx te) (hs : ∀ x, foldedSetIterable iter X.env x = pure x)
    (hi1 : ∀ (s : Shared) (H : Hp) (C : Addr) (cl : List (Str × Addr)) (fp : List Addr), PI (X.blk s H scope (compEnvC scope cl C X.env) fp) tg1 iter1 wi1)
    (hg1 : ∀ (s : Shared) (H : Hp) (C : Addr) (cl : List (Str × Addr)) (fp : List Addr), PG (X.blk s H scope (compEnvC scope cl C X.env) fp) tg1 g1)
    (ht1 : ∀ (s : Shared) (H : Hp) (C : Addr) (cl : List (Str × Addr)) (fp : List Addr), PTs (X.blk s H scope (compEnvC scope cl C X.env) fp) ifs1 tt1)
    (hs1 : ∀ env x, foldedSetIterable iter1 env x = pure x)
    (h : tDc2 wi g tt wi1 g1 tt1 tk te (own.map (·.2)) vs1 σ H Q)
    (hRR : ∀ D C s' m H', Inv X pins σ H' s' → Q (.ref D) H' → s'.heap.Ns C m → FpOk X pins H' C → compPost (model X.prog X.w) X.A X.xe use Qf (.ref D) C (.ok .next) s') :
    wpAny (model X.prog X.w) X.A (comprehension (.DictComp kx vx [⟨tg, iter, ifs, 0⟩, ⟨tg1, iter1, ifs1, 0⟩] scope pos) scope X.env pos' (newDict) false (eval iter X.env) use) Qf X.xe s := by
  have hfree : ∀ y ∈ scope.names, y.2 = .free → ∃ c, X.env.cells.lookup y.1 = some c := fun y hy e => by
    rcases ok.free y hy e with k | k
    · exact I.ok.has _ (.inl k)
    · exact I.ok.has _ (.inr k)
  refine wpAny_comprehension_free (use := use) rfl hs (closure_ok hfree) ok.kind (fun y hy e => by rw [ok.uniq y hy, e])
    (thn (hi.run pins s σ H _ I h) fun xv s1 hx => thn hx fun itv s2 h2 => ?_)
  obtain ⟨it, fp, tn, J, H2, e, I2, T, st2, f2, q⟩ := h2
  subst e
  refine wpAny_newObj_type (newEnv_comp ?_)
  generalize hD : s2.heap.objs.size = D
  have hDn : H2 D = none := I2.hok.fresh (Nat.le_of_eq hD)
  obtain ⟨W, ⟨m0, w0⟩, turn⟩ := q D hDn
  -- the new list
  generalize hs3 : ({ s2 with heap := s2.heap.push { cls := .type "dict", data := .dict #[] } } : Shared) = s3
  have I3 : Inv X pins σ (upd H2 D (.dK [])) s3 := by
    rw [← hs3]
    refine I2.laid (t' := s2.toks) (fun b o e => Heap.get?_push_of_some _ e) (Nat.le_of_eq hD) ?_
    rw [← hD]
    exact dk_empty s2.heap I2.big
  have h3 : s3.heap = s2.heap.push { cls := .type "dict", data := .dict #[] } := by rw [← hs3]
  have sz : ∀ b ∈ fp, b < s2.heap.objs.size := fun b hb => by
    obtain ⟨o, e, _⟩ := T.obj _ _ st2 b hb
    exact Heap.lt_size e
  have f3 : ∀ b ∈ fp, FpOk X pins (upd H2 D (.dK [])) b ∧ b < s3.heap.objs.size := fun b hb => by
    have hlt := sz b hb
    refine ⟨⟨?_, (f2 b hb).2⟩, by rw [h3, Heap.size_push]; exact Nat.lt_succ_of_lt hlt⟩
    rw [upd_ne (by rw [← hD]; exact Nat.ne_of_lt hlt)]
    exact (f2 b hb).1
  have st3 : tn 0 s3.heap := T.keep _ _ _ st2 fun b _ o e => by rw [h3]; exact Heap.get?_push_of_some _ e
  have I4 := block_start I3 ok hN f3
  have pg := hg s3 (upd H2 D (.dK [])) s3.heap.objs.size (cellsFrom (s3.heap.objs.size + 1) scope.names (cloFrom X.env.cells scope.names [])) fp
  have pt := ht s3 (upd H2 D (.dK [])) s3.heap.objs.size (cellsFrom (s3.heap.objs.size + 1) scope.names (cloFrom X.env.cells scope.names [])) fp
  have pk := hk s3 (upd H2 D (.dK [])) s3.heap.objs.size (cellsFrom (s3.heap.objs.size + 1) scope.names (cloFrom X.env.cells scope.names [])) fp
  have pe := he s3 (upd H2 D (.dK [])) s3.heap.objs.size (cellsFrom (s3.heap.objs.size + 1) scope.names (cloFrom X.env.cells scope.names [])) fp
  have pi1 := hi1 s3 (upd H2 D (.dK [])) s3.heap.objs.size (cellsFrom (s3.heap.objs.size + 1) scope.names (cloFrom X.env.cells scope.names [])) fp
  have pg1 := hg1 s3 (upd H2 D (.dK [])) s3.heap.objs.size (cellsFrom (s3.heap.objs.size + 1) scope.names (cloFrom X.env.cells scope.names [])) fp
  have pt1 := ht1 s3 (upd H2 D (.dK [])) s3.heap.objs.size (cellsFrom (s3.heap.objs.size + 1) scope.names (cloFrom X.env.cells scope.names [])) fp
  show codeAny _ _ (.compStart (.DictComp kx vx [⟨tg, iter, ifs, 0⟩, ⟨tg1, iter1, ifs1, 0⟩] scope pos) 0 (.ref it) (.ref D) (compEnvC scope (cellsFrom (s3.heap.objs.size + 1) scope.names (cloFrom X.env.cells scope.names [])) s3.heap.objs.size X.env)) (compPost (model X.prog X.w) X.A X.xe use Qf (.ref D) s3.heap.objs.size) { s3 with heap := pushCells (s3.heap.push { cls := .type "dict", data := .dict #[] }) scope.names }
  have nfp : ∀ b ∈ fp, (upd H2 D (.dK [])) b = none := fun b hb => (f3 b hb).1.1
  generalize hce : compEnvC scope (cellsFrom (s3.heap.objs.size + 1) scope.names (cloFrom X.env.cells scope.names [])) s3.heap.objs.size X.env = ce at I4 pg pt pk pe pi1 pg1 pt1 ⊢
  have cL : ce.locals = s3.heap.objs.size := by subst hce; rfl
  generalize hH3 : upd H2 D (.dK []) = H3 at I3 I4 pg pt pk pe pi1 pg1 pt1 w0 nfp f3
  generalize hs4 : ({ s3 with heap := pushCells (s3.heap.push { cls := .type "dict", data := .dict #[] }) scope.names } : Shared) = s4 at I4 ⊢
  have st4 : tn 0 s4.heap := T.keep _ _ _ st3 fun b _ o e => by rw [← hs4]; exact pushCells_keeps _ _ _ _ (Heap.get?_push_of_some _ e)
  have stat : ∀ {σ' : L2.St} {H' : Hp} {s' : Shared}, Inv (X.blk s3 H3 scope ce fp) [] σ' H' s' → (∀ b ∈ fp, H' b = none) → ∀ b ∈ fp, FpOk (X.blk s3 H3 scope ce fp) [] H' b := fun {σ' H' s'} I' hn b hb =>
    ⟨hn b hb, (I'.ok.exf b hb).1, I'.ok.exfs b hb, .inl hb, fun x c e => (I'.ok.exf b hb).2 x c e, fun p hp => absurd (show p ∈ ([] : List (Addr × Obj)) ++ [] from hp) (by simp)⟩
  have loop : codeAny (model X.prog X.w) X.A (.compLoop (.DictComp kx vx [⟨tg, iter, ifs, 0⟩, ⟨tg1, iter1, ifs1, 0⟩] scope pos) 0 (.ref it) (.ref D) ce) (compPost (model X.prog X.w) X.A X.xe use Qf (.ref D) s3.heap.objs.size) s4 := by
    refine compLoop2D_out (hs1 ce) (fun n s' => ∃ i H', Inv (X.blk s3 H3 scope ce fp) [] (wipe σ (own.map (·.2))) H' s' ∧ tn i s'.heap ∧ (∀ b ∈ fp, H' b = none) ∧ W i n H') ?_ m0 ⟨0, H3, I4, st4, nfp, w0⟩
    rintro n s5 ⟨i, H5, I5, st5, n5, w5⟩
    rcases turn i n H5 w5 with ⟨stop, qq⟩ | ⟨go, Nx, hNx, step⟩
    · have td := T.done (X.blk s3 H3 scope ce fp) rfl rfl rfl hc i [] s5 _ H5 (fun _ _ => False) I5 (stat I5 n5) st5 stop
      refine thnF td fun r s6 ⟨hr, I6⟩ => ?_
      subst hr
      -- back in the def's context
      have I7 : Inv X pins σ H5 s6 := I3.call' (ch := fp) I6.os I6.base I6.hok I6.bare fun b hb => ⟨(f3 b hb).1.2.2.2.1, (f3 b hb).1.2.1, (f3 b hb).1.2.2.2.2.1, (f3 b hb).1.2.2.2.2.2⟩
      have nC : H5 s3.heap.objs.size = none := by
        have z : H5 ce.locals = none := I6.free
        rw [cL] at z
        exact z
      obtain ⟨m, hn, _⟩ := I6.loc
      have hn : s6.heap.Ns ce.locals m := hn
      rw [cL] at hn
      exact hRR D s3.heap.objs.size s6 m H5 I7 qq hn (I3.fpOk (Nat.le_refl _) nC)
    · have ti := T.item (X.blk s3 H3 scope ce fp) rfl rfl rfl hc i [] s5 _ H5 (fun _ _ => False) I5 (stat I5 n5) st5 go
      refine thnF ti fun r s6 ⟨u, hr, h6⟩ => ?_
      subst hr
      refine thnF h6 fun _ s7 ⟨x, H7, I7, r7, y7, st7, n7⟩ => ?_
      have I7' := I7.pinned (stat I7 n7) (T.obj _ _ st7)
      refine thnF (pg.run _ s7 _ H7 x u _ I7' r7 (step x H7 y7)) fun _ s8 ⟨σ8, H8, I8, hw8, q8⟩ => ?_
      refine thnF (pt.run _ s8 σ8 H8 _ I8 q8) fun b s9 ⟨H9, I9, q9⟩ => ?_
      -- the turn's end, from any slots that know what the block knew at its start
      have fin : ∀ {σ9 : L2.St} {s' : Shared} {H' : Hp}, Inv (X.blk s3 H3 scope ce fp) ([] ++ pinsAt fp s7.heap) σ9 H' s' → (wipe σ (own.map (·.2))).length = σ9.length → (∀ (j : Nat) v, (wipe σ (own.map (·.2)))[j]? = some (some v) → σ9[j]? = some (some v)) → Nx H' →
          ∃ m, m < n ∧ ∃ i H', Inv (X.blk s3 H3 scope ce fp) [] (wipe σ (own.map (·.2))) H' s' ∧ tn i s'.heap ∧ (∀ b ∈ fp, H' b = none) ∧ W i m H' := fun {σ9 s' H'} I' hl hk nx => by
        obtain ⟨m', hm, w'⟩ := hNx H' nx
        have pin' : ∀ b ∈ fp, ∀ o, s7.heap.get? b = some o → s'.heap.get? b = some o ∧ H' b = none := fun b hb o e =>
          let z := I'.pin (b, o) (List.mem_append_right _ (List.mem_append_right _ (mem_pinsAt hb e)))
          ⟨z.1, z.2.1⟩
        refine ⟨m', hm, i + 1, H', (I'.unpinned (pins := [])).weak hl hk, T.keep _ _ _ st7 fun b hb o e => (pin' b hb o e).1, fun b hb => ?_, w'⟩
        obtain ⟨o, e, _⟩ := T.obj _ _ st7 b hb
        exact (pin' b hb o e).2
      have hl8 : (wipe σ (own.map (·.2))).length = σ8.length := by rw [← hw8, wipe_length]
      have hk8 : ∀ (j : Nat) v, (wipe σ (own.map (·.2)))[j]? = some (some v) → σ8[j]? = some (some v) := fun j v e => by
        rw [← hw8] at e
        exact (wipe_some e).1
      have hk9 : ∀ (j : Nat) v, (wipe σ (own.map (·.2)))[j]? = some (some v) → (wipe σ8 vs1)[j]? = some (some v) := fun j v e => by
        rw [← hw8] at e
        obtain ⟨e1, e2⟩ := wipe_some e
        rw [wipe_out fun z => e2 (hv j z)]
        exact e1
      cases b with
      | false =>
        simp only [Bool.false_eq_true, if_false] at q9 ⊢
        exact fin I9 hl8 hk8 q9
      | true =>
        simp only [if_true] at q9 ⊢
        refine thnF (pi1.run _ s9 σ8 H9 _ I9 q9) fun xv s10 hx => thnF hx fun itv s11 h11 => ?_
        obtain ⟨it1, fp1, tn1, J1, H11, e1, I11, T1, st11, f11, W1, ⟨m1, w1⟩, turn1⟩ := h11
        subst e1
        -- the inner loop
        have stat1 : ∀ {H' : Hp}, (∀ b ∈ fp1, H' b = none) → ∀ b ∈ fp1, FpOk (X.blk s3 H3 scope ce fp) ([] ++ pinsAt fp s7.heap) H' b := fun hn b hb => ⟨hn b hb, (f11 b hb).2⟩
        have loop1 : codeAny (model X.prog X.w) X.A (.compLoop (.DictComp kx vx [⟨tg, iter, ifs, 0⟩, ⟨tg1, iter1, ifs1, 0⟩] scope pos) 1 (.ref it1) (.ref D) ce)
            (fun r s' => match r with
              | .ok _ => ∃ m, m < n ∧ ∃ i H', Inv (X.blk s3 H3 scope ce fp) [] (wipe σ (own.map (·.2))) H' s' ∧ tn i s'.heap ∧ (∀ b ∈ fp, H' b = none) ∧ W i m H'
              | .error _ => False) s11 := by
          refine compLoop2D_in (fun k s' => ∃ j H', Inv (X.blk s3 H3 scope ce fp) ([] ++ pinsAt fp s7.heap) (wipe σ8 vs1) H' s' ∧ tn1 j s'.heap ∧ (∀ b ∈ fp1, H' b = none) ∧ W1 j k H') ?_ m1 ⟨0, H11, I11.weak (wipe_length _ _) (fun j v e => (wipe_some e).1), st11, fun b hb => (f11 b hb).1, w1⟩
          rintro k s12 ⟨j, H12, I12, st12, n12, w12⟩
          rcases turn1 j k H12 w12 with ⟨stop1, nx1⟩ | ⟨go1, Nx1, hNx1, step1⟩
          · refine thnF (T1.done (X.blk s3 H3 scope ce fp) rfl rfl rfl hc j _ s12 (wipe σ8 vs1) H12 (fun _ _ => False) I12 (stat1 n12) st12 stop1) fun r s13 ⟨hr, I13⟩ => ?_
            subst hr
            exact fin I13 (hl8.trans (wipe_length σ8 vs1).symm) hk9 nx1
          · refine thnF (T1.item (X.blk s3 H3 scope ce fp) rfl rfl rfl hc j _ s12 (wipe σ8 vs1) H12 (fun _ _ => False) I12 (stat1 n12) st12 go1) fun r s13 ⟨u1, hr, h13⟩ => ?_
            subst hr
            refine thnF h13 fun _ s14 ⟨x1, H14, I14, r14, y14, st14, n14⟩ => ?_
            have I14' := I14.pinned (stat1 n14) (T1.obj _ _ st14)
            refine thnF (pg1.run _ s14 (wipe σ8 vs1) H14 x1 u1 _ I14' r14 (step1 x1 H14 y14)) fun _ s15 ⟨σ15, H15, I15, hw15, q15⟩ => ?_
            refine thnF (pt1.run _ s15 σ15 H15 _ I15 q15) fun b1 s16 ⟨H16, I16, q16⟩ => ?_
            have fin1 : ∀ {s' : Shared} {H' : Hp}, Inv (X.blk s3 H3 scope ce fp) (([] ++ pinsAt fp s7.heap) ++ pinsAt fp1 s14.heap) σ15 H' s' → Nx1 H' → ∃ m, m < k ∧ ∃ j H', Inv (X.blk s3 H3 scope ce fp) ([] ++ pinsAt fp s7.heap) (wipe σ8 vs1) H' s' ∧ tn1 j s'.heap ∧ (∀ b ∈ fp1, H' b = none) ∧ W1 j m H' := fun {s' H'} I' nx => by
              obtain ⟨m', hm, w'⟩ := hNx1 H' nx
              have pin' : ∀ b ∈ fp1, ∀ o, s14.heap.get? b = some o → s'.heap.get? b = some o ∧ H' b = none := fun b hb o e =>
                let z := I'.pin (b, o) (List.mem_append_right _ (List.mem_append_right _ (mem_pinsAt hb e)))
                ⟨z.1, z.2.1⟩
              refine ⟨m', hm, j + 1, H', I'.unpinned.weak (by rw [← hw15, wipe_length]) (fun j v e => by rw [← hw15] at e; exact (wipe_some e).1), T1.keep _ _ _ st14 fun b hb o e => (pin' b hb o e).1, fun b hb => ?_, w'⟩
              obtain ⟨o, e, _⟩ := T1.obj _ _ st14 b hb
              exact (pin' b hb o e).2
            cases b1 with
            | false =>
              simp only [Bool.false_eq_true, if_false] at q16 ⊢
              exact fin1 I16 q16
            | true =>
              simp only [if_true] at q16 ⊢
              refine thnF (pk.run _ s16 σ15 H16 _ I16 q16) fun z s17 ⟨yk, H17, I17, r17, q17⟩ => ?_
              refine thnF (pe.run _ s17 σ15 H17 _ I17 q17) fun z2 s18 ⟨yv, H18, I18, r18, kvs, k, ek, hD18, hz18, nx⟩ => ?_
              subst ek
              exact d_dictSet (X := X.blk s3 H3 scope ce fp) I18 hD18 hz18 r17 r18 fun s19 I19 => fin1 I19 nx
        exact compStart1D_ok loop1 (T1.self X.A 0 _ _ _ st11 loop1)
  exact codeAny_compStart_dict loop (T.self X.A 0 _ _ _ st4 loop)
/-- as a value -/
theorem pe_dc2 {kx vx tg iter tg1 iter1 : Expr} {ifs ifs1 : List Expr} {scope : Scope} {own : List (Str × Nat)} {vs1 : List Nat} {pos : Pos} {wi wi1 : TI} {g g1 : TG} {tt tt1 : TT} {tk te : TE} (hc : X.calm = true) (hN : X.N.Nodup) (hi : PI X tg iter wi) (ok : BlkOk X.N X.env.scope scope own) (hv : ∀ i ∈ vs1, i ∈ own.map (·.2))
    (hg : ∀ (s : Shared) (H : Hp) (C : Addr) (cl : List (Str × Addr)) (fp : List Addr), PG (X.blk s H scope (compEnvC scope cl C X.env) fp) tg g) (ht : ∀ (s : Shared) (H : Hp) (C : Addr) (cl : List (Str × Addr)) (fp : List Addr), PTs (X.blk s H scope (compEnvC scope cl C X.env) fp) ifs tt)
    (hi1 : ∀ (s : Shared) (H : Hp) (C : Addr) (cl : List (Str × Addr)) (fp : List Addr), PI (X.blk s H scope (compEnvC scope cl C X.env) fp) tg1 iter1 wi1)
    (hg1 : ∀ (s : Shared) (H : Hp) (C : Addr) (cl : List (Str × Addr)) (fp : List Addr), PG (X.blk s H scope (compEnvC scope cl C X.env) fp) tg1 g1) (ht1 : ∀ (s : Shared) (H : Hp) (C : Addr) (cl : List (Str × Addr)) (fp : List Addr), PTs (X.blk s H scope (compEnvC scope cl C X.env) fp) ifs1 tt1)
    (hk : ∀ (s : Shared) (H : Hp) (C : Addr) (cl : List (Str × Addr)) (fp : List Addr), PE (X.blk s H scope (compEnvC scope cl C X.env) fp) kx tk)
    (he : ∀ (s : Shared) (H : Hp) (C : Addr) (cl : List (Str × Addr)) (fp : List Addr), PE (X.blk s H scope (compEnvC scope cl C X.env) fp) vx te) (hs : ∀ x, foldedSetIterable iter X.env x = pure x := by intro _; rfl) (hs1 : ∀ env x, foldedSetIterable iter1 env x = pure x := by intro _ _; rfl) :
    PE X (.DictComp kx vx [⟨tg, iter, ifs, 0⟩, ⟨tg1, iter1, ifs1, 0⟩] scope pos) (tDc2 wi g tt wi1 g1 tt1 tk te (own.map (·.2)) vs1) := by
  refine ⟨fun pins s σ H Q I h => ?_⟩
  rw [arm_eval_DictComp]
  refine dc2_core hc hN I hi ok hv hg ht hk he hs hi1 hg1 ht1 hs1 h fun D C s' m H' I' q hn f => ⟨m, hn, fun h'' sb => ?_⟩
  obtain ⟨f0, f1, f2, f3, f4, f5⟩ := f
  exact ⟨.ref D, H', I'.turned (t' := s'.toks) (fun b o hb e => (sb.2 b hb).trans e) f0 f1 f3 f4 f5, rfl, q⟩
end
/-! ### set comprehensions of ints and texts -/
section
variable {X : Cx}
theorem fresh_setK (P : Program) (w : World) (h : Heap) : (h.push { cls := .type "set", dict := none, data := .set #[] 0 (.fresh 0 0 (!w.params.followText "set-order")) }).SetOf (mixKind P w) h.objs.size (fun _ => false) 0 :=
  ⟨_, #[], 0, _, Heap.get?_push_size _ rfl, ⟨rfl, rfl, rfl⟩, rfl, (fun e he => by simp at he), (fun k => by simp), (by decide), (by rfl), rfl⟩
theorem addK_ok {pins : List (Addr × Obj)} {σ : L2.St} {H : Hp} {s : Shared} {E : Value → Shared → Prop} {D : Addr} {S : Key → Bool} {n : Nat} {k : Key} {v : Value} {Q : Value → Shared → Prop} (I : Inv X pins σ H s) (ry : RelV (kV k) v) (hD : H D = some (SetK X.prog X.w D S n)) (room : n + 1 < scanBound)
    (h : ∀ s', Inv X pins σ (upd H D (SetK X.prog X.w D (fun j => S j || decide (j = k)) (if S k = true then n else n + 1))) s' → Q .none s') : wpAny (model X.prog X.w) X.A (call (.builtin "set.add") [.ref D, v]) Q E s := by
  refine call_set_add (kV_is ry) (key_scan ry) (setK_get I hD) room fun h' sb new => ?_
  have he : ∃ u, h'.get? D = some u := by
    have ⟨o, _, _, _, ho, _⟩ := new
    exact ⟨o, ho⟩
  exact h _ (I.write (e := D) (t' := s.toks + 1) (by rw [hD]; trivial) (.inl rfl) (fun b u hb hu => (sb.2 b hb).trans hu) he (setK_new new))
/-- {elt for target in iter if ..}, elt an int or a text: D the new set -/
def tScK (P : Program) (w : World) (wi : TI) (g : TG) (tt : TT) (te : TE) (vs : List Nat) : TE := fun σ H Q => wi σ H fun J H1 => ∀ D, H1 D = none → ∃ W : Nat → Nat → Hp → Prop, (∃ m, W 0 m (upd H1 D (SetK P w D (fun _ => false) 0))) ∧ ∀ i m H, W i m H →
  (J.stop i H ∧ Q (.ref D) H) ∨ (J.go i H ∧ ∃ Nx : Hp → Prop, (∀ H', Nx H' → ∃ m', m' < m ∧ W (i + 1) m' H') ∧ ∀ x H', J.yld i H x H' → g x (wipe σ vs) H' fun σ2 H2 => wipe σ2 vs = wipe σ vs ∧ tt σ2 H2 fun b H3 =>
    if b = true then te σ2 H3 fun y H4 => ∃ (c : Key) (S : Key → Bool) (n : Nat), y = kV c ∧ H4 D = some (SetK P w D S n) ∧ n + 1 < scanBound ∧ Nx (upd H4 D (SetK P w D (fun j => S j || decide (j = c)) (if S c = true then n else n + 1))) else Nx H3)
theorem sck_core {pins : List (Addr × Obj)} {s : Shared} {σ : L2.St} {H : Hp} {Q : VK} {elt tg iter : Expr} {ifs : List Expr} {scope : Scope} {own : List (PySem.Str × Nat)} {pos pos' : Pos} {wi : TI} {g : TG} {tt : TT} {te : TE} {use : Option (Value → Sem Unit)} {Qf : Value → Shared → Prop}
    (hc : X.calm = true) (hN : X.N.Nodup) (I : Inv X pins σ H s) (hi : PI X tg iter wi) (ok : BlkOk X.N X.env.scope scope own)
    (hg : ∀ (s : Shared) (H : Hp) (C : Addr) (cl : List (PySem.Str × Addr)) (fp : List Addr), PG (X.blk s H scope (compEnvC scope cl C X.env) fp) tg g) (ht : ∀ (s : Shared) (H : Hp) (C : Addr) (cl : List (PySem.Str × Addr)) (fp : List Addr), PTs (X.blk s H scope (compEnvC scope cl C X.env) fp) ifs tt)
    (he : ∀ (s : Shared) (H : Hp) (C : Addr) (cl : List (PySem.Str × Addr)) (fp : List Addr), PE (X.blk s H scope (compEnvC scope cl C X.env) fp) elt te) (hs : ∀ x, foldedSetIterable iter X.env x = pure x)
    (h : tScK X.prog X.w wi g tt te (own.map (·.2)) σ H Q)
    (hRR : ∀ D C s' m H', Inv X pins σ H' s' → Q (.ref D) H' → s'.heap.Ns C m → FpOk X pins H' C → compPost (model X.prog X.w) X.A X.xe use Qf (.ref D) C (.ok .next) s') :
    wpAny (model X.prog X.w) X.A (comprehension (.SetComp elt [⟨tg, iter, ifs, 0⟩] scope pos) scope X.env pos' (newSet (.type "set")) false (eval iter X.env) use) Qf X.xe s := by
  have hfree : ∀ y ∈ scope.names, y.2 = .free → ∃ c, X.env.cells.lookup y.1 = some c := fun y hy e => by
    rcases ok.free y hy e with k | k
    · exact I.ok.has _ (.inl k)
    · exact I.ok.has _ (.inr k)
  refine wpAny_comprehension_free (use := use) rfl hs (closure_ok hfree) ok.kind (fun y hy e => by rw [ok.uniq y hy, e])
    (thn (hi.run pins s σ H _ I h) fun xv s1 hx => thn hx fun itv s2 h2 => ?_)
  obtain ⟨it, fp, tn, J, H2, e, I2, T, st2, f2, q⟩ := h2
  subst e
  refine PpSet.newSet_ok (newEnv_comp ?_)
  generalize hD : s2.heap.objs.size = D
  have hDn : H2 D = none := I2.hok.fresh (Nat.le_of_eq hD)
  obtain ⟨W, ⟨m0, w0⟩, turn⟩ := q D hDn
  -- the new list
  generalize hs3 : ({ s2 with heap := s2.heap.push { cls := .type "set", dict := none, data := .set #[] 0 (.fresh 0 0 (!X.w.params.followText "set-order")) } } : Shared) = s3
  have I3 : Inv X pins σ (upd H2 D (SetK X.prog X.w D (fun _ => false) 0)) s3 := by
    rw [← hs3]
    refine I2.laid (t' := s2.toks) (fun b o e => Heap.get?_push_of_some _ e) (Nat.le_of_eq hD) ?_
    rw [← hD]
    exact setK_new (fresh_setK X.prog X.w s2.heap)
  have h3 : s3.heap = s2.heap.push { cls := .type "set", dict := none, data := .set #[] 0 (.fresh 0 0 (!X.w.params.followText "set-order")) } := by rw [← hs3]
  have sz : ∀ b ∈ fp, b < s2.heap.objs.size := fun b hb => by
    obtain ⟨o, e, _⟩ := T.obj _ _ st2 b hb
    exact Heap.lt_size e
  have f3 : ∀ b ∈ fp, FpOk X pins (upd H2 D (SetK X.prog X.w D (fun _ => false) 0)) b ∧ b < s3.heap.objs.size := fun b hb => by
    have hlt := sz b hb
    refine ⟨⟨?_, (f2 b hb).2⟩, by rw [h3, Heap.size_push]; exact Nat.lt_succ_of_lt hlt⟩
    rw [upd_ne (by rw [← hD]; exact Nat.ne_of_lt hlt)]
    exact (f2 b hb).1
  have st3 : tn 0 s3.heap := T.keep _ _ _ st2 fun b _ o e => by rw [h3]; exact Heap.get?_push_of_some _ e
  have I4 := block_start I3 ok hN f3
  have pg := hg s3 (upd H2 D (SetK X.prog X.w D (fun _ => false) 0)) s3.heap.objs.size (cellsFrom (s3.heap.objs.size + 1) scope.names (cloFrom X.env.cells scope.names [])) fp
  have pt := ht s3 (upd H2 D (SetK X.prog X.w D (fun _ => false) 0)) s3.heap.objs.size (cellsFrom (s3.heap.objs.size + 1) scope.names (cloFrom X.env.cells scope.names [])) fp
  have pe := he s3 (upd H2 D (SetK X.prog X.w D (fun _ => false) 0)) s3.heap.objs.size (cellsFrom (s3.heap.objs.size + 1) scope.names (cloFrom X.env.cells scope.names [])) fp
  show codeAny _ _ (.compStart (.SetComp elt [⟨tg, iter, ifs, 0⟩] scope pos) 0 (.ref it) (.ref D) (compEnvC scope (cellsFrom (s3.heap.objs.size + 1) scope.names (cloFrom X.env.cells scope.names [])) s3.heap.objs.size X.env)) (compPost (model X.prog X.w) X.A X.xe use Qf (.ref D) s3.heap.objs.size) { s3 with heap := pushCells (s3.heap.push { cls := .type "dict", data := .dict #[] }) scope.names }
  have nfp : ∀ b ∈ fp, (upd H2 D (SetK X.prog X.w D (fun _ => false) 0)) b = none := fun b hb => (f3 b hb).1.1
  generalize hce : compEnvC scope (cellsFrom (s3.heap.objs.size + 1) scope.names (cloFrom X.env.cells scope.names [])) s3.heap.objs.size X.env = ce at I4 pg pt pe ⊢
  have cL : ce.locals = s3.heap.objs.size := by subst hce; rfl
  generalize hH3 : upd H2 D (SetK X.prog X.w D (fun _ => false) 0) = H3 at I3 I4 pg pt pe w0 nfp f3
  generalize hs4 : ({ s3 with heap := pushCells (s3.heap.push { cls := .type "dict", data := .dict #[] }) scope.names } : Shared) = s4 at I4 ⊢
  have st4 : tn 0 s4.heap := T.keep _ _ _ st3 fun b _ o e => by rw [← hs4]; exact pushCells_keeps _ _ _ _ (Heap.get?_push_of_some _ e)
  have stat : ∀ {σ' : L2.St} {H' : Hp} {s' : Shared}, Inv (X.blk s3 H3 scope ce fp) [] σ' H' s' → (∀ b ∈ fp, H' b = none) → ∀ b ∈ fp, FpOk (X.blk s3 H3 scope ce fp) [] H' b := fun {σ' H' s'} I' hn b hb =>
    ⟨hn b hb, (I'.ok.exf b hb).1, I'.ok.exfs b hb, .inl hb, fun x c e => (I'.ok.exf b hb).2 x c e, fun p hp => absurd (show p ∈ ([] : List (Addr × Obj)) ++ [] from hp) (by simp)⟩
  have loop : codeAny (model X.prog X.w) X.A (.compLoop (.SetComp elt [⟨tg, iter, ifs, 0⟩] scope pos) 0 (.ref it) (.ref D) ce) (compPost (model X.prog X.w) X.A X.xe use Qf (.ref D) s3.heap.objs.size) s4 := by
    refine PpSet.compLoopS_any (fun n s' => ∃ i H', Inv (X.blk s3 H3 scope ce fp) [] (wipe σ (own.map (·.2))) H' s' ∧ tn i s'.heap ∧ (∀ b ∈ fp, H' b = none) ∧ W i n H') ?_ m0 ⟨0, H3, I4, st4, nfp, w0⟩
    rintro n s5 ⟨i, H5, I5, st5, n5, w5⟩
    rcases turn i n H5 w5 with ⟨stop, qq⟩ | ⟨go, Nx, hNx, step⟩
    · have td := T.done (X.blk s3 H3 scope ce fp) rfl rfl rfl hc i [] s5 _ H5 (fun _ _ => False) I5 (stat I5 n5) st5 stop
      refine thnF td fun r s6 ⟨hr, I6⟩ => ?_
      subst hr
      -- back in the def's context
      have I7 : Inv X pins σ H5 s6 := I3.call' (ch := fp) I6.os I6.base I6.hok I6.bare fun b hb => ⟨(f3 b hb).1.2.2.2.1, (f3 b hb).1.2.1, (f3 b hb).1.2.2.2.2.1, (f3 b hb).1.2.2.2.2.2⟩
      have nC : H5 s3.heap.objs.size = none := by
        have z : H5 ce.locals = none := I6.free
        rw [cL] at z
        exact z
      obtain ⟨m, hn, _⟩ := I6.loc
      have hn : s6.heap.Ns ce.locals m := hn
      rw [cL] at hn
      exact hRR D s3.heap.objs.size s6 m H5 I7 qq hn (I3.fpOk (Nat.le_refl _) nC)
    · have ti := T.item (X.blk s3 H3 scope ce fp) rfl rfl rfl hc i [] s5 _ H5 (fun _ _ => False) I5 (stat I5 n5) st5 go
      refine thnF ti fun r s6 ⟨u, hr, h6⟩ => ?_
      subst hr
      refine thnF h6 fun _ s7 ⟨x, H7, I7, r7, y7, st7, n7⟩ => ?_
      have I7' := I7.pinned (stat I7 n7) (T.obj _ _ st7)
      refine thnF (pg.run _ s7 _ H7 x u _ I7' r7 (step x H7 y7)) fun _ s8 ⟨σ8, H8, I8, hw8, q8⟩ => ?_
      refine thnF (pt.run _ s8 σ8 H8 _ I8 q8) fun b s9 ⟨H9, I9, q9⟩ => ?_
      -- the turn's end
      have fin : ∀ {s' : Shared} {H' : Hp}, Inv (X.blk s3 H3 scope ce fp) ([] ++ pinsAt fp s7.heap) σ8 H' s' → Nx H' → ∃ m, m < n ∧ ∃ i H', Inv (X.blk s3 H3 scope ce fp) [] (wipe σ (own.map (·.2))) H' s' ∧ tn i s'.heap ∧ (∀ b ∈ fp, H' b = none) ∧ W i m H' := fun {s' H'} I' nx => by
        obtain ⟨m', hm, w'⟩ := hNx H' nx
        have pin' : ∀ b ∈ fp, ∀ o, s7.heap.get? b = some o → s'.heap.get? b = some o ∧ H' b = none := fun b hb o e =>
          let z := I'.pin (b, o) (List.mem_append_right _ (List.mem_append_right _ (mem_pinsAt hb e)))
          ⟨z.1, z.2.1⟩
        have hl : (wipe σ (own.map (·.2))).length = σ8.length := by rw [← hw8, wipe_length]
        refine ⟨m', hm, i + 1, H', (I'.unpinned (pins := [])).weak hl (fun j v e => ?_), T.keep _ _ _ st7 fun b hb o e => (pin' b hb o e).1, fun b hb => ?_, w'⟩
        · rw [← hw8] at e
          exact (wipe_some e).1
        · obtain ⟨o, e, _⟩ := T.obj _ _ st7 b hb
          exact (pin' b hb o e).2
      cases b with
      | false =>
        simp only [Bool.false_eq_true, if_false] at q9 ⊢
        exact fin I9 q9
      | true =>
        simp only [if_true] at q9 ⊢
        refine thnF (pe.run _ s9 σ8 H9 _ I9 q9) fun z s10 ⟨yv, H10, I10, r10, cb, S0, n0, ey, hD10, hz10, nx⟩ => ?_
        subst ey
        exact addK_ok (X := X.blk s3 H3 scope ce fp) I10 r10 hD10 hz10 fun s11 I11 => fin I11 nx
  exact PpSet.codeAny_compStart_set loop (T.self X.A 0 _ _ _ st4 loop)
/-- as a value -/
theorem pe_scK {elt tg iter : Expr} {ifs : List Expr} {scope : Scope} {own : List (PySem.Str × Nat)} {pos : Pos} {wi : TI} {g : TG} {tt : TT} {te : TE} (hc : X.calm = true) (hN : X.N.Nodup) (hi : PI X tg iter wi) (ok : BlkOk X.N X.env.scope scope own)
    (hg : ∀ (s : Shared) (H : Hp) (C : Addr) (cl : List (PySem.Str × Addr)) (fp : List Addr), PG (X.blk s H scope (compEnvC scope cl C X.env) fp) tg g) (ht : ∀ (s : Shared) (H : Hp) (C : Addr) (cl : List (PySem.Str × Addr)) (fp : List Addr), PTs (X.blk s H scope (compEnvC scope cl C X.env) fp) ifs tt)
    (he : ∀ (s : Shared) (H : Hp) (C : Addr) (cl : List (PySem.Str × Addr)) (fp : List Addr), PE (X.blk s H scope (compEnvC scope cl C X.env) fp) elt te) (hs : ∀ x, foldedSetIterable iter X.env x = pure x := by intro _; rfl) :
    PE X (.SetComp elt [⟨tg, iter, ifs, 0⟩] scope pos) (tScK X.prog X.w wi g tt te (own.map (·.2))) := by
  refine ⟨fun pins s σ H Q I h => ?_⟩
  rw [PpSet.eval_SetComp]
  refine sck_core hc hN I hi ok hg ht he hs h fun D C s' m H' I' q hn f => ⟨m, hn, fun h'' sb => ?_⟩
  obtain ⟨f0, f1, f2, f3, f4, f5⟩ := f
  exact ⟨.ref D, H', I'.turned (t' := s'.toks) (fun b o hb e => (sb.2 b hb).trans e) f0 f1 f3 f4 f5, rfl, q⟩
/-- len(s) of a set of keys -/
def rLenK (P : Program) (w : World) : List V → Hp → VK → Prop := fun xs H Q => ∃ (a : Addr) (S : Key → Bool) (n : Nat), xs = [.ref a] ∧ H a = some (SetK P w a S n) ∧ n ≤ 100000 ∧ Q (.int (n : Nat)) H
theorem cr_lenK : CallR X (.builtin "len") (rLenK X.prog X.w) := by
  intro pins s σ H xs us Q I r h
  obtain ⟨a, S, n, rfl, ha, hn, q⟩ := h
  cases r with
  | cons ry rt =>
    cases rt
    cases ry
    obtain ⟨o, es, ep, t, ho, hex, hd, _, _, _, hf, hl⟩ := setK_get I ha
    have hz : (n : Nat) < 2 ^ 63 := by omega
    refine call_len_set ho hex hd hf (by omega) ⟨.int n, H, I.tok _, ⟨_, by rw [hl]⟩, q⟩
end
section
variable {P : Program} {w : World} {K : PySem.W.Frag} {mg : Str → Option Value} {base : Heap}
theorem Kp.free {d c l : Addr} {H H' : Hp} (k : Kp d c H H') (h : H' l = none) (h1 : l ≠ d) (h2 : l ≠ c) : H l = none := by
  cases e : H l with
  | none => rfl
  | some o =>
    rw [k l o h1 h2 e] at h
    cases h
theorem atI_of {xs : List V} {i : Int} {v : V} (h0 : 0 ≤ i) (e : xs[i.toNat]? = some v) : atI xs i = some v := by
  obtain ⟨j, rfl⟩ : ∃ j : Nat, i = (j : Int) := ⟨i.toNat, by omega⟩
  exact atI_nat (by rw [Int.toNat_natCast] at e; exact e)
theorem atI_ints {xs : List Int} {i : Int} (h0 : 0 ≤ i) (h1 : i < xs.length) : ∃ x ∈ xs, xs[i.toNat]? = some x ∧ atI (xs.map V.int) i = some (.int x) := by
  have h : i.toNat < xs.length := by omega
  exact ⟨xs[i.toNat], List.getElem_mem h, List.getElem?_eq_getElem h, atI_of h0 (by rw [List.getElem?_map, List.getElem?_eq_getElem h]; rfl)⟩
end
/-! ### data that repr tells -/
structure Fine (k w : Nat) (d : PyData) : Prop where
  lay : d.canLay0 = true
  shw : d.showable = true
  nod : d.hasDict = false
  sho : d.intsShort 13 = true
  dep : d.depth ≤ k
  wei : d.weight ≤ w
theorem Fine.int {i : Int} (h0 : -1000 ≤ i) (h1 : i < 1000) : Fine 0 10 (.int i) := by
  have hn : i.natAbs < 1024 := by omega
  have hl : i.natAbs.log2 < 10 ∨ i.natAbs = 0 := by
    by_cases e : i.natAbs = 0
    · exact .inr e
    · exact .inl ((Nat.log2_lt e).mpr (by omega))
  have hl2 : i.natAbs.log2 < 1920 := by
    rcases hl with h | h
    · omega
    · rw [h]
      decide
  refine ⟨rfl, ?_, rfl, ?_, Nat.le_refl _, ?_⟩
  · rw [PyData.showable]
    exact decide_eq_true hl2
  · have h3 := PyProof.Rows.intsShortAll_ints2 [i] (fun n hn => by rw [List.mem_singleton.mp hn]; omega)
    simpa [PyData.intsShortAll] using h3
  · rw [PyData.weight]
    split
    · omega
    · rename_i e
      rcases hl with h | h
      · omega
      · exact absurd (by simpa using h) e
theorem Fine.non : Fine 0 0 .none := ⟨rfl, rfl, rfl, rfl, Nat.le_refl _, Nat.le_refl _⟩
theorem Fine.bool (b : Bool) : Fine 0 0 (.bool b) := ⟨rfl, rfl, rfl, rfl, Nat.le_refl _, Nat.le_refl _⟩
theorem Fine.str {x : Str} (h1 : (PyData.str x).canLay0 = true) (h2 : x.cps.size ≤ 100) : Fine 0 100 (.str x) := ⟨h1, rfl, rfl, rfl, Nat.le_refl _, h2⟩
theorem Fine.mono {k k' w w' : Nat} {d : PyData} (h : Fine k w d) (hk : k ≤ k') (hw : w ≤ w') : Fine k' w' d := ⟨h.lay, h.shw, h.nod, h.sho, Nat.le_trans h.dep hk, Nat.le_trans h.wei hw⟩
theorem fine_all {k w : Nat} : ∀ {xs : List PyData}, (∀ x ∈ xs, Fine k w x) → PyData.canLayAll0 xs = true ∧ PyData.showableAll xs = true ∧ PyData.hasDictAll xs = false ∧ PyData.intsShortAll 13 xs = true ∧ PyData.depthAll xs ≤ k ∧ PyData.weightAll xs ≤ xs.length * (w + 1)
  | [], _ => by simp [PyData.canLayAll0, PyData.showableAll, PyData.hasDictAll, PyData.intsShortAll, PyData.depthAll, PyData.weightAll]
  | x :: xs, h => by
    obtain ⟨h1, h2, h3, h4, h5, h6⟩ := fine_all (xs := xs) fun y hy => h y (List.mem_cons_of_mem _ hy)
    obtain ⟨g1, g2, g3, g4, g5, g6⟩ := h x (by simp)
    refine ⟨by rw [PyData.canLayAll0, g1, h1]; rfl, by rw [PyData.showableAll, g2, h2]; rfl, by rw [PyData.hasDictAll, g3, h3]; rfl, by rw [PyData.intsShortAll, g4, h4]; rfl, ?_, ?_⟩
    · rw [PyData.depthAll]
      omega
    · rw [PyData.weightAll, List.length_cons, Nat.succ_mul]
      omega
theorem Fine.tup {k w n : Nat} {xs : List PyData} (h : ∀ x ∈ xs, Fine k w x) (hn : xs.length ≤ n) : Fine (k + 1) (n * (w + 1)) (.tuple xs) := by
  obtain ⟨h1, h2, h3, h4, h5, h6⟩ := fine_all h
  refine ⟨by rw [PyData.canLay0]; exact h1, by rw [PyData.showable]; exact h2, by rw [PyData.hasDict]; exact h3, by rw [PyData.intsShort]; exact h4, by rw [PyData.depth]; omega, ?_⟩
  rw [PyData.weight]
  exact Nat.le_trans h6 (Nat.mul_le_mul_right _ hn)
theorem Fine.len {k w : Nat} {d : PyData} (h : Fine k w d) (hk : k ≤ 60) (hw : w ≤ 1000000) : d.shown.length ≤ sizeLine := by
  have hl : PyData.layable0 d = true := by
    unfold PyData.layable0
    rw [h.lay, decide_eq_true (show d.depth ≤ 64 by have := h.dep; omega), decide_eq_true (show d.weight ≤ 2 ^ 20 by have := h.wei; omega)]
    rfl
  have := PyProof.Rows.shown_le13 hl h.sho
  rw [sizeLine_eq]
  omega
def tieD (t : Tie) : PyData := .tuple [.int t.one, .int t.other, .str (kindS t.foe)]
def webD (n : Int) (ts : List Tie) : PyData := .tuple [.int n, .tuple (ts.map tieD)]
theorem kind_ok (b : Bool) : (PyData.str (kindS b)).canLay0 = true ∧ (kindS b).cps.size ≤ 100 := by cases b <;> decide +kernel
theorem Fine.tie {n : Int} {t : Tie} (h : TieOk n t) (hn : n ≤ 40) : Fine 1 303 (tieD t) := by
  obtain ⟨h1, h2, h3, h4, _⟩ := h
  refine (Fine.tup (k := 0) (w := 100) (n := 3) (fun x hx => ?_) (Nat.le_refl _)).mono (Nat.le_refl _) (by decide)
  simp only [List.mem_cons, List.not_mem_nil, or_false] at hx
  rcases hx with rfl | rfl | rfl
  · exact (Fine.int (by omega) (by omega)).mono (Nat.le_refl _) (by decide)
  · exact (Fine.int (by omega) (by omega)).mono (Nat.le_refl _) (by decide)
  · exact Fine.str (kind_ok _).1 (kind_ok _).2
theorem Fine.web {n : Int} {ts : List Tie} (h : WebOk n ts) : Fine 3 80000 (webD n ts) := by
  have h1 := h.lo
  have h2 := h.hi
  have ft : Fine 2 36480 (.tuple (ts.map tieD)) := (Fine.tup (k := 1) (w := 303) (n := 120) (fun x hx => by
    obtain ⟨t, ht, rfl⟩ := List.mem_map.mp hx
    exact Fine.tie (h.ok t ht) h2) (by rw [List.length_map]; exact h.few)).mono (Nat.le_refl _) (by decide)
  refine (Fine.tup (k := 2) (w := 36480) (n := 2) (fun x hx => ?_) (Nat.le_refl _)).mono (Nat.le_refl _) (by decide)
  simp only [List.mem_cons, List.not_mem_nil, or_false] at hx
  rcases hx with rfl | rfl
  · exact (Fine.int (by omega) (by omega)).mono (by decide) (by decide)
  · exact ft
theorem Fine.intsD {xs : List Int} (h : ∀ x ∈ xs, 0 ≤ x ∧ x < 1000) (hl : xs.length ≤ 200) : Fine 1 2200 (intsD xs) :=
  (Fine.tup (k := 0) (w := 10) (n := 200) (fun x hx => by
    obtain ⟨i, hi, rfl⟩ := List.mem_map.mp hx
    have := h i hi
    exact Fine.int (by omega) (by omega)) (by rw [List.length_map]; exact hl)).mono (Nat.le_refl _) (by decide)
theorem dp_ties {K : PySem.W.Frag} {H : Hp} : ∀ {vs : List V} {ts : List Tie}, Paired (TieV H) vs ts → DpAll K H vs (ts.map tieD)
  | _, _, .nil => .nil
  | _, _, .cons r t => by
    obtain ⟨a, rfl, e⟩ := r
    exact .cons (.tup (SqT.of e) (.cons (.int _) (.cons (.int _) (.cons (.str _) .nil)))) (dp_ties t)
theorem WebAt.dp {K : PySem.W.Frag} {H : Hp} {v : V} {n : Int} {ts : List Tie} (h : WebAt H v n ts) : Dp K H v (webD n ts) := by
  obtain ⟨a, b, vs, rfl, h1, h2, h3⟩ := h
  exact .tup (SqT.of h1) (.cons (.int _) (.cons (.tup (SqT.of h2) (dp_ties h3)) .nil))
/-! ### ties that sides break -/
def sd (ss : List Int) (i : Int) : Int := ss.getD i.toNat 0
def tieAt (ts : List Tie) (i : Int) : Tie := ts.getD i.toNat ⟨0, 0, false⟩
def brk (ss : List Int) (t : Tie) : Bool := decide (sd ss t.one = sd ss t.other) == t.foe
def badTo (ss : List Int) (ts : List Tie) (k : Nat) : List Int := (rng k).filter fun i => brk ss (tieAt ts i)
def bad (ss : List Int) (ts : List Tie) : List Int := badTo ss ts ts.length
theorem badTo_succ (ss : List Int) (ts : List Tie) (k : Nat) : badTo ss ts (k + 1) = badTo ss ts k ++ (if brk ss (tieAt ts k) = true then [(k : Int)] else []) := by
  unfold badTo
  rw [rng_succ, List.filter_append, List.filter_cons]
  rfl
theorem badTo_len (ss : List Int) (ts : List Tie) (k : Nat) : (badTo ss ts k).length ≤ k := by
  unfold badTo
  have := List.length_filter_le (fun i => brk ss (tieAt ts i)) (rng k)
  rw [rng_length] at this
  exact this
theorem atI_sd {ss : List Int} {i : Int} (h0 : 0 ≤ i) (h1 : i < ss.length) : atI (ss.map V.int) i = some (.int (sd ss i)) := by
  have h : i.toNat < ss.length := by omega
  refine atI_of h0 ?_
  unfold sd
  rw [List.getElem?_map, List.getElem?_eq_getElem h, List.getD_eq_getElem?_getD, List.getElem?_eq_getElem h]
  rfl
theorem tieAt_of {ts : List Tie} {i : Nat} {t : Tie} (h : ts[i]? = some t) : tieAt ts i = t := by
  unfold tieAt
  rw [Int.toNat_natCast, List.getD_eq_getElem?_getD, h]
  rfl
theorem eq_brk (x y : Int) (f : Bool) : decide (V.bl (decide (V.int x = V.int y)) = V.bl (decide (V.str (kindS f) = V.str "foe"))) = (decide (x = y) == f) := by
  have e : decide (V.int x = V.int y) = decide (x = y) := by
    by_cases h : x = y
    · rw [decide_eq_true h, decide_eq_true (by rw [h])]
    · rw [decide_eq_false h, decide_eq_false (fun z => h (V.int.inj z))]
  rw [e]
  cases decide (x = y) <;> cases f <;> rfl
theorem ne_brk (x y : Int) (f : Bool) : (!decide (V.bl (!decide (V.int x = V.int y)) = V.bl (decide (V.str (kindS f) = V.str "foe")))) = (decide (x = y) == f) := by
  have e : decide (V.int x = V.int y) = decide (x = y) := by
    by_cases h : x = y
    · rw [decide_eq_true h, decide_eq_true (by rw [h])]
    · rw [decide_eq_false h, decide_eq_false (fun z => h (V.int.inj z))]
  rw [e]
  cases decide (x = y) <;> cases f <;> rfl
def spBreaks : Sp := fun vs H Q _ => ∃ (a b : Addr) (ss : List Int) (t : Tie), vs = [.ref a, .ref b] ∧ H a = some (.tup (ss.map V.int)) ∧ H b = some (.tup [.int t.one, .int t.other, .str (kindS t.foe)]) ∧ TieOk ss.length t ∧ Q (.bl (brk ss t)) H
def spBroken : Sp := fun vs H Q _ => ∃ (v : V) (a : Addr) (n : Int) (ts : List Tie) (ss : List Int), vs = [v, .ref a] ∧ WebAt H v n ts ∧ WebOk n ts ∧ H a = some (.tup (ss.map V.int)) ∧ (ss.length : Int) = n ∧
  ∀ r H', Same H H' → H' r = some (.tup ((bad ss ts).map V.int)) → Q (.ref r) H'
/-! ### sides put over -/
def Bin (ss : List Int) : Prop := ∀ x ∈ ss, x = 0 ∨ x = 1
theorem sd_get {ss : List Int} {i : Int} (h0 : 0 ≤ i) (h1 : i < ss.length) : ∃ h : i.toNat < ss.length, sd ss i = ss[i.toNat] := by
  have h : i.toNat < ss.length := by omega
  refine ⟨h, ?_⟩
  unfold sd
  rw [List.getD_eq_getElem?_getD, List.getElem?_eq_getElem h]
  rfl
theorem sd_bin {ss : List Int} (b : Bin ss) {i : Int} (h0 : 0 ≤ i) (h1 : i < ss.length) : sd ss i = 0 ∨ sd ss i = 1 := by
  obtain ⟨h, e⟩ := sd_get h0 h1
  rw [e]
  exact b _ (List.getElem_mem h)
def over (ss : List Int) : List Int := ss.map fun s => 1 - s
theorem sd_over {ss : List Int} {i : Int} (h0 : 0 ≤ i) (h1 : i < ss.length) : sd (over ss) i = 1 - sd ss i := by
  obtain ⟨h, e⟩ := sd_get h0 h1
  obtain ⟨h', e'⟩ := sd_get (ss := over ss) h0 (by unfold over; rw [List.length_map]; exact h1)
  rw [e, e']
  simp [over]
theorem brk_over {ss : List Int} {t : Tie} (ok : TieOk ss.length t) : brk (over ss) t = brk ss t := by
  unfold brk
  rw [sd_over ok.1 ok.2.1, sd_over ok.2.2.1 ok.2.2.2.1]
  congr 1
  rw [decide_eq_decide]
  omega
theorem tieAt_mem {ts : List Tie} {i : Int} (h : i ∈ rng ts.length) : tieAt ts i ∈ ts := by
  rw [mem_rng] at h
  have h' : i.toNat < ts.length := by omega
  unfold tieAt
  rw [List.getD_eq_getElem?_getD, List.getElem?_eq_getElem h']
  exact List.getElem_mem h'
theorem bad_over {ss : List Int} {ts : List Tie} (ok : ∀ t ∈ ts, TieOk ss.length t) : bad (over ss) ts = bad ss ts := by
  unfold bad badTo
  exact List.filter_congr fun i hi => brk_over (ok _ (tieAt_mem hi))
def moved (ss : List Int) (p : Int) : List Int := ss.set p.toNat (1 - sd ss p)
theorem moved_len (ss : List Int) (p : Int) : (moved ss p).length = ss.length := by unfold moved; rw [List.length_set]
theorem sd_moved {ss : List Int} {p i : Int} (p0 : 0 ≤ p) (p1 : p < ss.length) (h0 : 0 ≤ i) (h1 : i < ss.length) : sd (moved ss p) i = if i = p then 1 - sd ss p else sd ss i := by
  show (ss.set p.toNat (1 - sd ss p)).getD i.toNat 0 = _
  rw [List.getD_eq_getElem?_getD, List.getElem?_set]
  by_cases hp : i = p
  · subst hp
    rw [if_pos rfl, if_pos (by omega), if_pos rfl]
    rfl
  · rw [if_neg (by omega), if_neg hp]
    unfold sd
    rw [List.getD_eq_getElem?_getD]
theorem brk_moved {ss : List Int} (b : Bin ss) {t : Tie} {p : Int} (ok : TieOk ss.length t) (p0 : 0 ≤ p) (p1 : p < ss.length) : brk (moved ss p) t = (brk ss t != (t.one == p || t.other == p)) := by
  unfold brk
  rw [sd_moved p0 p1 ok.1 ok.2.1, sd_moved p0 p1 ok.2.2.1 ok.2.2.2.1]
  have b1 := sd_bin b ok.1 ok.2.1
  have b2 := sd_bin b ok.2.2.1 ok.2.2.2.1
  have ne := ok.2.2.2.2
  by_cases h1 : t.one = p
  · have h2 : t.other ≠ p := fun z => ne (h1.trans z.symm)
    rw [if_pos h1, if_neg h2, ← h1]
    have e1 : (t.one == t.one) = true := by simp
    rw [e1, Bool.true_or]
    rcases b1 with e | e <;> rcases b2 with e' | e' <;> rw [e, e'] <;> cases t.foe <;> rfl
  · rw [if_neg h1]
    have e1 : (t.one == p) = false := by simp [h1]
    rw [e1, Bool.false_or]
    by_cases h2 : t.other = p
    · rw [if_pos h2, ← h2]
      have e2 : (t.other == t.other) = true := by simp
      rw [e2]
      rcases b1 with e | e <;> rcases b2 with e' | e' <;> rw [e, e'] <;> cases t.foe <;> rfl
    · rw [if_neg h2]
      have e2 : (t.other == p) = false := by simp [h2]
      rw [e2, Bool.bne_false]
theorem moved_cut {ss : List Int} {p : Int} (p0 : 0 ≤ p) (p1 : p < ss.length) : cutV (ss.map V.int) none (some p) ++ [V.int (1 - sd ss p)] ++ cutV (ss.map V.int) (some (p + 1)) none = (moved ss p).map V.int := by
  obtain ⟨k, rfl⟩ : ∃ k : Nat, p = k := ⟨p.toNat, by omega⟩
  have hk : k < ss.length := by omega
  have e1 : cutV (ss.map V.int) none (some (k : Int)) = (ss.take k).map V.int := by
    unfold cutV
    rw [HT.sIx_none, HT.sIx_nat, List.length_map, Nat.min_eq_left (by omega), List.drop_zero, List.map_take]
    rfl
  have e2 : cutV (ss.map V.int) (some ((k : Int) + 1)) none = (ss.drop (k + 1)).map V.int := by
    unfold cutV
    rw [HT.sIx_none, show ((k : Int) + 1) = ((k + 1 : Nat) : Int) from by omega, HT.sIx_nat, List.length_map, Nat.min_eq_left (by omega), List.map_drop]
    exact List.take_of_length_le (by rw [List.length_drop, List.length_map]; omega)
  rw [e1, e2]
  unfold moved
  rw [Int.toNat_natCast, List.set_eq_take_append_cons_drop, if_pos hk]
  simp
theorem in_bad {ss : List Int} {ts : List Tie} {i : Nat} (hi : i < ts.length) : inV (.int (i : Int)) ((bad ss ts).map V.int) = brk ss (tieAt ts i) := by
  rw [Bool.eq_iff_iff]
  unfold inV
  rw [List.any_map, List.any_eq_true]
  unfold bad badTo
  constructor
  · rintro ⟨x, hx, e⟩
    have e' : (x == (i : Int)) = true := e
    rw [beq_iff_eq] at e'
    subst e'
    exact (List.mem_filter.mp hx).2
  · intro h
    exact ⟨i, List.mem_filter.mpr ⟨mem_rng.mpr (by omega), h⟩, by show ((i : Int) == (i : Int)) = true; simp⟩
theorem flat_ints (xs : List Int) : (xs.map V.int).all flatV = true := by
  rw [List.all_map, List.all_eq_true]
  intro x _
  rfl
theorem in_two (p x y : Int) : inV (.int p) [.int x, .int y] = (x == p || y == p) := by
  show ((x == p) || ((y == p) || false)) = _
  rw [Bool.or_false]
theorem ne_bl (a b : Bool) : (!decide (V.bl a = V.bl b)) = (a != b) := by cases a <;> cases b <;> rfl
/-! ### the fixed choice: the mathematics -/
def Cons (ss : List Int) (ts : List Tie) : Prop := ∀ t ∈ ts, brk ss t = false
def Odd (ts : List Tie) (n : Nat) : Prop := ∃ x : Int, (0 ≤ x ∧ x < n) ∧ RP ts x x true
def one? (ss : List Int) (i : Int) : Bool := decide (sd ss i = 1)
structure Told (ts : List Tie) (n : Nat) (ss : List Int) : Prop where
  len : ss.length = n
  bin : Bin ss
  each : ∀ i : Int, 0 ≤ i → i < n → ∃ m, leader ts m ∧ RP ts m i (one? ss i)
theorem brk_one {ss : List Int} (b : Bin ss) {t : Tie} (ok : TieOk ss.length t) : brk ss t = ((one? ss t.one ^^ one? ss t.other) ^^ t.foe) := by
  unfold brk one?
  have b1 := sd_bin b ok.1 ok.2.1
  have b2 := sd_bin b ok.2.2.1 ok.2.2.2.1
  rcases b1 with e | e <;> rcases b2 with e' | e' <;> rw [e, e'] <;> cases t.foe <;> decide
theorem cons_adj {ss : List Int} {ts : List Tie} (b : Bin ss) (ok : ∀ t ∈ ts, TieOk ss.length t) (h : Cons ss ts) {x y : Int} {k : Bool} (ad : Adj ts x y k) : (one? ss x ^^ one? ss y) = k := by
  obtain ⟨t, ht, rfl, h1⟩ := ad
  have e := h t ht
  rw [brk_one b (ok t ht)] at e
  rcases h1 with ⟨rfl, rfl⟩ | ⟨rfl, rfl⟩
  · revert e
    cases one? ss t.one <;> cases one? ss t.other <;> cases t.foe <;> simp
  · revert e
    cases one? ss t.one <;> cases one? ss t.other <;> cases t.foe <;> simp
theorem cons_walk {ss : List Int} {ts : List Tie} (b : Bin ss) (ok : ∀ t ∈ ts, TieOk ss.length t) (h : Cons ss ts) {x y : Int} {p : Bool} (r : RP ts x y p) : (one? ss x ^^ one? ss y) = p := by
  induction r with
  | nil => rw [Bool.xor_self]
  | step _ ad ih =>
    rw [← ih, ← cons_adj b ok h ad]
    rename_i u v p k _
    cases one? ss x <;> cases one? ss u <;> cases one? ss v <;> rfl
theorem cons_no_odd {ss : List Int} {ts : List Tie} {n : Nat} (b : Bin ss) (ok : ∀ t ∈ ts, TieOk ss.length t) (h : Cons ss ts) : ¬ Odd ts n := by
  rintro ⟨x, _, r⟩
  have := cons_walk b ok h r
  rw [Bool.xor_self] at this
  cases this
theorem leader_one {ts : List Tie} {m m' i : Int} (h : leader ts m) (h' : leader ts m') (r : Rch ts m i) (r' : Rch ts m' i) : m = m' := by
  have h1 := h m' (r.trans r'.symm)
  have h2 := h' m (r'.trans r.symm)
  omega
theorem told_unique {ts : List Tie} {n : Nat} {ss zs : List Int} (ok : ∀ t ∈ ts, TieOk n t) (h : Told ts n ss) (g : Told ts n zs) (c : Cons ss ts) : ss = zs := by
  refine List.ext_getElem? fun j => ?_
  by_cases hj : j < n
  · obtain ⟨m, l1, r1⟩ := h.each j (by omega) (by omega)
    obtain ⟨m', l2, r2⟩ := g.each j (by omega) (by omega)
    obtain rfl := leader_one l1 l2 ⟨_, r1⟩ ⟨_, r2⟩
    have w := cons_walk h.bin (by rw [h.len]; exact ok) c (r1.trans r2.symm)
    rw [Bool.xor_self] at w
    have e : one? ss j = one? zs j := by
      revert w
      cases one? ss (j : Int) <;> cases one? zs (j : Int) <;> simp
    have b1 := sd_bin h.bin (i := j) (by omega) (by rw [h.len]; omega)
    have b2 := sd_bin g.bin (i := j) (by omega) (by rw [g.len]; omega)
    obtain ⟨h1, e1⟩ := sd_get (ss := ss) (i := j) (by omega) (by rw [h.len]; omega)
    obtain ⟨h2, e2⟩ := sd_get (ss := zs) (i := j) (by omega) (by rw [g.len]; omega)
    have es : sd ss j = sd zs j := by
      unfold one? at e
      rcases b1 with x | x <;> rcases b2 with y | y <;> rw [x, y] at e ⊢ <;> revert e <;> decide
    rw [Int.toNat_natCast] at h1 h2
    rw [List.getElem?_eq_getElem h1, List.getElem?_eq_getElem h2]
    have : ss[j] = zs[j] := by
      have q1 : sd ss j = ss[j] := e1
      have q2 : sd zs j = zs[j] := e2
      rw [← q1, ← q2, es]
    rw [this]
  · rw [List.getElem?_eq_none (by rw [h.len]; omega), List.getElem?_eq_none (by rw [g.len]; omega)]
theorem told_odd {ts : List Tie} {n : Nat} {ss : List Int} (ok : ∀ t ∈ ts, TieOk n t) (h : Told ts n ss) {t : Tie} (ht : t ∈ ts) (hb : brk ss t = true) : Odd ts n := by
  have okt := ok t ht
  obtain ⟨m, l1, r1⟩ := h.each t.one okt.1 okt.2.1
  obtain ⟨m', l2, r2⟩ := h.each t.other okt.2.2.1 okt.2.2.2.1
  have ad : Adj ts t.one t.other t.foe := ⟨t, ht, rfl, .inl ⟨rfl, rfl⟩⟩
  obtain rfl := leader_one l1 l2 (Rch.trans ⟨_, r1⟩ (Rch.adj ad)) ⟨_, r2⟩
  have w := (r1.step ad).trans r2.symm
  refine ⟨m, Rch.rng ok ⟨okt.1, okt.2.1⟩ ⟨_, r1.symm⟩, ?_⟩
  have e : ((one? ss t.one ^^ t.foe) ^^ one? ss t.other) = true := by
    rw [brk_one h.bin (by rw [h.len]; exact okt)] at hb
    revert hb
    cases one? ss t.one <;> cases one? ss t.other <;> cases t.foe <;> simp
  rw [← e]
  exact w
theorem bad_nil {ss : List Int} {ts : List Tie} : bad ss ts = [] ↔ Cons ss ts := by
  unfold bad badTo Cons
  rw [List.filter_eq_nil_iff]
  constructor
  · intro h t ht
    obtain ⟨j, hj⟩ := List.getElem?_of_mem ht
    have hl := (List.getElem?_eq_some_iff.mp hj).1
    have := h j (mem_rng.mpr (by omega))
    rw [tieAt_of hj] at this
    simpa using this
  · intro h i hi
    rw [h _ (tieAt_mem hi)]
    decide
/-! ### groups by their least places, sides along the ties -/
theorem RP.mono {ts ts' : List Tie} (h : ∀ t ∈ ts, t ∈ ts') {a b : Int} {p : Bool} (r : RP ts a b p) : RP ts' a b p := by
  induction r with
  | nil => exact .nil
  | step _ ad ih =>
    obtain ⟨t, ht, e, q⟩ := ad
    exact ih.step ⟨t, h t ht, e, q⟩
def bit (x : Int) : Bool := decide (x = 1)
structure GS (ts : List Tie) (n : Nat) (g s : Int → Int) (good : Bool) : Prop where
  rp : ∀ i : Int, 0 ≤ i → i < n → RP ts (g i) i (bit (s i))
  le : ∀ i : Int, 0 ≤ i → i < n → 0 ≤ g i ∧ g i ≤ i
  bn : ∀ i : Int, 0 ≤ i → i < n → s i = 0 ∨ s i = 1
  eq : ∀ t ∈ ts, g t.one = g t.other
  yes : good = true → ∀ t ∈ ts, (bit (s t.one) ^^ bit (s t.other)) = t.foe
  no : good = false → Odd ts n
theorem GS.nil (n : Nat) : GS [] n (fun i => i) (fun _ => 0) true :=
  ⟨fun i _ _ => .nil, fun i h _ => ⟨h, Int.le_refl _⟩, fun _ _ _ => .inl rfl, fun t h => by simp at h, fun _ t h => by simp at h, fun h => by cases h⟩
theorem GS.same {ts : List Tie} {n : Nat} {g s : Int → Int} {good : Bool} (h : GS ts n g s good) {a b : Int} (r : Rch ts a b) : g a = g b :=
  r.ind (fun x => g a = g x) rfl fun x y k e ad => by
    obtain ⟨t, ht, _, q⟩ := ad
    have := h.eq t ht
    rcases q with ⟨rfl, rfl⟩ | ⟨rfl, rfl⟩
    · rw [e, this]
    · rw [e, this]
theorem GS.lead {ts : List Tie} {n : Nat} {g s : Int → Int} {good : Bool} (ok : ∀ t ∈ ts, TieOk n t) (h : GS ts n g s good) {i : Int} (h0 : 0 ≤ i) (h1 : i < n) : leader ts (g i) := fun q hq => by
  have e1 := h.same hq
  have e2 := h.same (⟨_, h.rp i h0 h1⟩ : Rch ts (g i) i)
  have r := hq.rng ok ⟨(h.le i h0 h1).1, by have := (h.le i h0 h1).2; omega⟩
  have := (h.le q r.1 r.2).2
  omega
def gNew (g : Int → Int) (low high : Int) : Int → Int := fun x => if low < high ∧ g x = high then low else g x
def sNew (g s : Int → Int) (low high turn : Int) : Int → Int := fun x => if low < high ∧ g x = high then (s x + turn) % 2 else s x
theorem bit_add {a b : Int} (ha : a = 0 ∨ a = 1) (hb : b = 0 ∨ b = 1) : bit ((a + b) % 2) = (bit a ^^ bit b) ∧ ((a + b) % 2 = 0 ∨ (a + b) % 2 = 1) := by
  rcases ha with rfl | rfl <;> rcases hb with rfl | rfl <;> decide
theorem GS.step {ts : List Tie} {n : Nat} {g s : Int → Int} {good : Bool} (h : GS ts n g s good) (okts : ∀ t ∈ ts, TieOk n t) {t : Tie} (ok : TieOk n t) {low high turn : Int} (hlow : low = min (g t.one) (g t.other)) (hhigh : high = max (g t.one) (g t.other)) (ht : turn = (s t.one + s t.other + (if t.foe = true then 1 else 0)) % 2) :
    GS (ts ++ [t]) n (gNew g low high) (sNew g s low high turn) (if low = high then good && decide (turn = 0) else good) := by
  have mono : ∀ x ∈ ts, x ∈ ts ++ [t] := fun x hx => List.mem_append_left _ hx
  have ad : Adj (ts ++ [t]) t.one t.other t.foe := ⟨t, by simp, rfl, .inl ⟨rfl, rfl⟩⟩
  have r1 := (h.rp t.one ok.1 ok.2.1).mono mono
  have r2 := (h.rp t.other ok.2.2.1 ok.2.2.2.1).mono mono
  have b1 := h.bn t.one ok.1 ok.2.1
  have b2 := h.bn t.other ok.2.2.1 ok.2.2.2.1
  have bt : bit turn = ((bit (s t.one) ^^ bit (s t.other)) ^^ t.foe) ∧ (turn = 0 ∨ turn = 1) := by
    rw [ht]
    rcases b1 with e | e <;> rcases b2 with e' | e' <;> rw [e, e'] <;> cases t.foe <;> decide
  have cross : low < high → RP (ts ++ [t]) low high (bit turn) := fun hl => by
    by_cases hc : g t.one ≤ g t.other
    · have e1 : low = g t.one := by omega
      have e2 : high = g t.other := by omega
      have w := (r1.step ad).trans r2.symm
      rw [e1, e2, bt.1]
      rw [show ((bit (s t.one) ^^ bit (s t.other)) ^^ t.foe) = ((bit (s t.one) ^^ t.foe) ^^ bit (s t.other)) from by cases bit (s t.one) <;> cases bit (s t.other) <;> cases t.foe <;> rfl]
      exact w
    · have e1 : low = g t.other := by omega
      have e2 : high = g t.one := by omega
      have w := (r2.step ad.symm).trans r1.symm
      rw [e1, e2, bt.1]
      rw [show ((bit (s t.one) ^^ bit (s t.other)) ^^ t.foe) = ((bit (s t.other) ^^ t.foe) ^^ bit (s t.one)) from by cases bit (s t.one) <;> cases bit (s t.other) <;> cases t.foe <;> rfl]
      exact w
  refine ⟨fun i h0 h1 => ?_, fun i h0 h1 => ?_, fun i h0 h1 => ?_, fun x hx => ?_, fun hg x hx => ?_, fun hg => ?_⟩
  · unfold gNew sNew
    by_cases hc : low < high ∧ g i = high
    · rw [if_pos hc, if_pos hc, (bit_add (h.bn i h0 h1) bt.2).1, Bool.xor_comm]
      have w := (h.rp i h0 h1).mono mono
      rw [hc.2] at w
      exact (cross hc.1).trans w
    · rw [if_neg hc, if_neg hc]
      exact (h.rp i h0 h1).mono mono
  · unfold gNew
    have l := h.le i h0 h1
    have l1 := h.le t.one ok.1 ok.2.1
    have l2 := h.le t.other ok.2.2.1 ok.2.2.2.1
    split
    · omega
    · exact l
  · unfold sNew
    split
    · exact (bit_add (h.bn i h0 h1) bt.2).2
    · exact h.bn i h0 h1
  · unfold gNew
    rcases List.mem_append.mp hx with hx | hx
    · rw [h.eq x hx]
    · rw [List.mem_singleton.mp hx]
      split <;> split <;> omega
  · rcases List.mem_append.mp hx with hx | hx
    · have hgood : good = true := by
        by_cases e : low = high
        · rw [if_pos e] at hg
          revert hg
          cases good <;> simp
        · rw [if_neg e] at hg
          exact hg
      have q := h.yes hgood x hx
      have e := h.eq x hx
      unfold sNew
      by_cases hc : low < high ∧ g x.one = high
      · have hc' : low < high ∧ g x.other = high := ⟨hc.1, by rw [← e]; exact hc.2⟩
        have okx := okts x hx
        rw [if_pos hc, if_pos hc', (bit_add (h.bn x.one okx.1 okx.2.1) bt.2).1, (bit_add (h.bn x.other okx.2.2.1 okx.2.2.2.1) bt.2).1, ← q]
        cases bit (s x.one) <;> cases bit (s x.other) <;> cases bit turn <;> rfl
      · have hc' : ¬ (low < high ∧ g x.other = high) := fun z => hc ⟨z.1, by rw [e]; exact z.2⟩
        rw [if_neg hc, if_neg hc']
        exact q
    · rw [List.mem_singleton.mp hx]
      unfold sNew
      by_cases e : low = high
      · rw [if_pos e] at hg
        have h0 : turn = 0 := by
          revert hg
          cases good <;> simp
        rw [if_neg (by omega), if_neg (by omega)]
        have z := bt.1
        rw [h0] at z
        revert z
        cases bit (s t.one) <;> cases bit (s t.other) <;> cases t.foe <;> decide
      · have hlt : low < high := by omega
        by_cases hc : g t.one ≤ g t.other
        · rw [if_neg (by omega), if_pos ⟨hlt, by omega⟩, (bit_add b2 bt.2).1, bt.1]
          cases bit (s t.one) <;> cases bit (s t.other) <;> cases t.foe <;> rfl
        · rw [if_pos ⟨hlt, by omega⟩, if_neg (by omega), (bit_add b1 bt.2).1, bt.1]
          cases bit (s t.one) <;> cases bit (s t.other) <;> cases t.foe <;> rfl
  · have old : good = false → Odd (ts ++ [t]) n := fun e => by
      obtain ⟨x, hx, r⟩ := h.no e
      exact ⟨x, hx, r.mono mono⟩
    by_cases e : low = high
    · rw [if_pos e] at hg
      cases hgood : good
      · exact old hgood
      · rw [hgood] at hg
        have h1 : turn = 1 := by
          rcases bt.2 with z | z
          · rw [z] at hg
            cases hg
          · exact z
        have eg : g t.one = g t.other := by omega
        have w := (r1.step ad).trans (eg ▸ r2).symm
        refine ⟨g t.one, ?_, ?_⟩
        · have := h.le t.one ok.1 ok.2.1
          have := ok.2.1
          omega
        · have z := bt.1
          rw [h1] at z
          rw [show ((bit (s t.one) ^^ t.foe) ^^ bit (s t.other)) = true from by
            revert z
            cases bit (s t.one) <;> cases bit (s t.other) <;> cases t.foe <;> decide] at w
          exact w
    · rw [if_neg e] at hg
      exact old hg
/-! ### d.update(e) -/
def rUpdate : V → List V → Hp → VK → Prop := fun x vs H Q => ∃ (a b : Addr) (kvs more : List (Key × V)), x = .ref a ∧ vs = [.ref b] ∧ H a = some (.dK kvs) ∧ H b = some (.dK more) ∧ a ≠ b ∧ kvs.length + more.length ≤ sizeLine ∧ Q .non (upd H a (.dK (mergeK kvs more)))
theorem mt_update {X : Cx} : MtR X "dict.update" rUpdate := by
  intro pins s σ H x vs v us Q I rx rv h
  obtain ⟨a, b, kvs, more, ex, ev, e1, e2, ne, hl, q⟩ := h
  subst ex
  subst ev
  obtain rfl : v = Value.ref a := rx
  obtain ⟨u, eu, r1⟩ := vals1 rv
  subst eu
  obtain rfl : u = Value.ref b := r1
  obtain ⟨z1, hd1, vs1, rel1, dd1⟩ := dk_of I.hok e1
  obtain ⟨z2, hd2, vs2, rel2, dd2⟩ := dk_of I.hok e2
  refine call_meetsIn PySem.F.slot_dict_update dd1.typeIs PySem.F.entry_dict_update (PySem.F.args_dict_update_2 _ _) (meets_dict_update (mixKind X.prog X.w) a b ne hd2) ⟨vs1, vs2, dd1, dd2, by rw [← rel1.length, ← rel2.length]; exact hl, fun h' dd' _ hs => ⟨.non, _, ?_, rfl, q⟩⟩
  have he : ∃ q, h'.get? a = some q := let ⟨q, _, _, hq, _⟩ := dd'; ⟨q, hq⟩
  exact d_write (t' := s.toks) I (by rw [e1]; exact True.intro) hs he (dk_new (Nat.le_trans (length_mergeK more kvs) hl) hd1 (rel2.merge rel1) dd')
/-! ### for each place its ties -/
theorem Same.mut {H H' : Hp} {a : Addr} {o : HO} (s : Same H H') (h : H a = none) : Same H (upd H' a o) := fun b x e => by
  rw [upd_ne (ne_of_none e h)]
  exact s b x e
abbrev Nb := Int × Bool
def NbV (H : Hp) (v : V) (p : Nb) : Prop := ∃ a, v = .ref a ∧ H a = some (.tup [.int p.1, .str (kindS p.2)])
theorem NbV.tk {H H' : Hp} (k : Tk H H') {v : V} {p : Nb} (h : NbV H v p) : NbV H' v p := by
  obtain ⟨a, rfl, e⟩ := h
  exact ⟨a, rfl, k _ _ e⟩
structure Around (H : Hp) (L : Addr) (As : List Addr) (N : Nat → List Nb) : Prop where
  at' : H L = some (.lst (As.map V.ref))
  nd : As.Nodup
  each : ∀ j a, As[j]? = some a → ∃ vs, H a = some (.lst vs) ∧ Paired (NbV H) vs (N j)
  out : L ∉ As
theorem Around.same {H H' : Hp} {L : Addr} {As : List Addr} {N : Nat → List Nb} (h : Around H L As N) (s : Same H H') : Around H' L As N :=
  ⟨s _ _ h.at', h.nd, fun j a e => by
    obtain ⟨vs, h1, h2⟩ := h.each j a e
    exact ⟨vs, s _ _ h1, Paired.mono (fun _ _ x => x.tk (Same.tk s)) h2⟩, h.out⟩
theorem Around.put {H : Hp} {L q : Addr} {As : List Addr} {N : Nat → List Nb} (h : Around H L As N) {j : Nat} {a : Addr} {vs : List V} {p : Nb} (ea : As[j]? = some a) (ev : H a = some (.lst vs)) (eq : NbV H (.ref q) p) :
    Around (upd H a (.lst (vs ++ [.ref q]))) L As (fun i => N i ++ if i = j then [p] else []) := by
  have k : Tk H (upd H a (.lst (vs ++ [.ref q]))) := tk_lst ev
  refine ⟨?_, h.nd, fun i b e => ?_, h.out⟩
  · have ne : L ≠ a := fun z => h.out (by rw [z]; exact List.mem_of_getElem? ea)
    rw [upd_ne ne]
    exact h.at'
  · obtain ⟨ws, h1, h2⟩ := h.each i b e
    by_cases hij : i = j
    · subst hij
      rw [ea] at e
      cases e
      rw [ev] at h1
      cases h1
      refine ⟨_, upd_same, ?_⟩
      rw [if_pos rfl]
      exact Paired.snoc (Paired.mono (fun _ _ x => x.tk k) h2) (eq.tk k)
    · have ne : b ≠ a := fun z => hij (by
        subst z
        exact (List.getElem?_inj (List.getElem?_eq_some_iff.mp e).1 h.nd).mp (e.trans ea.symm))
      refine ⟨ws, by rw [upd_ne ne]; exact h1, ?_⟩
      rw [if_neg hij, List.append_nil]
      exact Paired.mono (fun _ _ x => x.tk k) h2
def nb1 (t : Tie) (i : Int) : List Nb := (if i = t.one then [(t.other, t.foe)] else []) ++ (if i = t.other then [(t.one, t.foe)] else [])
def nbs (ts : List Tie) (i : Int) : List Nb := ts.flatMap fun t => nb1 t i
theorem nbs_snoc (ts : List Tie) (t : Tie) (i : Int) : nbs (ts ++ [t]) i = nbs ts i ++ nb1 t i := by
  unfold nbs
  rw [List.flatMap_append]
  simp
theorem nb1_len (t : Tie) (i : Int) : (nb1 t i).length ≤ 2 := by
  unfold nb1
  rw [List.length_append]
  split <;> split <;> simp
theorem nbs_len (ts : List Tie) (i : Int) : (nbs ts i).length ≤ 2 * ts.length := by
  induction ts with
  | nil => simp [nbs]
  | cons t ts ih =>
    have h := nb1_len t i
    unfold nbs at ih ⊢
    rw [List.flatMap_cons, List.length_append, List.length_cons]
    omega
theorem mem_nbs {ts : List Tie} {i : Int} {p : Nb} : p ∈ nbs ts i ↔ Adj ts i p.1 p.2 := by
  unfold nbs Adj nb1
  rw [List.mem_flatMap]
  constructor
  · rintro ⟨t, ht, h⟩
    refine ⟨t, ht, ?_⟩
    rcases List.mem_append.mp h with h | h
    · split at h
      · rename_i e
        rw [List.mem_singleton] at h
        subst h
        exact ⟨rfl, .inl ⟨e.symm, rfl⟩⟩
      · simp at h
    · split at h
      · rename_i e
        rw [List.mem_singleton] at h
        subst h
        exact ⟨rfl, .inr ⟨rfl, e.symm⟩⟩
      · simp at h
  · rintro ⟨t, ht, e, h⟩
    refine ⟨t, ht, List.mem_append.mpr ?_⟩
    obtain ⟨p1, p2⟩ := p
    simp only at e h
    rcases h with ⟨h1, h2⟩ | ⟨h1, h2⟩
    · left
      rw [if_pos h1.symm, List.mem_singleton, ← e, ← h2]
    · right
      rw [if_pos h2.symm, List.mem_singleton, ← e, ← h1]
/-- the list that neighbours tells -/
def AroundAt (H : Hp) (v : V) (n : Int) (ts : List Tie) : Prop := ∃ L As, v = .ref L ∧ (As.length : Int) = n ∧ Around H L As (fun j => nbs ts j)
theorem AroundAt.same {H H' : Hp} {v : V} {n : Int} {ts : List Tie} (h : AroundAt H v n ts) (s : Same H H') : AroundAt H' v n ts := by
  obtain ⟨L, As, rfl, h1, h2⟩ := h
  exact ⟨L, As, rfl, h1, h2.same s⟩
def spNeighbours : Sp := fun vs H Q _ => ∃ (v : V) (n : Int) (ts : List Tie), vs = [v] ∧ WebAt H v n ts ∧ WebOk n ts ∧
  ∀ v' H', AroundAt H' v' n ts → Same H H' → Q v' H'
section
variable {P : Program} {w : World} {K : PySem.W.Frag} {mg : Str → Option Value} {base : Heap}
theorem ok_neighbours {f : Addr} {fd : FuncData} (F : Fun K "neighbours" "neighbours" s_neighbours f fd) (M : Free mg) : FnOk P w K mg base CX0 1 f fd ["web"] spNeighbours := by
  refine F.ok sc_neighbours (fun vs H Q E h => ?_) (fun cdv A outer s H vs Q E hr h => ?_)
  · obtain ⟨v, n, ts, rfl, _⟩ := h
    rfl
  · obtain ⟨v, n, ts, rfl, ⟨a, b, us, rfl, ha, hb, hp⟩, ok, q⟩ := h
    refine ⟨_, (pss_cons (ps_asg (pv 0) (pg_tup rfl (pgs_cons (pg_name (i := 1) sc_neighbours.nd rfl (.inl rfl)) (pgs_cons (pg_name (i := 2) sc_neighbours.nd rfl (.inl rfl)) pgs_nil))))
      (pss_cons (ps_setLc (i := 3) (own := [("place", 4)]) (g := gName 4) (tt := tYes) rfl sc_neighbours.nd rfl rfl (sw_true rfl rfl rfl (by decide +kernel)) (pi_range1 (by rfl) M.range (pa_cons (pv 1) pa_nil)) (blkOk_by (N := N_neighbours) (sc := defScope s_neighbours) (own := [("place", 4)]) (by decide +kernel)) (fun _ _ _ _ _ => (pg_name (i := 4) sc_neighbours.nd rfl (.inl rfl))) (fun _ _ _ _ _ => pts_nil) (fun _ _ _ _ _ => (pe_lst pa_nil)))
      (pss_cons (ps_for PassesOwn.never rfl (pi_tup (pv 2)) (pg_tup rfl (pgs_cons (pg_name (i := 5) sc_neighbours.nd rfl (.inl rfl)) (pgs_cons (pg_name (i := 6) sc_neighbours.nd rfl (.inl rfl)) (pgs_cons (pg_name (i := 7) sc_neighbours.nd rfl (.inl rfl)) pgs_nil))))
        (pss_cons (ps_expr (pe_bm PySem.F.plainAttrs_list PySem.F.slot_list_append PySem.F.type_list_append mt_append (pe_ix ix_list (pv 3) (pv 5) (fun _ _ => rfl)) (pa_cons (pe_tup (pa_cons (pv 6) (pa_cons (pv 7) pa_nil))) pa_nil)))
        (pss_one (ps_expr (pe_bm PySem.F.plainAttrs_list PySem.F.slot_list_append PySem.F.type_list_append mt_append (pe_ix ix_list (pv 3) (pv 6) (fun _ _ => rfl)) (pa_cons (pe_tup (pa_cons (pv 5) (pa_cons (pv 7) pa_nil))) pa_nil))))))
      (pss_one (ps_ret (pv 3)))))), ?_⟩
    obtain ⟨k, rfl⟩ : ∃ k : Nat, n = k := ⟨n.toNat, by have := ok.lo; omega⟩
    have hk : k ≤ 40 := by have := ok.hi; omega
    -- many, ties = web
    refine ⟨.ref a, rfl, a, _, rfl, SqT.of ha, rfl, _, _, rfl, _, _, rfl, rfl, ?_⟩
    -- around
    refine ⟨.int k, rfl, k, rfl, by omega, by omega, fun L nL => ?_⟩
    rw [Int.toNat_natCast]
    refine lc_range (lo := 0) (n := k) (fun i H' => ∃ As : List Addr, As.length = i ∧ Around H' L As (fun _ => []) ∧ (∀ x ∈ As, H x = none) ∧ Same H H') ?_ ?_ ?_
    · exact ⟨[], rfl, ⟨upd_same, List.nodup_nil, fun j a e => by simp at e, by simp⟩, fun x hx => by simp at hx, same_new nL⟩
    · rintro i H1 hi ⟨As, hl, hA, hf, s1⟩
      refine ⟨rfl, Nat.zero_le _, fun p np => ?_⟩
      have hA2 := hA.same (same_new (o := .lst []) np)
      refine ⟨_, hA2.at', by rw [List.length_map]; exact small1000 (by omega), As ++ [p], by rw [List.length_append, hl]; rfl, ?_, fun x hx => ?_, Same.mut (s1.trans (same_new np)) nL⟩
      · have npA : p ∉ As := fun z => by
          obtain ⟨j, hj⟩ := List.getElem?_of_mem z
          obtain ⟨vs, h1, _⟩ := hA.each j p hj
          rw [np] at h1
          cases h1
        have npL : p ≠ L := fun z => by
          have h1 := hA.at'
          rw [← z, np] at h1
          cases h1
        refine ⟨by rw [upd_same, List.map_append]; rfl, ?_, fun j x e => ?_, ?_⟩
        · rw [List.nodup_append]
          refine ⟨hA.nd, by simp, fun x hx y hy z => ?_⟩
          rw [List.mem_singleton] at hy
          subst hy
          subst z
          exact npA hx
        · have hx : x ≠ L := fun z => by
            subst z
            rcases List.mem_append.mp (List.mem_of_getElem? e) with h | h
            · exact hA.out h
            · exact npL (List.mem_singleton.mp h).symm
          rcases List.mem_append.mp (List.mem_of_getElem? e) with h | h
          · obtain ⟨j2, e2⟩ := List.getElem?_of_mem h
            obtain ⟨vs, h1, h2⟩ := hA2.each j2 x e2
            cases h2
            exact ⟨[], by rw [upd_ne hx]; exact h1, .nil⟩
          · rw [List.mem_singleton] at h
            subst h
            exact ⟨[], by rw [upd_ne hx]; exact upd_same, .nil⟩
        · intro z
          rcases List.mem_append.mp z with h | h
          · exact hA.out h
          · exact npL (List.mem_singleton.mp h).symm
      · rcases List.mem_append.mp hx with h | h
        · exact hf x h
        · rw [List.mem_singleton.mp h]
          exact s1.free np
    rintro H0 ⟨As, hl, hA, hf, s0⟩
    have nLH : H L = none := nL
    -- the loop
    refine ⟨.ref b, rfl, b, rfl, ⟨_, SqT.of (s0 _ _ hb)⟩, ?_⟩
    have hlen : us.length = ts.length := Paired.length hp
    refine for_tup (xs := us) (fun i σ' H' => ∃ y5 y6 y7 : Option V, σ' = [some (.ref a), some (.int k), some (.ref b), some (.ref L), none, y5, y6, y7] ∧ Around H' L As (fun j => nbs (ts.take i) j) ∧ Same H H') ?_ ?_ ?_ ?_
    · exact ⟨none, none, none, rfl, hA, s0⟩
    · rintro i σ' H' _ ⟨y5, y6, y7, rfl, hA1, s1⟩
      exact SqT.of (s1 _ _ hb)
    · rintro i x σ' H1 ex ⟨y5, y6, y7, rfl, hA1, s1⟩
      obtain ⟨t, et, c, rfl, hc⟩ := Paired.at hp ex
      have okt := ok.ok t (List.mem_of_getElem? et)
      have hti := (List.getElem?_eq_some_iff.mp et).1
      have etk : ts.take (i + 1) = ts.take i ++ [t] := by
        rw [List.take_add_one, et]
        rfl
      have hts := ok.few
      refine ⟨c, _, rfl, SqT.of (s1 _ _ hc), rfl, _, _, rfl, _, _, rfl, _, _, rfl, rfl, ?_⟩
      obtain ⟨o1, o2, o3, o4, o5⟩ := okt
      -- the first
      obtain ⟨x1, e1, e1'⟩ := getI (xs := As) o1 (by omega)
      obtain ⟨vs1, g1, p1⟩ := hA1.each _ _ e1'
      have l1 := Paired.length p1
      have l1' := nbs_len (ts.take i) (t.one.toNat : Int)
      rw [List.length_take] at l1'
      refine ⟨.ref L, rfl, .int t.one, rfl, L, _, t.one, .ref x1, rfl, rfl, SqL.of hA1.at', ?_, .inl ⟨rfl, _, SqL.of g1⟩, .int t.other, rfl, .str (kindS t.foe), rfl, by show 2 ≤ sizeLine; decide, fun p np => ?_⟩
      · exact atI_of o1 (by rw [List.getElem?_map, e1']; rfl)
      have A2 := hA1.same (same_new (o := .tup [.int t.other, .str (kindS t.foe)]) np)
      refine ⟨x1, vs1, _, rfl, rfl, same_new np _ _ g1, small1000 (by omega), ?_⟩
      have A3 := A2.put e1' (same_new np _ _ g1) (q := p) (p := (t.other, t.foe)) ⟨p, rfl, upd_same⟩
      have s3 : Same H (upd (upd H1 p (.tup [.int t.other, .str (kindS t.foe)])) x1 (.lst (vs1 ++ [.ref p]))) := Same.mut (s1.trans (same_new np)) (hf _ (List.mem_of_getElem? e1'))
      generalize upd (upd H1 p (.tup [.int t.other, .str (kindS t.foe)])) x1 (.lst (vs1 ++ [.ref p])) = H3 at A3 s3
      -- the second
      obtain ⟨x2, e2, e2'⟩ := getI (xs := As) o3 (by omega)
      obtain ⟨vs2, g2, p2⟩ := A3.each _ _ e2'
      have l2 := Paired.length p2
      rw [List.length_append] at l2
      have l2' := nbs_len (ts.take i) (t.other.toNat : Int)
      rw [List.length_take] at l2'
      have l2'' : (if t.other.toNat = t.one.toNat then [(t.other, t.foe)] else []).length ≤ 1 := by split <;> simp
      refine ⟨.ref L, rfl, .int t.other, rfl, L, _, t.other, .ref x2, rfl, rfl, SqL.of A3.at', ?_, .inl ⟨rfl, _, SqL.of g2⟩, .int t.one, rfl, .str (kindS t.foe), rfl, by show 2 ≤ sizeLine; decide, fun p' np' => ?_⟩
      · exact atI_of o3 (by rw [List.getElem?_map, e2']; rfl)
      have A4 := A3.same (same_new (o := .tup [.int t.one, .str (kindS t.foe)]) np')
      refine ⟨x2, vs2, _, rfl, rfl, same_new np' _ _ g2, small1000 (by omega), ?_⟩
      have A5 := A4.put e2' (same_new np' _ _ g2) (q := p') (p := (t.one, t.foe)) ⟨p', rfl, upd_same⟩
      refine ⟨_, _, _, rfl, ?_, Same.mut (s3.trans (same_new np')) (hf _ (List.mem_of_getElem? e2'))⟩
      refine ⟨A5.at', A5.nd, fun j z ez => ?_, A5.out⟩
      obtain ⟨ws, w1, w2⟩ := A5.each j z ez
      refine ⟨ws, w1, ?_⟩
      rw [etk, nbs_snoc]
      have en : nb1 t j = (if j = t.one.toNat then [(t.other, t.foe)] else []) ++ (if j = t.other.toNat then [(t.one, t.foe)] else []) := by
        unfold nb1
        congr 1
        · by_cases h : j = t.one.toNat
          · rw [if_pos h, if_pos (by omega)]
          · rw [if_neg h, if_neg (by omega)]
        · by_cases h : j = t.other.toNat
          · rw [if_pos h, if_pos (by omega)]
          · rw [if_neg h, if_neg (by omega)]
      rw [en, ← List.append_assoc]
      exact w2
    · rintro σ' H1 ⟨y5, y6, y7, rfl, hA1, s1⟩
      rw [hlen, List.take_length] at hA1
      exact ⟨.ref L, rfl, q _ _ ⟨L, As, rfl, by rw [hl], hA1⟩ s1⟩
end
/-! ### the places that ties lead to -/
def sideI (b : Bool) : Int := if b then 1 else 0
def kvOf (ks : List Nb) : List (Key × V) := ks.map fun p => (Sum.inl p.1, V.int (sideI p.2))
theorem kvOf_none {z : Int} : ∀ {ks : List Nb}, z ∉ ks.map (·.1) → valV (kvOf ks) (Sum.inl z) = none
  | [], _ => rfl
  | p :: ks, h => by
    rw [List.map_cons, List.mem_cons, not_or] at h
    have e := kvOf_none (ks := ks) h.2
    have h1 := h.1
    unfold kvOf at e ⊢
    rw [List.map_cons, valV_neg (fun z => h1 (Sum.inl.inj z).symm)]
    exact e
theorem kvOf_some {z : Int} {b : Bool} : ∀ {ks : List Nb}, (ks.map (·.1)).Nodup → (z, b) ∈ ks → valV (kvOf ks) (Sum.inl z) = some (.int (sideI b))
  | p :: ks, nd, h => by
    rw [List.map_cons, List.nodup_cons] at nd
    rcases List.mem_cons.mp h with e | e
    · subst e
      unfold kvOf
      rw [List.map_cons, valV_pos rfl]
    · have q := kvOf_some (ks := ks) nd.2 e
      have ne : p.1 ≠ z := fun y => nd.1 (by rw [y]; exact List.mem_map.mpr ⟨_, e, rfl⟩)
      unfold kvOf at q ⊢
      rw [List.map_cons, valV_neg (fun y => ne (Sum.inl.inj y))]
      exact q
theorem kvOf_put {ks : List Nb} {z : Int} {b : Bool} (h : z ∉ ks.map (·.1)) : putK (kvOf ks) (Sum.inl z) (.int (sideI b)) = kvOf (ks ++ [(z, b)]) := by
  unfold putK
  rw [if_neg]
  · unfold kvOf
    rw [List.map_append]
    rfl
  · intro g
    rw [List.any_eq_true] at g
    obtain ⟨kv, h1, h2⟩ := g
    unfold kvOf at h1
    rw [List.mem_map] at h1
    obtain ⟨p, hp, rfl⟩ := h1
    exact h (List.mem_map.mpr ⟨p, hp, Sum.inl.inj (of_decide_eq_true h2)⟩)
theorem kvOf_len (ks : List Nb) : (kvOf ks).length = ks.length := by unfold kvOf; rw [List.length_map]
theorem pigeon : ∀ (n : Nat) (xs : List Int), xs.Nodup → (∀ x ∈ xs, 0 ≤ x ∧ x < n) → xs.length ≤ n
  | 0, xs, _, h => by
    cases xs with
    | nil => simp
    | cons x r =>
      have := h x (by simp)
      omega
  | n + 1, xs, nd, h => by
    have q := pigeon n (xs.erase (n : Int)) (nd.erase _) fun x hx => by
      have h1 := h x (List.mem_of_mem_erase hx)
      have h2 : x ≠ n := (List.Nodup.mem_erase_iff nd).mp hx |>.1
      omega
    have l := List.length_erase (a := (n : Int)) (l := xs)
    split at l
    · omega
    · omega
structure SF (ts : List Tie) (s : Int) (ks : List Nb) (wl ex : List Int) : Prop where
  nd : (ks.map (·.1)).Nodup
  rp : ∀ p ∈ ks, RP ts s p.1 p.2
  st : s ∈ ks.map (·.1)
  sub : ∀ x ∈ wl, x ∈ ks.map (·.1)
  le : wl.length ≤ ks.length
  cl : ∀ x ∈ ks.map (·.1), x ∉ wl → x ∉ ex → ∀ y k, Adj ts x y k → y ∈ ks.map (·.1)
theorem SF.keys {ts : List Tie} {s : Int} {ks : List Nb} {wl ex : List Int} (h : SF ts s ks wl ex) {x : Int} (hx : x ∈ ks.map (·.1)) : ∃ b, (x, b) ∈ ks ∧ RP ts s x b := by
  obtain ⟨p, hp, rfl⟩ := List.mem_map.mp hx
  exact ⟨p.2, hp, h.rp p hp⟩
theorem SF.few {ts : List Tie} {n : Nat} {s : Int} {ks : List Nb} {wl ex : List Int} (h : SF ts s ks wl ex) (ok : ∀ t ∈ ts, TieOk n t) (hs : 0 ≤ s ∧ s < n) : ks.length ≤ n := by
  have q := pigeon n (ks.map (·.1)) h.nd fun x hx => by
    obtain ⟨b, _, hb⟩ := h.keys hx
    exact Rch.rng ok hs ⟨b, hb⟩
  rw [List.length_map] at q
  exact q
theorem SF.all {ts : List Tie} {s : Int} {ks : List Nb} (h : SF ts s ks [] []) (z : Int) : z ∈ ks.map (·.1) ↔ Rch ts s z := by
  constructor
  · intro hz
    obtain ⟨b, _, hb⟩ := h.keys hz
    exact ⟨b, hb⟩
  · intro hz
    exact hz.ind (fun x => x ∈ ks.map (·.1)) h.st fun x y k hx ad => h.cl x hx (by simp) (by simp) y k ad
theorem SF.pop {ts : List Tie} {s p : Int} {ks : List Nb} {wl : List Int} (h : SF ts s ks (wl ++ [p]) []) : SF ts s ks wl [p] :=
  ⟨h.nd, h.rp, h.st, fun x hx => h.sub x (List.mem_append_left _ hx), by have := h.le; rw [List.length_append] at this; omega, fun x hx h1 h2 => h.cl x hx (fun z => by
    rcases List.mem_append.mp z with z | z
    · exact h1 z
    · exact h2 z) (by simp)⟩
theorem SF.push {ts : List Tie} {s p y : Int} {b f : Bool} {ks : List Nb} {wl : List Int} (h : SF ts s ks wl [p]) (hp : RP ts s p b) (ad : Adj ts p y f) (hy : y ∉ ks.map (·.1)) : SF ts s (ks ++ [(y, b ^^ f)]) (wl ++ [y]) [p] := by
  have em : (ks ++ [(y, b ^^ f)]).map (·.1) = ks.map (·.1) ++ [y] := by rw [List.map_append]; rfl
  refine ⟨?_, fun q hq => ?_, ?_, fun x hx => ?_, ?_, fun x hx h1 h2 z k hz => ?_⟩
  · rw [em, List.nodup_append]
    refine ⟨h.nd, by simp, fun x hx z hz e => ?_⟩
    rw [List.mem_singleton] at hz
    subst hz
    subst e
    exact hy hx
  · rcases List.mem_append.mp hq with q1 | q1
    · exact h.rp q q1
    · rw [List.mem_singleton] at q1
      subst q1
      exact hp.step ad
  · rw [em]
    exact List.mem_append_left _ h.st
  · rw [em]
    rcases List.mem_append.mp hx with q1 | q1
    · exact List.mem_append_left _ (h.sub x q1)
    · exact List.mem_append_right _ q1
  · rw [List.length_append, List.length_append]
    have := h.le
    simp
    omega
  · rw [em] at hx ⊢
    rcases List.mem_append.mp hx with q1 | q1
    · exact List.mem_append_left _ (h.cl x q1 (fun q2 => h1 (List.mem_append_left _ q2)) h2 z k hz)
    · exact absurd (List.mem_append_right _ q1) h1
theorem SF.done {ts : List Tie} {s p : Int} {ks : List Nb} {wl : List Int} (h : SF ts s ks wl [p]) (hp : ∀ q ∈ nbs ts p, q.1 ∈ ks.map (·.1)) : SF ts s ks wl [] :=
  ⟨h.nd, h.rp, h.st, h.sub, h.le, fun x hx h1 _ y k ad => by
    by_cases e : x = p
    · subst e
      exact hp (y, k) (mem_nbs.mpr ad)
    · exact h.cl x hx h1 (fun z => e (List.mem_singleton.mp z)) y k ad⟩
theorem side_xor (b f : Bool) : (if decide (V.str (kindS f) = V.str "friend") = true then sideI b else 1 - sideI b) = sideI (b ^^ f) := by
  cases f
  · cases b <;> rfl
  · cases b <;> rfl
theorem room1 {k : Nat} {A : PySem.Around} (r : Room k A) : A.units + 1 < cLine := by have := r.un; omega
structure SidesOf (ts : List Tie) (s : Int) (ks : List Nb) : Prop where
  nd : (ks.map (·.1)).Nodup
  rp : ∀ p ∈ ks, RP ts s p.1 p.2
  all : ∀ z, z ∈ ks.map (·.1) ↔ Rch ts s z
def spSidesFrom : Sp := fun vs H Q _ => ∃ (v : V) (n : Int) (s : Int) (ts : List Tie), vs = [.int s, v] ∧ AroundAt H v n ts ∧ WebOk n ts ∧ 0 ≤ s ∧ s < n ∧
  ∀ d ks H', H d = none → H' d = some (.dK (kvOf ks)) → Same H H' → SidesOf ts s ks → Q (.ref d) H'
section
variable {P : Program} {w : World} {K : PySem.W.Frag} {mg : Str → Option Value} {base : Heap}
theorem ok_sides_from {f : Addr} {fd : FuncData} (F : Fun K "sides_from" "sides_from" s_sides_from f fd) (M : Free mg) : FnOk P w K mg base CX0 1 f fd ["start", "around"] spSidesFrom := by
  refine F.ok sc_sides_from (fun vs H Q E h => ?_) (fun cdv A outer sh H vs Q E hr h => ?_)
  · obtain ⟨v, n, s, ts, rfl, _⟩ := h
    rfl
  · obtain ⟨v, n, s, ts, rfl, ⟨L, As, rfl, hl, hA⟩, ok, hs0, hs1, q⟩ := h
    have hu := room1 hr
    refine ⟨_, (pss_cons (ps_set (i := 2) sc_sides_from.nd rfl (.inl rfl) (pe_disp (pps_cons (pv 0) pe_int pps_nil) (by rfl) (by rfl) (fun z => by cases z) (by decide)))
      (pss_cons (ps_set (i := 3) sc_sides_from.nd rfl (.inl rfl) (pe_lst (pa_cons (pv 0) pa_nil)))
      (pss_cons (ps_while PassesOwn.never (pt_truth (pv 3) (by intro _; rfl))
        (pss_cons (ps_set (i := 4) sc_sides_from.nd rfl (.inl rfl) (pe_bm0 PySem.F.plainAttrs_list PySem.F.slot_list_pop PySem.F.type_list_pop mt_pop (pv 3)))
        (pss_one (ps_for PassesOwn.never rfl (pi_list (pe_ix ix_list (pv 1) (pv 4) (fun _ _ => rfl))) (pg_tup rfl (pgs_cons (pg_name (i := 5) sc_sides_from.nd rfl (.inl rfl)) (pgs_cons (pg_name (i := 6) sc_sides_from.nd rfl (.inl rfl)) pgs_nil)))
          (pss_one (ps_if (pt_cmp (pc_dnotin hu (pv 5) (pv 2)))
            (Evl.pss_cut (ps_dput hu (pv 2) (pv 5) (pe_ifExp (pt_cmpR op_eq (pv 6) pe_str (nomark _)) (pe_dget hu (pv 2) (pv 4) (fun _ _ => rfl)) (pe_op op_sub pe_int (pe_dget hu (pv 2) (pv 4) (fun _ _ => rfl)))) rfl)
            (pss_one (ps_expr (pe_bm PySem.F.plainAttrs_list PySem.F.slot_list_append PySem.F.type_list_append mt_append (pv 3) (pa_cons (pv 5) pa_nil)))))
            pss_nil))))))
      (pss_one (ps_ret (pv 2)))))), ?_⟩
    obtain ⟨k, rfl⟩ : ∃ k : Nat, n = k := ⟨n.toNat, by have := ok.lo; omega⟩
    have hk : k ≤ 40 := by have := ok.hi; omega
    have hts := ok.few
    -- sides
    refine fun d nd => ⟨.int s, rfl, upd_same, [(Sum.inl s, .int 0)], rfl, (by show 1 ≤ 15; decide), ?_⟩
    have eH : upd (upd H d (.dK [])) d (.dK (mergeK [] [(Sum.inl s, .int 0)])) = upd H d (.dK (kvOf [(s, false)])) := by
      funext b
      by_cases hb : b = d
      · subst hb
        rw [upd_same, upd_same]
        rfl
      · rw [upd_ne hb, upd_ne hb, upd_ne hb]
    rw [eH]
    -- waiting
    refine ⟨.int s, rfl, by show 1 ≤ sizeLine; decide, fun W nW => ?_⟩
    have hdW : W ≠ d := (ne_of_none upd_same nW).symm
    have nWH : H W = none := by rw [upd_ne hdW] at nW; exact nW
    refine ⟨fun m σ' H' => ∃ (y4 y5 y6 : Option V) (ks : List Nb) (wl : List Int), σ' = [some (.int s), some (.ref L), some (.ref d), some (.ref W), y4, y5, y6] ∧ H' d = some (.dK (kvOf ks)) ∧ H' W = some (.lst (wl.map V.int)) ∧ Same H H' ∧ SF ts s ks wl [] ∧ m = 2 * (k - ks.length) + wl.length, ⟨_, none, none, none, [(s, false)], [s], rfl, ?_, upd_same, Same.mut (same_new nd) nWH, ?_, rfl⟩, ?_⟩
    · rw [upd_ne (Ne.symm hdW)]
      exact upd_same
    · exact ⟨by simp, fun p hp => by rw [List.mem_singleton.mp hp]; exact .nil, by simp, fun x hx => hx, Nat.le_refl _, fun x hx h1 => absurd hx h1⟩
    · rintro m σ' H1 ⟨y4, y5, y6, ks, wl, rfl, hd, hW, s1, sf, hm⟩
      refine ⟨.ref W, rfl, _, .inl ⟨_, SqL.of hW, rfl⟩, ?_⟩
      refine ite2 (fun hb => ?_) (fun hb => ?_)
      · -- a place
        cases hwl : wl with
        | nil => rw [hwl] at hb; cases hb
        | cons z zs =>
        obtain ⟨ys, p, e⟩ : ∃ (ys : List Int) (p : Int), z :: zs = ys ++ [p] := ⟨(z :: zs).dropLast, (z :: zs).getLast (by simp), (List.dropLast_concat_getLast (by simp)).symm⟩
        rw [hwl, e] at hW sf hm
        have hpk := sf.sub p (by simp)
        obtain ⟨b, hb1, hb2⟩ := sf.keys hpk
        have hpr := Rch.rng ok.ok ⟨hs0, hs1⟩ ⟨b, hb2⟩
        have sp := sf.pop
        have e3 : ((ys ++ [p]).map V.int).dropLast = ys.map V.int := by simp
        refine ⟨fun σ' H' => ∃ m', m' < m ∧ ∃ (y4 y5 y6 : Option V) (ks : List Nb) (wl : List Int), σ' = [some (.int s), some (.ref L), some (.ref d), some (.ref W), y4, y5, y6] ∧ H' d = some (.dK (kvOf ks)) ∧ H' W = some (.lst (wl.map V.int)) ∧ Same H H' ∧ SF ts s ks wl [] ∧ m' = 2 * (k - ks.length) + wl.length, fun _ _ h => h, ?_⟩
        refine ⟨.ref W, rfl, .inl ⟨rfl, _, SqL.of hW⟩, W, _, .int p, rfl, rfl, hW, by simp, ?_⟩
        rw [e3]
        have hd2 : (upd H1 W (.lst (ys.map V.int))) d = some (.dK (kvOf ks)) := by rw [upd_ne (Ne.symm hdW)]; exact hd
        have hW2 : (upd H1 W (.lst (ys.map V.int))) W = some (.lst (ys.map V.int)) := upd_same
        have s2 : Same H (upd H1 W (.lst (ys.map V.int))) := Same.mut s1 nWH
        generalize upd H1 W (.lst (ys.map V.int)) = H2 at hd2 hW2 s2
        have A2 := hA.same s2
        obtain ⟨x, ex, ex'⟩ := getI (xs := As) hpr.1 (by omega)
        obtain ⟨us, g, pr⟩ := A2.each _ _ ex'
        have epk : ((p.toNat : Nat) : Int) = p := by omega
        rw [epk] at pr
        refine ⟨.ref L, rfl, .int p, rfl, L, _, p, .ref x, rfl, rfl, SqL.of A2.at', atI_of hpr.1 (by rw [List.getElem?_map, ex']; rfl), x, rfl, ⟨_, SqL.of g⟩, ?_⟩
        have gH : H x = some (.lst us) := by
          obtain ⟨us', g', _⟩ := hA.each _ _ ex'
          rw [s2 _ _ g'] at g
          cases g
          exact g'
        refine for_list (xs := us) (fun i σ' H' => ∃ (y5 y6 : Option V) (ks : List Nb) (wl : List Int), σ' = [some (.int s), some (.ref L), some (.ref d), some (.ref W), some (.int p), y5, y6] ∧ H' d = some (.dK (kvOf ks)) ∧ H' W = some (.lst (wl.map V.int)) ∧ Same H H' ∧ SF ts s ks wl [p] ∧ (p, b) ∈ ks ∧ (∀ q ∈ (nbs ts p).take i, q.1 ∈ ks.map (·.1)) ∧ 2 * (k - ks.length) + wl.length < m) ?_ ?_ ?_ ?_
        · exact ⟨y5, y6, ks, ys, rfl, hd2, hW2, s2, sp, hb1, fun q hq => by simp at hq, by rw [hm, List.length_append]; simp⟩
        · rintro i σ' H' _ ⟨y5, y6, ks, wl, rfl, _, _, s3, _⟩
          exact SqL.of (s3 _ _ gH)
        · rintro i u σ' H3 eu ⟨y5, y6, ks, wl, rfl, hd3, hW3, s3, sf3, hb3, hdn, hlt⟩
          have A3 := hA.same s3
          obtain ⟨us', g', pr'⟩ := A3.each _ _ ex'
          rw [s3 _ _ gH] at g'
          cases g'
          rw [epk] at pr'
          obtain ⟨⟨y, fo⟩, ey, c, rfl, hc⟩ := Paired.at pr' eu
          have ady := mem_nbs.mp (List.mem_of_getElem? ey)
          have few := sf3.few ok.ok ⟨hs0, hs1⟩
          have etk : (nbs ts p).take (i + 1) = (nbs ts p).take i ++ [(y, fo)] := by
            rw [List.take_add_one, ey]
            rfl
          refine ⟨c, _, rfl, SqT.of hc, rfl, _, _, rfl, _, _, rfl, rfl, ?_⟩
          refine ⟨.int y, rfl, .ref d, rfl, d, _, rfl, DGet.k (k := Sum.inl y) hd3, _, rfl, ?_⟩
          by_cases hy : y ∈ ks.map (·.1)
          · obtain ⟨yb, yb1, _⟩ := sf3.keys hy
            rw [kvOf_some sf3.nd yb1]
            refine ⟨_, _, ks, wl, rfl, hd3, hW3, s3, sf3, hb3, fun q hq => ?_, hlt⟩
            rw [etk] at hq
            rcases List.mem_append.mp hq with h | h
            · exact hdn q h
            · rw [List.mem_singleton.mp h]
              exact hy
          · rw [kvOf_none hy]
            have sfp := sf3.push (sf3.rp _ hb3) ady hy
            have few2 := sfp.few ok.ok ⟨hs0, hs1⟩
            have lks : (kvOf ks).length < sizeLine := by rw [kvOf_len]; exact small1000 (by omega)
            have vp := kvOf_some sf3.nd hb3
            have ep := kvOf_put (b := b ^^ fo) hy
            refine ⟨fun σ' H' => σ' = [some (.int s), some (.ref L), some (.ref d), some (.ref W), some (.int p), some (.int y), some (.str (kindS fo))] ∧ H' = upd H3 d (.dK (kvOf (ks ++ [(y, b ^^ fo)]))), ?_, ?_⟩
            · refine ⟨.str (kindS fo), rfl, rfl, _, rfl, ?_⟩
              rw [← ep]
              cases fo
              · refine ⟨.ref d, rfl, .int p, rfl, d, _, rfl, (by rw [← vp]; exact DGet.k (k := Sum.inl p) hd3), .ref d, rfl, .int y, rfl, d, _, rfl, DPut.k (k := Sum.inl y) hd3 lks, rfl, ?_⟩
                rw [Bool.xor_false]
              · refine ⟨.ref d, rfl, .int p, rfl, d, _, rfl, (by rw [← vp]; exact DGet.k (k := Sum.inl p) hd3), 1, sideI b, rfl, rfl, .ref d, rfl, .int y, rfl, d, _, rfl, DPut.k (k := Sum.inl y) hd3 lks, rfl, ?_⟩
                cases b <;> rfl
            · rintro σ' H4 ⟨rfl, rfl⟩
              have hW4 : (upd H3 d (.dK (kvOf (ks ++ [(y, b ^^ fo)])))) W = some (.lst (wl.map V.int)) := by rw [upd_ne hdW]; exact hW3
              have lw := sf3.le
              refine ⟨.ref W, rfl, .inl ⟨rfl, _, SqL.of hW4⟩, .int y, rfl, W, _, _, rfl, rfl, hW4, by rw [List.length_map]; exact small1000 (by omega), ?_⟩
              refine ⟨_, _, ks ++ [(y, b ^^ fo)], wl ++ [y], rfl, ?_, by rw [upd_same, List.map_append]; rfl, Same.mut (Same.mut s3 nd) nWH, sfp, List.mem_append_left _ hb3, fun q hq => ?_, ?_⟩
              · rw [upd_ne (Ne.symm hdW)]
                exact upd_same
              · rw [List.map_append]
                rw [etk] at hq
                rcases List.mem_append.mp hq with h | h
                · exact List.mem_append_left _ (hdn q h)
                · rw [List.mem_singleton.mp h]
                  exact List.mem_append_right _ (by simp)
              · rw [List.length_append] at few2 ⊢
                rw [List.length_append]
                simp only [List.length_cons, List.length_nil] at few2 ⊢
                omega
        · rintro σ' H3 ⟨y5, y6, ks, wl, rfl, hd3, hW3, s3, sf3, hb3, hdn, hlt⟩
          rw [Paired.length pr, List.take_length] at hdn
          exact ⟨_, hlt, _, _, _, ks, wl, rfl, hd3, hW3, s3, sf3.done hdn, rfl⟩
      · -- none is left
        have hwl : wl = [] := by
          cases wl with
          | nil => rfl
          | cons z zs => exact absurd rfl hb
        subst hwl
        exact ⟨.ref d, rfl, q d ks H1 nd hd s1 ⟨sf.nd, sf.rp, sf.all⟩⟩
end
/-! ### the parts -/
theorem mem_putK {k z : Key} {v : V} {kvs : List (Key × V)} : z ∈ (putK kvs k v).map (·.1) ↔ z ∈ kvs.map (·.1) ∨ z = k := by
  unfold putK
  split
  · rename_i h
    rw [List.any_eq_true] at h
    obtain ⟨kv, h1, h2⟩ := h
    have h3 := of_decide_eq_true h2
    rw [List.map_map]
    have e : (Prod.fst ∘ fun kv : Key × V => if kv.1 = k then (kv.1, v) else kv) = Prod.fst := by
      funext p
      show (if p.1 = k then (p.1, v) else p).1 = p.1
      split <;> rfl
    rw [show ((fun x : Key × V => x.1) ∘ fun kv : Key × V => if kv.1 = k then (kv.1, v) else kv) = Prod.fst from e]
    constructor
    · exact .inl
    · rintro (h | h)
      · exact h
      · rw [h, ← h3]
        exact List.mem_map.mpr ⟨kv, h1, rfl⟩
  · rw [List.map_append, List.mem_append]
    simp
theorem mem_mergeK {z : Key} : ∀ {more kvs : List (Key × V)}, z ∈ (mergeK kvs more).map (·.1) ↔ z ∈ kvs.map (·.1) ∨ z ∈ more.map (·.1)
  | [], kvs => by
    show z ∈ kvs.map (·.1) ↔ _
    simp
  | p :: r, kvs => by
    have q := mem_mergeK (z := z) (more := r) (kvs := putK kvs p.1 p.2)
    rw [mem_putK] at q
    show z ∈ (mergeK (putK kvs p.1 p.2) r).map (·.1) ↔ _
    rw [q, List.map_cons, List.mem_cons, or_assoc]
theorem valV_isSome {k : Key} : ∀ {kvs : List (Key × V)}, (valV kvs k).isSome = true ↔ k ∈ kvs.map (·.1)
  | [] => by simp [valV_nil]
  | p :: r => by
    by_cases h : p.1 = k
    · rw [valV_pos h, List.map_cons, List.mem_cons]
      simp [h]
    · rw [valV_neg h, List.map_cons, List.mem_cons, valV_isSome]
      constructor
      · exact .inr
      · rintro (e | e)
        · exact absurd e.symm h
        · exact e
theorem kvOf_keys (ks : List Nb) : (kvOf ks).map (·.1) = (ks.map (·.1)).map Sum.inl := by
  unfold kvOf
  rw [List.map_map, List.map_map]
  rfl
theorem lead_iff {ts : List Tie} {n : Nat} (ok : ∀ t ∈ ts, TieOk n t) {i : Int} (h0 : 0 ≤ i ∧ i < n) : leader ts i ↔ ¬ ∃ x, 0 ≤ x ∧ x < i ∧ Rch ts x i := by
  constructor
  · rintro h ⟨x, h1, h2, h3⟩
    have := h x h3.symm
    omega
  · intro h q hq
    rcases Int.lt_or_le q i with l | l
    · exact absurd ⟨q, (hq.rng ok h0).1, l, hq.symm⟩ h
    · exact l
def PartsAt (H : Hp) (v : V) (ps : List (List Int)) : Prop := ∃ a bs, v = .ref a ∧ H a = some (.tup bs) ∧ Paired (IntsV H) bs ps
theorem parts_tk {H H' : Hp} (k : Tk H H') {bs : List V} {ps : List (List Int)} (h : Paired (IntsV H) bs ps) : Paired (IntsV H') bs ps := Paired.mono (fun _ _ x => x.tk k) h
theorem partsTo_len (ts : List Tie) (n i : Nat) : (partsTo ts n i).length ≤ i := by
  induction i with
  | zero => simp [partsTo, rng]
  | succ i ih =>
    rw [partsTo_succ, List.length_append]
    split
    · simp
      omega
    · simp
      omega
def spPartsOf : Sp := fun vs H Q _ => ∃ (v : V) (n : Nat) (ts : List Tie), vs = [v] ∧ WebAt H v n ts ∧ WebOk n ts ∧
  ∀ v' H', Same H H' → PartsAt H' v' (partsTo ts n n) → Q v' H'
section
variable {P : Program} {w : World} {K : PySem.W.Frag} {mg : Str → Option Value} {base : Heap}
theorem ok_parts_of {f : Addr} {fd : FuncData} (F : Fun K "parts_of" "parts_of" s_parts_of f fd) (M : Free mg) (ms : mg "sorted" = none) (D1 : Df P w K mg base 1 "neighbours" ["web"] spNeighbours) (D2 : Df P w K mg base 1 "sides_from" ["start", "around"] spSidesFrom) : FnOk P w K mg base CX0 2 f fd ["web"] spPartsOf := by
  obtain ⟨f1, fd1, G1, g1, k1, b1⟩ := D1
  obtain ⟨f2, fd2, G2, g2, k2, b2⟩ := D2
  refine F.ok sc_parts_of (fun vs H Q E h => ?_) (fun cdv A outer sh H vs Q E hr h => ?_)
  · obtain ⟨v, n, ts, rfl, _⟩ := h
    rfl
  · obtain ⟨v, n, ts, rfl, hw, ok, q⟩ := h
    have hu := room1 hr
    have hk : n ≤ 40 := by have := ok.hi; omega
    refine ⟨_, (pss_cons (ps_set (i := 1) sc_parts_of.nd rfl (.inl rfl) (pe_call G1 hr (by rfl) g1 k1 b1 .nil pass0 (pa_cons (pv 0) pa_nil)))
      (pss_cons (ps_set (i := 2) sc_parts_of.nd rfl (.inl rfl) (pe_lst pa_nil))
      (pss_cons (ps_set (i := 3) sc_parts_of.nd rfl (.inl rfl) pe_dnewK)
      (pss_cons (ps_for PassesOwn.never rfl (pi_range1 (by rfl) M.range (pa_cons (pe_ix ix_tup (pv 0) pe_int (fun _ _ => rfl)) pa_nil)) (pg_name (i := 4) sc_parts_of.nd rfl (.inl rfl))
        (pss_one (ps_if (pt_cmp (pc_dnotin hu (pv 4) (pv 3)))
          (pss_cons (ps_set (i := 5) sc_parts_of.nd rfl (.inl rfl) (pe_call G2 hr (by rfl) g2 k2 b2 .nil pass0 (pa_cons (pv 4) (pa_cons (pv 1) pa_nil))))
          (pss_cons (ps_expr (pe_bm PySem.F.plainAttrs_dict PySem.F.slot_dict_update PySem.F.type_dict_update mt_update (pv 3) (pa_cons (pv 5) pa_nil)))
          (pss_one (ps_expr (pe_bm PySem.F.plainAttrs_list PySem.F.slot_list_append PySem.F.type_list_append mt_append (pv 2) (pa_cons (pe_callTy call_tuple_of (by rfl) M.tuple (by decide +kernel) (pa_cons (pe_callB (call_sortedDI rfl) (by rfl) ms (by decide +kernel) (pa_cons (pv 5) pa_nil)) pa_nil)) pa_nil))))))
          pss_nil)))
      (pss_one (ps_ret (pe_callTy call_tuple_of (by rfl) M.tuple (by decide +kernel) (pa_cons (pv 2) pa_nil)))))))), ?_⟩
    -- around
    refine ⟨v, rfl, v, n, ts, rfl, hw, ok, fun u H1 hA s1 => ?_⟩
    -- parts, placed
    refine ⟨Nat.zero_le _, fun L nL pD nD => ?_⟩
    have hLD : pD ≠ L := (ne_of_none upd_same nD).symm
    have nDH1 : H1 pD = none := by rw [upd_ne hLD] at nD; exact nD
    have nLH : H L = none := s1.free nL
    have nDH : H pD = none := s1.free nDH1
    have sA : Same H1 (upd (upd H1 L (.lst [])) pD (.dK [])) := (same_new nL).trans (same_new nD)
    obtain ⟨a, b, vs, rfl, ha, hb, hp⟩ := hw
    refine ⟨.ref a, rfl, a, _, 0, .int n, rfl, rfl, SqT.of (sA _ _ (s1 _ _ ha)), rfl, n, rfl, by omega, by omega, ?_⟩
    rw [Int.toNat_natCast]
    refine for_range (lo := 0) (n := n) (fun i σ' H' => ∃ (y4 y5 : Option V) (kvs : List (Key × V)) (bs : List V), σ' = [some (.ref a), some u, some (.ref L), some (.ref pD), y4, y5] ∧ H' L = some (.lst bs) ∧ Paired (IntsV H') bs (partsTo ts n i) ∧ H' pD = some (.dK kvs) ∧ kvs.length ≤ 40 * i ∧
      (∀ z, z ∈ kvs.map (·.1) ↔ ∃ y, z = Sum.inl y ∧ ∃ x, 0 ≤ x ∧ x < (i : Int) ∧ Rch ts x y) ∧ Same H1 H') ?_ ?_ ?_
    · refine ⟨none, none, [], [], rfl, by rw [upd_ne (Ne.symm hLD)]; exact upd_same, ?_, upd_same, by simp, fun z => ?_, sA⟩
      · have e0 : partsTo ts n 0 = [] := by simp [partsTo, rng]
        rw [e0]
        exact .nil
      · constructor
        · intro h
          simp at h
        · rintro ⟨y, _, x, h1, h2, _⟩
          omega
    · rintro i σ' H2 hi ⟨y4, y5, kvs, bs, rfl, hL, hP, hD, hlen, hkeys, s2⟩
      rw [show (0 : Int) + (i : Nat) = i from by omega]
      have hir : 0 ≤ (i : Int) ∧ (i : Int) < n := by omega
      have lbs : bs.length ≤ i := by rw [Paired.length hP]; exact partsTo_len ts n i
      refine ⟨.int i, rfl, .ref pD, rfl, pD, _, rfl, DGet.k (k := Sum.inl (i : Int)) hD, _, rfl, ?_⟩
      have nx : ∀ y : Int, (∃ x, 0 ≤ x ∧ x < ((i + 1 : Nat) : Int) ∧ Rch ts x y) ↔ (∃ x, 0 ≤ x ∧ x < (i : Int) ∧ Rch ts x y) ∨ Rch ts i y := fun y => by
        constructor
        · rintro ⟨x, h1, h2, h3⟩
          by_cases e : x = i
          · subst e
            exact .inr h3
          · exact .inl ⟨x, h1, by omega, h3⟩
        · rintro (⟨x, h1, h2, h3⟩ | h)
          · exact ⟨x, h1, by omega, h3⟩
          · exact ⟨i, by omega, by omega, h⟩
      by_cases hin : (valV kvs (Sum.inl (i : Int))).isSome = true
      · rw [hin]
        obtain ⟨y, e, x, h1, h2, h3⟩ := (hkeys _).mp (valV_isSome.mp hin)
        cases e
        have nl : ¬ leader ts (i : Int) := fun z => (lead_iff ok.ok hir).mp z ⟨x, h1, h2, h3⟩
        refine ⟨_, _, kvs, bs, rfl, hL, ?_, hD, by omega, fun z => ?_, s2⟩
        · rw [partsTo_succ, if_neg nl, List.append_nil]
          exact hP
        · rw [hkeys]
          constructor
          · rintro ⟨y, e, h⟩
            exact ⟨y, e, (nx y).mpr (.inl h)⟩
          · rintro ⟨y, e, h⟩
            refine ⟨y, e, ?_⟩
            rcases (nx y).mp h with h | h
            · exact h
            · exact ⟨x, h1, h2, h3.trans h⟩
      · rw [Bool.not_eq_true] at hin
        rw [hin]
        have ld : leader ts (i : Int) := (lead_iff ok.ok hir).mpr fun ⟨x, h1, h2, h3⟩ => by
          have := valV_isSome.mpr ((hkeys (Sum.inl (i : Int))).mpr ⟨_, rfl, x, h1, h2, h3⟩)
          rw [hin] at this
          cases this
        refine ⟨.int i, rfl, u, rfl, u, n, i, ts, rfl, hA.same s2, ok, hir.1, hir.2, fun d ks H3 nd hd s3 so => ?_⟩
        have lks : ks.length ≤ n := by
          have q := pigeon n (ks.map (·.1)) so.nd fun x hx => Rch.rng ok.ok hir ((so.all x).mp hx)
          rw [List.length_map] at q
          exact q
        have hpd : pD ≠ d := ne_of_none hD nd
        have hLd : L ≠ d := ne_of_none hL nd
        -- update
        refine ⟨.ref pD, rfl, .inr (.inr (.inl ⟨rfl, .inl ⟨_, s3 _ _ hD⟩⟩)), .ref d, rfl, pD, d, kvs, kvOf ks, rfl, rfl, s3 _ _ hD, hd, hpd, (by rw [kvOf_len, sizeLine_eq]; omega), ?_⟩
        have hL4 : (upd H3 pD (.dK (mergeK kvs (kvOf ks)))) L = some (.lst bs) := by rw [upd_ne (Ne.symm hLD)]; exact s3 _ _ hL
        have hd4 : (upd H3 pD (.dK (mergeK kvs (kvOf ks)))) d = some (.dK (kvOf ks)) := by rw [upd_ne (Ne.symm hpd)]; exact hd
        have hD4 : (upd H3 pD (.dK (mergeK kvs (kvOf ks)))) pD = some (.dK (mergeK kvs (kvOf ks))) := upd_same
        have s4 : Same H1 (upd H3 pD (.dK (mergeK kvs (kvOf ks)))) := Same.mut (s2.trans s3) nDH1
        have t4 : Tk H2 (upd H3 pD (.dK (mergeK kvs (kvOf ks)))) := fun c xs e => by
          rw [upd_ne (ne_of e hD (by intro z; cases z))]
          exact s3 _ _ e
        generalize upd H3 pD (.dK (mergeK kvs (kvOf ks))) = H4 at hL4 hd4 hD4 s4 t4
        -- append
        refine ⟨.ref L, rfl, .inl ⟨rfl, _, SqL.of hL4⟩, .ref d, rfl, d, _, ks.map (·.1), rfl, Rd.of hd4, kvOf_keys ks, by rw [List.length_map]; omega, fun ys p hperm hle np => ?_⟩
        have ey : ys = partOf ts n i := by
          refine rising_ext ?_ (part_rising ts n i) fun z => ?_
          · have nd2 : ys.Nodup := hperm.nodup_iff.mpr so.nd
            exact (hle.and nd2).imp fun {x y} h => by omega
          · rw [hperm.mem_iff, so.all, mem_part]
            exact ⟨fun h => ⟨h.rng ok.ok hir, h⟩, fun h => h.2⟩
        refine ⟨p, _, rfl, .inl ⟨SqL.of upd_same, fun t nt => ?_⟩⟩
        have s6 := (same_new (o := .lst (ys.map V.int)) np).trans (same_new (o := .tup (ys.map V.int)) nt)
        have hL6 := s6 _ _ hL4
        refine ⟨L, bs, _, rfl, rfl, hL6, small1000 (by omega), ?_⟩
        have t6 : Tk H2 (upd (upd (upd H4 p (.lst (ys.map V.int))) t (.tup (ys.map V.int))) L (.lst (bs ++ [.ref t]))) := (t4.trans (Same.tk s6)).trans (tk_lst hL6)
        refine ⟨_, _, mergeK kvs (kvOf ks), bs ++ [.ref t], rfl, upd_same, ?_, ?_, ?_, fun z => ?_, Same.mut (s4.trans s6) nL⟩
        · rw [partsTo_succ, if_pos ld]
          refine Paired.snoc (parts_tk t6 hP) ⟨t, rfl, ?_⟩
          rw [← ey]
          exact tk_lst hL6 _ _ upd_same
        · rw [upd_ne hLD]
          exact s6 _ _ hD4
        · have := length_mergeK (kvOf ks) kvs
          rw [kvOf_len] at this
          omega
        · rw [mem_mergeK, hkeys, kvOf_keys]
          constructor
          · rintro (⟨y, e, h⟩ | h)
            · exact ⟨y, e, (nx y).mpr (.inl h)⟩
            · obtain ⟨y, hy, rfl⟩ := List.mem_map.mp h
              exact ⟨y, rfl, (nx y).mpr (.inr ((so.all y).mp hy))⟩
          · rintro ⟨y, rfl, h⟩
            rcases (nx y).mp h with h | h
            · exact .inl ⟨y, rfl, h⟩
            · exact .inr (List.mem_map.mpr ⟨y, (so.all y).mpr h, rfl⟩)
    · rintro σ' H2 ⟨y4, y5, kvs, bs, rfl, hL, hP, hD, hlen, hkeys, s2⟩
      refine ⟨.ref L, rfl, L, bs, rfl, .inl ⟨SqL.of hL, fun t nt => ?_⟩⟩
      exact q _ _ ((s1.trans s2).trans (same_new nt)) ⟨t, bs, rfl, upd_same, parts_tk (Same.tk (same_new nt)) hP⟩
end
theorem rgV_ints (n : Nat) : rgV 0 n = (rng n).map V.int := by
  unfold rgV rng
  rw [List.map_map, show ((n : Int) - 0).toNat = n from by omega]
  refine List.map_congr_left fun i _ => ?_
  show V.int (0 + (i : Int)) = V.int i
  rw [Int.zero_add]
/-! ### the law: the least place that each comes to -/
def lf (f : Int → Int) (n : Nat) : List V := (rng n).map fun i => V.int (f i)
theorem lf_len (f : Int → Int) (n : Nat) : (lf f n).length = n := by unfold lf; rw [List.length_map, rng_length]
theorem lf_get? (f : Int → Int) {n j : Nat} (h : j < n) : (lf f n)[j]? = some (.int (f j)) := by
  unfold lf rng
  rw [List.map_map, List.getElem?_map, List.getElem?_range h]
  rfl
theorem lf_at (f : Int → Int) {n : Nat} {i : Int} (h0 : 0 ≤ i) (h1 : i < n) : atI (lf f n) i = some (.int (f i)) := by
  have e : ((i.toNat : Nat) : Int) = i := by omega
  refine atI_of h0 ?_
  rw [lf_get? f (by omega), e]
theorem lf_set (f : Int → Int) {n : Nat} {i y : Int} (h0 : 0 ≤ i) (h1 : i < n) : (lf f n).set i.toNat (.int y) = lf (fun x => if x = i then y else f x) n := by
  refine List.ext_getElem? fun j => ?_
  rw [List.getElem?_set]
  by_cases hj : j < n
  · by_cases e : i.toNat = j
    · rw [if_pos e, if_pos (by rw [lf_len]; omega), lf_get? _ hj, if_pos (by omega)]
    · rw [if_neg e, lf_get? _ hj, lf_get? _ hj, if_neg (by omega)]
  · have e : i.toNat ≠ j := by omega
    rw [if_neg e, List.getElem?_eq_none (by rw [lf_len]; omega), List.getElem?_eq_none (by rw [lf_len]; omega)]
theorem ixN_of {n : Nat} {i : Int} (h0 : 0 ≤ i) (h1 : i < n) : ixN n i = some i.toNat := by
  unfold ixN
  rw [if_pos (by omega), if_pos (by omega)]
/-! ### stems (mathematics) -/
theorem Rch.mono {ts ts' : List Tie} (h : ∀ t ∈ ts, t ∈ ts') {a b : Int} (r : Rch ts a b) : Rch ts' a b :=
  r.ind (fun x => Rch ts' a x) .refl fun x y k hx ad => by
    obtain ⟨t, ht, e⟩ := ad
    exact hx.trans (Rch.adj (k := k) ⟨t, h t ht, e⟩)
theorem rch_pq {ts : List Tie} {t : Tie} {p q : Int} (h : (p = t.one ∧ q = t.other) ∨ (p = t.other ∧ q = t.one)) : Rch (ts ++ [t]) p q := by
  refine Rch.adj (k := t.foe) ⟨t, List.mem_append_right _ (by simp), rfl, ?_⟩
  rcases h with ⟨h1, h2⟩ | ⟨h1, h2⟩
  · exact .inl ⟨h1.symm, h2.symm⟩
  · exact .inr ⟨h2.symm, h1.symm⟩
theorem rch_snoc {ts : List Tie} {t : Tie} {p q : Int} (h : (p = t.one ∧ q = t.other) ∨ (p = t.other ∧ q = t.one)) {a b : Int} : Rch (ts ++ [t]) a b ↔ Rch ts a b ∨ (Rch ts a p ∧ Rch ts q b) ∨ (Rch ts a q ∧ Rch ts p b) := by
  have up : ∀ {x y : Int}, Rch ts x y → Rch (ts ++ [t]) x y := fun r => r.mono fun t ht => List.mem_append_left _ ht
  constructor
  · intro r
    refine r.ind (fun x => Rch ts a x ∨ (Rch ts a p ∧ Rch ts q x) ∨ (Rch ts a q ∧ Rch ts p x)) (.inl .refl) fun x y k hx ad => ?_
    obtain ⟨t', ht, e1, e2⟩ := ad
    rcases List.mem_append.mp ht with ht | ht
    · have st : Rch ts x y := Rch.adj (k := k) ⟨t', ht, e1, e2⟩
      rcases hx with h1 | ⟨h1, h2⟩ | ⟨h1, h2⟩
      · exact .inl (h1.trans st)
      · exact .inr (.inl ⟨h1, h2.trans st⟩)
      · exact .inr (.inr ⟨h1, h2.trans st⟩)
    · rw [List.mem_singleton] at ht
      subst ht
      have xy : (x = p ∧ y = q) ∨ (x = q ∧ y = p) := by
        rcases e2 with ⟨e2, e3⟩ | ⟨e2, e3⟩ <;> rcases h with ⟨h1, h2⟩ | ⟨h1, h2⟩
        · exact .inl ⟨by omega, by omega⟩
        · exact .inr ⟨by omega, by omega⟩
        · exact .inr ⟨by omega, by omega⟩
        · exact .inl ⟨by omega, by omega⟩
      rcases xy with ⟨rfl, rfl⟩ | ⟨rfl, rfl⟩
      · rcases hx with h1 | ⟨h1, h2⟩ | ⟨h1, h2⟩
        · exact .inr (.inl ⟨h1, .refl⟩)
        · exact .inr (.inl ⟨h1, .refl⟩)
        · exact .inl h1
      · rcases hx with h1 | ⟨h1, h2⟩ | ⟨h1, h2⟩
        · exact .inr (.inr ⟨h1, .refl⟩)
        · exact .inl h1
        · exact .inr (.inr ⟨h1, .refl⟩)
  · rintro (h1 | ⟨h1, h2⟩ | ⟨h1, h2⟩)
    · exact up h1
    · exact (up h1).trans ((rch_pq h).trans (up h2))
    · exact (up h1).trans ((rch_pq h).symm.trans (up h2))
theorem rch_nil {a b : Int} (h : Rch [] a b) : a = b := h.ind (fun x => a = x) rfl fun x y k _ ad => by
  obtain ⟨t, ht, _⟩ := ad
  simp at ht
def tieN (ts : List Tie) (k : Nat) : Tie := ts.getD k ⟨0, 0, false⟩
theorem tieN_of {ts : List Tie} {k : Nat} {t : Tie} (h : ts[k]? = some t) : tieN ts k = t := by
  unfold tieN
  rw [List.getD_eq_getElem?_getD, h]
  rfl
open Classical in
noncomputable def stemB (ts : List Tie) (k : Nat) : Bool := decide (¬ Rch (ts.take k) (tieN ts k).one (tieN ts k).other)
noncomputable def stemsTo (ts : List Tie) (k : Nat) : List Int := (rng k).filter fun i => stemB ts i.toNat
theorem stemsTo_succ (ts : List Tie) (k : Nat) : stemsTo ts (k + 1) = stemsTo ts k ++ (if stemB ts k = true then [(k : Int)] else []) := by
  unfold stemsTo
  rw [rng_succ, List.filter_append, List.filter_cons, Int.toNat_natCast]
  rfl
theorem stemsTo_len (ts : List Tie) (k : Nat) : (stemsTo ts k).length ≤ k := by
  unfold stemsTo
  have := List.length_filter_le (fun i => stemB ts i.toNat) (rng k)
  rw [rng_length] at this
  exact this
open Classical in
theorem stem_iff {ts : List Tie} {k : Nat} {t : Tie} (h : ts[k]? = some t) : stemB ts k = true ↔ ¬ Rch (ts.take k) t.one t.other := by
  unfold stemB
  rw [tieN_of h]
  exact decide_eq_true_iff
theorem take_snoc {α : Type} {ts : List α} {k : Nat} {t : α} (h : ts[k]? = some t) : ts.take (k + 1) = ts.take k ++ [t] := by
  rw [List.take_add_one, h]
  rfl
/-- labels: alike just where ties lead -/
def Lab (ts : List Tie) (n : Nat) (g : Int → Int) : Prop := ∀ i j : Int, 0 ≤ i → i < n → 0 ≤ j → j < n → (g i = g j ↔ Rch ts i j)
def mrg (g : Int → Int) (old new : Int) : Int → Int := fun x => if g x = old then new else g x
theorem lab_nil (n : Nat) : Lab [] n (fun i => i) := fun i j _ _ _ _ => ⟨fun h => by rw [show i = j from h]; exact .refl, fun h => rch_nil h⟩
theorem lab_same {ts : List Tie} {n : Nat} {g : Int → Int} {t : Tie} (h : Lab ts n g) (ok : TieOk n t) (e : g t.one = g t.other) : Lab (ts ++ [t]) n g := fun i j i0 i1 j0 j1 => by
  obtain ⟨o1, o2, o3, o4, _⟩ := ok
  have r : Rch ts t.one t.other := (h _ _ o1 o2 o3 o4).mp e
  rw [rch_snoc (.inl ⟨rfl, rfl⟩), h i j i0 i1 j0 j1]
  constructor
  · exact .inl
  · rintro (h1 | ⟨h1, h2⟩ | ⟨h1, h2⟩)
    · exact h1
    · exact h1.trans (r.trans h2)
    · exact h1.trans (r.symm.trans h2)
theorem lab_step {ts : List Tie} {n : Nat} {g : Int → Int} {t : Tie} {p q : Int} (h : Lab ts n g) (ok : TieOk n t) (e : (p = t.one ∧ q = t.other) ∨ (p = t.other ∧ q = t.one)) : Lab (ts ++ [t]) n (mrg g (g p) (g q)) := fun i j i0 i1 j0 j1 => by
  have pr : (0 ≤ p ∧ p < n) ∧ (0 ≤ q ∧ q < n) := by
    obtain ⟨o1, o2, o3, o4, _⟩ := ok
    rcases e with ⟨rfl, rfl⟩ | ⟨rfl, rfl⟩
    · exact ⟨⟨o1, o2⟩, o3, o4⟩
    · exact ⟨⟨o3, o4⟩, o1, o2⟩
  obtain ⟨⟨p0, p1⟩, q0, q1⟩ := pr
  rw [rch_snoc e]
  unfold mrg
  have ip := h i p i0 i1 p0 p1
  have jp := h j p j0 j1 p0 p1
  have iq := h i q i0 i1 q0 q1
  have jq := h j q j0 j1 q0 q1
  have ij := h i j i0 i1 j0 j1
  by_cases hi : g i = g p <;> by_cases hj : g j = g p
  · rw [if_pos hi, if_pos hj]
    exact ⟨fun _ => .inl (ij.mp (hi.trans hj.symm)), fun _ => rfl⟩
  · rw [if_pos hi, if_neg hj]
    constructor
    · intro z
      exact .inr (.inl ⟨ip.mp hi, (jq.mp z.symm).symm⟩)
    · rintro (z | ⟨_, z⟩ | ⟨_, z⟩)
      · exact absurd ((ij.mpr z).symm.trans hi) hj
      · exact (jq.mpr z.symm).symm
      · exact absurd (jp.mpr z.symm) hj
  · rw [if_neg hi, if_pos hj]
    constructor
    · intro z
      exact .inr (.inr ⟨iq.mp z, (jp.mp hj).symm⟩)
    · rintro (z | ⟨z, _⟩ | ⟨z, _⟩)
      · exact absurd ((ij.mpr z).trans hj) hi
      · exact absurd (ip.mpr z) hi
      · exact iq.mpr z
  · rw [if_neg hi, if_neg hj]
    constructor
    · intro z
      exact .inl (ij.mp z)
    · rintro (z | ⟨z, _⟩ | ⟨_, z⟩)
      · exact ij.mpr z
      · exact absurd (ip.mpr z) hi
      · exact absurd (jp.mpr z.symm) hj
/-- heads: labels that are places of their own; how many -/
structure Heads (ts : List Tie) (n i : Nat) (g : Int → Int) : Prop where
  lab : Lab (ts.take i) n g
  rng : ∀ x : Int, 0 ≤ x → x < n → 0 ≤ g x ∧ g x < n
  idem : ∀ x : Int, 0 ≤ x → x < n → g (g x) = g x
  cnt : ((FF.rng n).filter fun x => decide (g x = x)).length + (stemsTo ts i).length = n
theorem heads_nil (ts : List Tie) (n : Nat) : Heads ts n 0 (fun i => i) := by
  refine ⟨by rw [List.take_zero]; exact lab_nil n, fun x h0 h1 => ⟨h0, h1⟩, fun x _ _ => rfl, ?_⟩
  have e : ((FF.rng n).filter fun x => decide (x = x)) = FF.rng n := by
    rw [List.filter_eq_self]
    intro x _
    exact decide_eq_true rfl
  show ((FF.rng n).filter fun x => decide (x = x)).length + 0 = n
  rw [e, rng_length, Nat.add_zero]
theorem filter_drop {p q : Int → Bool} {h : Int} : ∀ {l : List Int}, l.Nodup → h ∈ l → p h = true → (∀ x ∈ l, q x = (p x && decide (x ≠ h))) → (l.filter q).length + 1 = (l.filter p).length
  | x :: l, nd, hm, hp, hq => by
    rw [List.nodup_cons] at nd
    have hx := hq x (by simp)
    rw [List.filter_cons, List.filter_cons, hx]
    by_cases e : x = h
    · subst e
      have same : l.filter q = l.filter p := List.filter_congr fun y hy => by
        rw [hq y (List.mem_cons_of_mem _ hy), decide_eq_true (show y ≠ x from fun z => nd.1 (by rw [← z]; exact hy)), Bool.and_true]
      rw [same, hp]
      simp
    · have hm' : h ∈ l := (List.mem_cons.mp hm).elim (fun z => absurd z.symm e) id
      have ih := filter_drop (l := l) nd.2 hm' hp fun y hy => hq y (List.mem_cons_of_mem _ hy)
      rw [decide_eq_true (show x ≠ h from e), Bool.and_true]
      cases p x
      · simpa using ih
      · simp
        omega
theorem heads_same {ts : List Tie} {n i : Nat} {g : Int → Int} {t : Tie} (h : Heads ts n i g) (et : ts[i]? = some t) (ok : TieOk n t) (e : g t.one = g t.other) : Heads ts n (i + 1) g := by
  refine ⟨by rw [take_snoc et]; exact lab_same h.lab ok e, h.rng, h.idem, ?_⟩
  have no : ¬ stemB ts i = true := fun z => (stem_iff et).mp z ((h.lab _ _ ok.1 ok.2.1 ok.2.2.1 ok.2.2.2.1).mp e)
  rw [stemsTo_succ, if_neg no, List.append_nil]
  exact h.cnt
theorem heads_step {ts : List Tie} {n i : Nat} {g : Int → Int} {t : Tie} {p q : Int} (h : Heads ts n i g) (et : ts[i]? = some t) (ok : TieOk n t) (e : (p = t.one ∧ q = t.other) ∨ (p = t.other ∧ q = t.one)) (ne : g p ≠ g q) : Heads ts n (i + 1) (mrg g (g p) (g q)) := by
  have pr : (0 ≤ p ∧ p < n) ∧ (0 ≤ q ∧ q < n) := by
    obtain ⟨o1, o2, o3, o4, _⟩ := ok
    rcases e with ⟨rfl, rfl⟩ | ⟨rfl, rfl⟩
    · exact ⟨⟨o1, o2⟩, o3, o4⟩
    · exact ⟨⟨o3, o4⟩, o1, o2⟩
  obtain ⟨⟨p0, p1⟩, q0, q1⟩ := pr
  have gp := h.rng p p0 p1
  have gq := h.rng q q0 q1
  have ip := h.idem p p0 p1
  have iq := h.idem q q0 q1
  refine ⟨by rw [take_snoc et]; exact lab_step h.lab ok e, fun x x0 x1 => ?_, fun x x0 x1 => ?_, ?_⟩
  · unfold mrg
    split
    · exact gq
    · exact h.rng x x0 x1
  · have ix := h.idem x x0 x1
    by_cases hx : g x = g p
    · have e1 : mrg g (g p) (g q) x = g q := if_pos hx
      rw [e1]
      show (if g (g q) = g p then g q else g (g q)) = g q
      rw [iq, if_neg (Ne.symm ne)]
    · have e1 : mrg g (g p) (g q) x = g x := if_neg hx
      rw [e1]
      show (if g (g x) = g p then g q else g (g x)) = g x
      rw [ix, if_neg hx]
  · have yes : stemB ts i = true := (stem_iff et).mpr fun z => by
      have hl := (h.lab _ _ ok.1 ok.2.1 ok.2.2.1 ok.2.2.2.1).mpr z
      rcases e with ⟨rfl, rfl⟩ | ⟨rfl, rfl⟩
      · exact ne hl
      · exact ne hl.symm
    have drop := filter_drop (p := fun x => decide (g x = x)) (q := fun x => decide (mrg g (g p) (g q) x = x)) (h := g p) (l := FF.rng n) ((rng_rising n).imp fun h => by omega) (mem_rng.mpr gp) (decide_eq_true ip) (fun x hx => ?_)
    · rw [stemsTo_succ, if_pos yes, List.length_append]
      have := h.cnt
      simp only [List.length_cons, List.length_nil]
      omega
    · have xr := mem_rng.mp hx
      rw [Bool.eq_iff_iff, Bool.and_eq_true, decide_eq_true_iff, decide_eq_true_iff, decide_eq_true_iff]
      show (if g x = g p then g q else g x) = x ↔ _
      by_cases hx : g x = g p
      · rw [if_pos hx]
        constructor
        · intro z
          exact absurd (by rw [← z, iq] at hx; exact hx.symm) ne
        · rintro ⟨z1, z2⟩
          exact absurd (z1.symm.trans hx) z2
      · rw [if_neg hx]
        exact ⟨fun z => ⟨z, fun y => hx (by rw [y]; exact ip)⟩, fun z => z.1⟩
/-- stems are told by the places of the ties alone -/
theorem rch_frames : ∀ {ts us : List Tie}, ts.length = us.length → (∀ (i : Nat) t u, ts[i]? = some t → us[i]? = some u → (u.one = t.one ∧ u.other = t.other) ∨ (u.one = t.other ∧ u.other = t.one)) → ∀ {a b : Int}, Rch ts a b → Rch us a b := by
  intro ts us hl h a b r
  refine r.ind (fun x => Rch us a x) .refl fun x y k hx ad => ?_
  obtain ⟨t, ht, _, e⟩ := ad
  obtain ⟨i, hi, rfl⟩ := List.getElem_of_mem ht
  have hu : us[i]? = some us[i] := List.getElem?_eq_getElem (by omega)
  have w := h i _ _ (List.getElem?_eq_getElem hi) hu
  refine hx.trans (Rch.adj (k := us[i].foe) ⟨us[i], List.getElem_mem _, rfl, ?_⟩)
  rcases w with ⟨w1, w2⟩ | ⟨w1, w2⟩ <;> rcases e with ⟨e1, e2⟩ | ⟨e1, e2⟩
  · exact .inl ⟨by omega, by omega⟩
  · exact .inr ⟨by omega, by omega⟩
  · exact .inr ⟨by omega, by omega⟩
  · exact .inl ⟨by omega, by omega⟩
def Framed (ts us : List Tie) : Prop := ts.length = us.length ∧ ∀ (i : Nat) t u, ts[i]? = some t → us[i]? = some u → (u.one = t.one ∧ u.other = t.other) ∨ (u.one = t.other ∧ u.other = t.one)
theorem Framed.symm {ts us : List Tie} (h : Framed ts us) : Framed us ts := ⟨h.1.symm, fun i u t e1 e2 => by
  rcases h.2 i t u e2 e1 with ⟨w1, w2⟩ | ⟨w1, w2⟩
  · exact .inl ⟨w1.symm, w2.symm⟩
  · exact .inr ⟨w2.symm, w1.symm⟩⟩
theorem Framed.take {ts us : List Tie} (h : Framed ts us) (k : Nat) : Framed (ts.take k) (us.take k) := by
  refine ⟨by rw [List.length_take, List.length_take, h.1], fun i t u e1 e2 => ?_⟩
  by_cases hk : i < k
  · rw [List.getElem?_take_of_lt hk] at e1 e2
    exact h.2 i t u e1 e2
  · rw [List.getElem?_take] at e1
    rw [if_neg hk] at e1
    cases e1
theorem Framed.map {ts : List Tie} {f : Tie → Tie} (h : ∀ t ∈ ts, ((f t).one = t.one ∧ (f t).other = t.other) ∨ ((f t).one = t.other ∧ (f t).other = t.one)) : Framed ts (ts.map f) := by
  refine ⟨by rw [List.length_map], fun i t u e1 e2 => ?_⟩
  rw [List.getElem?_map, e1] at e2
  cases e2
  exact h t (List.mem_of_getElem? e1)
theorem stems_framed {ts us : List Tie} (h : Framed ts us) : stemsTo us us.length = stemsTo ts ts.length := by
  unfold stemsTo
  rw [← h.1]
  refine List.filter_congr fun i hi => ?_
  have ir := mem_rng.mp hi
  have e1 : ts[i.toNat]? = some ts[i.toNat] := List.getElem?_eq_getElem (by omega)
  have l := h.1
  have e2 : us[i.toNat]? = some us[i.toNat] := List.getElem?_eq_getElem (by omega)
  have ht := h.take i.toNat
  rw [Bool.eq_iff_iff, stem_iff e1, stem_iff e2]
  have both : ∀ a b : Int, Rch (ts.take i.toNat) a b ↔ Rch (us.take i.toNat) a b := fun a b => ⟨fun r => rch_frames ht.1 ht.2 r, fun r => rch_frames ht.symm.1 ht.symm.2 r⟩
  rcases h.2 _ _ _ e1 e2 with ⟨w1, w2⟩ | ⟨w1, w2⟩
  · rw [w1, w2, both]
  · rw [w1, w2, both]
    exact ⟨fun z y => z y.symm, fun z y => z y.symm⟩
theorem stemsTo_rising (ts : List Tie) (k : Nat) : (stemsTo ts k).Pairwise (· < ·) := (rng_rising k).filter _
theorem stemsTo_mem {ts : List Tie} {k : Nat} {i : Int} : i ∈ stemsTo ts k ↔ (0 ≤ i ∧ i < k) ∧ stemB ts i.toNat = true := by
  unfold stemsTo
  rw [List.mem_filter, mem_rng]
theorem stems_own (ts : List Tie) : stemsTo ((stemsTo ts ts.length).map fun i => tieN ts i.toNat) (stemsTo ts ts.length).length = rng (stemsTo ts ts.length).length := by
  generalize hS : stemsTo ts ts.length = S
  unfold stemsTo
  rw [List.filter_eq_self]
  intro j hj
  have jr := mem_rng.mp hj
  have hjl : j.toNat < S.length := by omega
  have ej : (S.map fun i => tieN ts i.toNat)[j.toNat]? = some (tieN ts S[j.toNat].toNat) := by
    rw [List.getElem?_map, List.getElem?_eq_getElem hjl]
    rfl
  have hm : S[j.toNat] ∈ stemsTo ts ts.length := by rw [hS]; exact List.getElem_mem _
  obtain ⟨⟨m0, m1⟩, mb⟩ := stemsTo_mem.mp hm
  have et : ts[S[j.toNat].toNat]? = some (tieN ts S[j.toNat].toNat) := by
    have h : S[j.toNat].toNat < ts.length := by omega
    rw [List.getElem?_eq_getElem h, tieN_of (List.getElem?_eq_getElem h)]
  rw [stem_iff ej]
  rw [stem_iff et] at mb
  refine fun r => mb (r.mono fun t ht => ?_)
  rw [← List.map_take, List.mem_map] at ht
  obtain ⟨x, hx, rfl⟩ := ht
  obtain ⟨a, ha, rfl⟩ := List.getElem_of_mem hx
  rw [List.length_take] at ha
  rw [List.getElem_take]
  have hx' : S[a] ∈ stemsTo ts ts.length := by rw [hS]; exact List.getElem_mem _
  obtain ⟨⟨x0, x1⟩, _⟩ := stemsTo_mem.mp hx'
  have rise : S.Pairwise (· < ·) := by rw [← hS]; exact stemsTo_rising _ _
  have lt : S[a] < S[j.toNat] := List.pairwise_iff_getElem.mp rise a j.toNat (by omega) hjl (by omega)
  have h : S[a].toNat < ts.length := by omega
  rw [tieN_of (List.getElem?_eq_getElem h)]
  rw [List.mem_iff_getElem]
  exact ⟨S[a].toNat, by rw [List.length_take]; omega, by rw [List.getElem_take]⟩
/-! ### k63: friends -/
theorem lf_succ (f : Int → Int) (j : Nat) : lf f (j + 1) = lf f j ++ [V.int (f j)] := by
  unfold lf
  rw [rng_succ, List.map_append]
  rfl
theorem rgV_rng (n : Nat) : rgV 0 (n : Int) = (rng n).map V.int := by
  unfold rgV rng
  rw [List.map_map, show ((n : Int) - 0).toNat = n from by omega]
  refine List.map_congr_left fun i _ => ?_
  show V.int (0 + (i : Int)) = V.int i
  rw [Int.zero_add]
theorem lf_id (n : Nat) : rgV 0 n = lf (fun i => i) n := by
  rw [rgV_rng]
  rfl
def frs (ts : List Tie) : List Tie := ts.filter fun t => !t.foe
theorem frs_ok {n : Int} {ts : List Tie} (ok : WebOk n ts) : WebOk n (frs ts) := ⟨ok.lo, ok.hi, Nat.le_trans (List.length_filter_le _ _) ok.few, fun t ht => ok.ok t (List.mem_filter.mp ht).1⟩
theorem frs_take {ts : List Tie} {i : Nat} {t : Tie} (h : ts[i]? = some t) : frs (ts.take (i + 1)) = frs (ts.take i) ++ (if t.foe = true then [] else [t]) := by
  unfold frs
  rw [List.take_add_one, h, List.filter_append]
  cases hf : t.foe <;> simp [hf]
def spFriends : Sp := fun vs H Q _ => ∃ (v : V) (n : Nat) (ts : List Tie), vs = [v] ∧ WebAt H v n ts ∧ WebOk n ts ∧ ∀ v' H', Same H H' → PartsAt H' v' (partsTo (frs ts) n n) → Q v' H'
def spGroups (K : PySem.W.Frag) : Sp := fun vs H Q _ => ∃ (v : V) (a : Addr) (n : Nat) (ts : List Tie), vs = [v, .ref a] ∧ WebAt H v n ts ∧ WebOk n ts ∧ H a = some (.tup [.str "friend"]) ∧ ∀ L g H', Same H H' → H' L = some (.lst (lf g n)) → GS (frs ts) n g (fun _ => 0) true → Q (.ref L) H'
theorem gs_fr {ts : List Tie} {n : Nat} {g : Int → Int} (h : GS ts n g (fun _ => 0) true) (okts : ∀ t ∈ ts, TieOk n t) {t : Tie} (ok : TieOk n t) (hf : t.foe = false) : GS (ts ++ [t]) n (gNew g (min (g t.one) (g t.other)) (max (g t.one) (g t.other))) (fun _ => 0) true := by
  have st := h.step okts ok (turn := 0) rfl rfl (by rw [hf]; rfl)
  have e1 : sNew g (fun _ => 0) (min (g t.one) (g t.other)) (max (g t.one) (g t.other)) 0 = fun _ => 0 := by
    funext x
    unfold sNew
    split <;> rfl
  have e2 : (if min (g t.one) (g t.other) = max (g t.one) (g t.other) then true && decide ((0 : Int) = 0) else true) = true := by split <;> rfl
  rw [e1, e2] at st
  exact st
theorem gNew_none (g : Int → Int) {low high : Int} (h : ¬ low < high) : gNew g low high = g := by
  funext x
  unfold gNew
  rw [if_neg (fun z => h z.1)]
section
variable {P : Program} {w : World} {K : PySem.W.Frag} {mg : Str → Option Value} {base : Heap}
theorem ok_friends_of {f : Addr} {fd : FuncData} (F : Fun K "friends_of" "friends_of" s_friends_of f fd) (M : Free mg) (D_parts_of : Df P w K mg base 2 "parts_of" ["web"] spPartsOf) : FnOk P w K mg base CX0 3 f fd ["web"] spFriends := by
  obtain ⟨f_parts_of, fd_parts_of, G_parts_of, g_parts_of, k_parts_of, b_parts_of⟩ := D_parts_of
  refine F.ok sc_friends_of (fun vs H Q E h => ?_) (fun cdv A outer s H vs Q E hr h => ?_)
  · obtain ⟨v, n, ts, rfl, _⟩ := h
    rfl
  · obtain ⟨v, n, ts, rfl, ⟨wa, wb, us, rfl, hwa, hwb, hp⟩, ok, q⟩ := h
    refine ⟨_, (pss_one (ps_ret (pe_call G_parts_of (hr.mono (by decide)) (by rfl) g_parts_of k_parts_of b_parts_of .nil pass0 (pa_cons (pe_tup (pa_cons (pe_ix ix_tup (pv 0) pe_int (fun _ _ => rfl)) (pa_cons (pe_callTy call_tuple_of (by rfl) M.tuple (by decide +kernel) (pa_cons (pe_lc (own := [("tie", 1)]) (g := gName 1) (te := tVar 1) rfl sc_friends_of.nd (pi_tup (pe_ix ix_tup (pv 0) pe_int (fun _ _ => rfl))) (blkOk_by (N := N_friends_of) (sc := defScope s_friends_of) (own := [("tie", 1)]) (by decide +kernel)) (fun _ _ _ _ _ => (pg_name (i := 1) sc_friends_of.nd rfl (.inl rfl))) (fun _ _ _ _ _ => (pts_one (pt_cmpR op_eq (pe_ix (r := rIxT K) ix_tup (pv 1) pe_int (fun _ _ => rfl)) pe_str (nomark _)))) (fun _ _ _ _ _ => (pv 1))) pa_nil)) pa_nil))) pa_nil)))), ?_⟩
    have hlen : us.length = ts.length := Paired.length hp
    have few := ok.few
    refine ⟨.ref wa, rfl, wa, _, 0, .int n, rfl, rfl, SqT.of hwa, rfl, .ref wa, rfl, wa, _, 1, .ref wb, rfl, rfl, SqT.of hwa, rfl, wb, rfl, ⟨_, SqT.of hwb⟩, fun Z nZ => ?_⟩
    refine lc_tup (xs := us) (fun i H' => ∃ vs, H' Z = some (.lst vs) ∧ Paired (TieV H') vs (frs (ts.take i)) ∧ Same H H') ⟨[], upd_same, .nil, same_new nZ⟩ (fun i H' _ h => by
      obtain ⟨_, _, _, s3⟩ := h
      exact SqT.of (s3 _ _ hwb)) ?_ ?_
    · rintro i x H1 ex ⟨vs, hZ, hv, s1⟩
      obtain ⟨t, et, a, rfl, hx⟩ := Paired.at hp ex
      have hi : i < us.length := (List.getElem?_eq_some_iff.mp ex).1
      refine ⟨rfl, .ref a, rfl, a, _, 2, _, rfl, rfl, SqT.of (s1 _ _ hx), rfl, rfl, _, rfl, ?_⟩
      have e2 : decide (V.str (kindS t.foe) = V.str "friend") = !t.foe := by cases t.foe <;> rfl
      rw [e2, frs_take et]
      have lv : vs.length ≤ i := by
        rw [Paired.length hv]
        unfold frs
        have := List.length_filter_le (fun t => !t.foe) (ts.take i)
        rw [List.length_take] at this
        omega
      cases hf : t.foe with
      | true =>
        refine ⟨vs, hZ, ?_, s1⟩
        simp only [if_true, List.append_nil]
        exact hv
      | false =>
        simp only [Bool.false_eq_true, if_false]
        exact ⟨.ref a, rfl, vs, hZ, small1000 (by omega), vs ++ [.ref a], upd_same, Paired.snoc (ties_tk (tk_lst hZ) hv) ⟨a, rfl, tk_lst hZ _ _ (s1 _ _ hx)⟩, fun b o e => by rw [upd_ne (ne_of_none e nZ)]; exact s1 b o e⟩
    · rintro H1 ⟨vs, hZ, hv, s1⟩
      rw [hlen, List.take_length] at hv
      refine ⟨Z, vs, rfl, .inl ⟨SqL.of hZ, fun r nr => ⟨by show 2 ≤ sizeLine; decide, fun o no => ?_⟩⟩⟩
      have s4 : Same H1 _ := (same_new (o := .tup vs) nr).trans (same_new (o := .tup [.int n, .ref r]) no)
      exact ⟨.ref o, n, frs ts, rfl, ⟨o, r, vs, rfl, upd_same, same_new no _ _ upd_same, ties_tk (Same.tk s4) hv⟩, frs_ok ok, fun v' H' s5 h5 => q v' H' ((s1.trans s4).trans s5) h5⟩
theorem ok_l_groups {f : Addr} {fd : FuncData} (F : Fun K "_law_groups" "_law_groups" s_l_groups f fd) (M : Free mg) (mmin : mg "min" = none) (mmax : mg "max" = none) : FnOk P w K mg base CX0 1 f fd ["_law_web", "_law_kinds"] (spGroups K) := by
  refine F.ok sc_l_groups (fun vs H Q E h => ?_) (fun cdv A outer s H vs Q E hr h => ?_)
  · obtain ⟨v, a, n, ts, rfl, _⟩ := h
    rfl
  · obtain ⟨v, a, n, ts, rfl, ⟨wa, wb, us, rfl, hwa, hwb, hp⟩, ok, ha, q⟩ := h
    refine ⟨_, (pss_cons (ps_set (i := 2) sc_l_groups.nd rfl (.inl rfl) (pe_listRg rfl (by rfl) M.list (prg_1 (by rfl) M.range (pe_ix ix_tup (pv 0) pe_int (fun _ _ => rfl)))))
      (pss_cons (ps_for PassesOwn.never rfl (pi_tup (pe_ix ix_tup (pv 0) pe_int (fun _ _ => rfl))) (pg_tup rfl (pgs_cons (pg_name (i := 3) sc_l_groups.nd rfl (.inl rfl)) (pgs_cons (pg_name (i := 4) sc_l_groups.nd rfl (.inl rfl)) (pgs_cons (pg_name (i := 5) sc_l_groups.nd rfl (.inl rfl)) pgs_nil))))
        (pss_cons (ps_set (i := 6) sc_l_groups.nd rfl (.inr rfl) (pe_callB (call_min2 rfl) (by rfl) mmin (by decide +kernel) (pa_cons (pe_ix ix_list (pv 2) (pv 3) (fun _ _ => rfl)) (pa_cons (pe_ix ix_list (pv 2) (pv 4) (fun _ _ => rfl)) pa_nil))))
        (pss_cons (ps_set (i := 7) sc_l_groups.nd rfl (.inr rfl) (pe_callB (call_max2 rfl) (by rfl) mmax (by decide +kernel) (pa_cons (pe_ix ix_list (pv 2) (pv 3) (fun _ _ => rfl)) (pa_cons (pe_ix ix_list (pv 2) (pv 4) (fun _ _ => rfl)) pa_nil))))
        (pss_one (ps_if (PW.pt (pw_and (pt_cmpR op_in_seq (pv 5) (pv 1) rfl) (pw_and1 (pt_cmpR op_lt (pv 6) (pv 7) (nomark _)))))
          (pss_one (ps_setLc (i := 2) (own := [("_law_group", 8)]) (g := gName 8) (tt := tYes) rfl sc_l_groups.nd rfl rfl (sw_true rfl rfl rfl (by decide +kernel)) (pi_list (pv 2)) (blkOk_by (N := N_l_groups) (sc := defScope s_l_groups) (own := [("_law_group", 8)]) (by decide +kernel)) (fun _ _ _ _ _ => (pg_name (i := 8) sc_l_groups.nd rfl (.inl rfl))) (fun _ _ _ _ _ => pts_nil) (fun _ _ _ _ _ => (pe_ix (r := rIxL K) ix_list (pe_lst (pa_cons (pv 8) (pa_cons (pv 6) pa_nil))) (pe_callTy call_int1 (by rfl) M.int (by decide +kernel) (pa_cons (pe_cmpR op_eq (pv 8) (pv 7) (nomark _)) pa_nil)) (fun _ _ => rfl)))))
          pss_nil)))))
      (pss_one (ps_ret (pv 2))))), ?_⟩
    have hlen : us.length = ts.length := Paired.length hp
    have hk : n ≤ 40 := by have := ok.hi; omega
    refine ⟨.ref wa, rfl, wa, _, 0, .int n, rfl, rfl, SqT.of hwa, rfl, n, rfl, RgOk.of_le (by omega) (by omega) (by omega) (by omega), fun L nL => ?_⟩
    rw [show rgV 0 (n : Int) = lf (fun i => i) n from lf_id n]
    have s1 : Same H (upd H L (.lst (lf (fun i => i) n))) := same_new nL
    refine ⟨.ref wa, rfl, wa, _, 1, .ref wb, rfl, rfl, SqT.of (s1 _ _ hwa), rfl, wb, rfl, ⟨_, SqT.of (s1 _ _ hwb)⟩, ?_⟩
    refine for_tup (xs := us) (fun i σ' H' => ∃ (y3 y4 y5 y6 y7 : Option V) (L : Addr) (g : Int → Int), σ' = [some (.ref wa), some (.ref a), some (.ref L), y3, y4, y5, y6, y7, none] ∧ H' L = some (.lst (lf g n)) ∧ GS (frs (ts.take i)) n g (fun _ => 0) true ∧ Same H H') ⟨none, none, none, none, none, L, _, rfl, upd_same, GS.nil n, s1⟩ (fun i σ' H' _ h => by
      obtain ⟨_, _, _, _, _, _, _, _, _, _, s3⟩ := h
      exact SqT.of (s3 _ _ hwb)) ?_ ?_
    · clear s1
      rintro i x σ' H2 ex ⟨y3, y4, y5, y6, y7, L, g, rfl, hL, gs, s2⟩
      obtain ⟨t, et, c, rfl, hc⟩ := Paired.at hp ex
      have okt := ok.ok t (List.mem_of_getElem? et)
      have okf : ∀ t ∈ frs (ts.take i), TieOk n t := fun t ht => ok.ok t (List.mem_of_mem_take (List.mem_filter.mp ht).1)
      refine ⟨c, _, rfl, SqT.of (s2 _ _ hc), rfl, _, _, rfl, _, _, rfl, _, _, rfl, rfl, ?_⟩
      refine ⟨.ref L, rfl, .int t.one, rfl, L, _, t.one, _, rfl, rfl, SqL.of hL, lf_at g okt.1 okt.2.1, .ref L, rfl, .int t.other, rfl, L, _, t.other, _, rfl, rfl, SqL.of hL, lf_at g okt.2.2.1 okt.2.2.2.1, g t.one, g t.other, rfl, ?_⟩
      refine ⟨.ref L, rfl, .int t.one, rfl, L, _, t.one, _, rfl, rfl, SqL.of hL, lf_at g okt.1 okt.2.1, .ref L, rfl, .int t.other, rfl, L, _, t.other, _, rfl, rfl, SqL.of hL, lf_at g okt.2.2.1 okt.2.2.2.1, g t.one, g t.other, rfl, ?_⟩
      have elo : (if g t.other < g t.one then g t.other else g t.one) = min (g t.one) (g t.other) := by split <;> omega
      have ehi : (if g t.other > g t.one then g t.other else g t.one) = max (g t.one) (g t.other) := by split <;> omega
      rw [elo, ehi]
      refine ⟨.str (kindS t.foe), rfl, .ref a, rfl, a, _, rfl, .inr (SqT.of (s2 _ _ ha)), rfl, rfl, _, rfl, ?_⟩
      have e3 : inV (.str (kindS t.foe)) [V.str "friend"] = !t.foe := by cases t.foe <;> decide
      simp only [Bool.false_eq_true, if_false]
      rw [e3]
      cases hf : t.foe with
      | true =>
        refine ⟨_, _, _, _, _, L, g, rfl, hL, ?_, s2⟩
        rw [frs_take et, hf]
        simpa using gs
      | false =>
        have gs' := gs_fr gs okf okt hf
        have efr : frs (ts.take (i + 1)) = frs (ts.take i) ++ [t] := by rw [frs_take et, hf]; rfl
        rw [← efr] at gs'
        refine ⟨.int (min (g t.one) (g t.other)), rfl, .int (max (g t.one) (g t.other)), rfl, _, _, rfl, rfl, _, rfl, ite2 (fun e => ?_) (fun e => ?_)⟩
        · have hlt := of_decide_eq_true e
          generalize hlow : min (g t.one) (g t.other) = low at gs' hlt ⊢
          generalize hhigh : max (g t.one) (g t.other) = high at gs' hlt ⊢
          refine ⟨.ref L, rfl, L, rfl, ⟨_, SqL.of hL⟩, fun Z nZ => ?_⟩
          refine lc_list (xs := lf g n) (fun j H' => H' Z = some (.lst (lf (gNew g low high) j)) ∧ Same H2 H') ⟨upd_same, same_new nZ⟩ (fun j H' _ h => SqL.of (h.2 _ _ hL)) ?_ ?_
          · rintro j y H3 ey ⟨hZ, s3⟩
            have hj : j < n := by have := (List.getElem?_eq_some_iff.mp ey).1; rw [lf_len] at this; exact this
            rw [lf_get? g hj] at ey
            cases ey
            refine ⟨rfl, .int (g j), rfl, .int low, rfl, by show 2 ≤ sizeLine; decide, fun O nO => ?_⟩
            refine ⟨.int (g j), rfl, .int high, rfl, rfl, .inr ⟨_, rfl, O, _, _, _, rfl, rfl, SqL.of upd_same, pick2 _ _ _, ?_⟩⟩
            have hZ4 := same_new (o := .lst [.int (g j), .int low]) nO _ _ hZ
            refine ⟨_, hZ4, by rw [lf_len]; exact small1000 (by omega), ?_, fun b o e => by rw [upd_ne (ne_of_none e nZ)]; exact same_new nO _ _ (s3 b o e)⟩
            have ev : (if decide (V.int (g j) = V.int high) = true then V.int low else V.int (g j)) = V.int (gNew g low high j) := by
              unfold gNew
              by_cases eg : g j = high
              · rw [if_pos (decide_eq_true (by rw [eg])), if_pos ⟨hlt, eg⟩]
              · rw [if_neg (by rw [decide_eq_false (fun z => eg (V.int.inj z))]; decide), if_neg (fun z => eg z.2)]
            rw [ev, upd_same, lf_succ]
          · rintro H3 ⟨hZ, s3⟩
            rw [lf_len] at hZ
            exact ⟨_, _, _, _, _, Z, _, rfl, hZ, gs', s2.trans s3⟩
        · have hge : ¬ min (g t.one) (g t.other) < max (g t.one) (g t.other) := fun z => e (decide_eq_true z)
          rw [gNew_none g hge] at gs'
          exact ⟨_, _, _, _, _, L, g, rfl, hL, gs', s2⟩
    · rintro σ' H2 ⟨y3, y4, y5, y6, y7, L, g, rfl, hL, gs, s2⟩
      rw [hlen, List.take_length] at gs
      exact ⟨.ref L, rfl, q L g _ s2 hL gs⟩
end

/-! ### ties around places, by their numbers (mathematics) -/
def Jn (t : Tie) (a b : Int) : Prop := (t.one = a ∧ t.other = b) ∨ (t.one = b ∧ t.other = a)
theorem Jn.symm {t : Tie} {a b : Int} (h : Jn t a b) : Jn t b a := h.elim .inr .inl
abbrev Nu := Int × Int
def n1 (ts : List Tie) (m : Int) (p : Int) : List Nu := (if p = (tieN ts m.toNat).one then [((tieN ts m.toNat).other, m)] else []) ++ (if p = (tieN ts m.toNat).other then [((tieN ts m.toNat).one, m)] else [])
def nN (ts : List Tie) (ns : List Int) (p : Int) : List Nu := ns.flatMap fun m => n1 ts m p
theorem nN_snoc (ts : List Tie) (ns : List Int) (m p : Int) : nN ts (ns ++ [m]) p = nN ts ns p ++ n1 ts m p := by
  unfold nN
  rw [List.flatMap_append]
  simp
theorem n1_len (ts : List Tie) (m p : Int) : (n1 ts m p).length ≤ 2 := by
  unfold n1
  rw [List.length_append]
  split <;> split <;> simp
theorem nN_len (ts : List Tie) (ns : List Int) (p : Int) : (nN ts ns p).length ≤ 2 * ns.length := by
  induction ns with
  | nil => simp [nN]
  | cons m ns ih =>
    have h := n1_len ts m p
    unfold nN at ih ⊢
    rw [List.flatMap_cons, List.length_append, List.length_cons]
    omega
theorem mem_nN {ts : List Tie} {ns : List Int} {p : Int} {q : Nu} : q ∈ nN ts ns p ↔ q.2 ∈ ns ∧ Jn (tieN ts q.2.toNat) p q.1 := by
  unfold nN n1 Jn
  rw [List.mem_flatMap]
  constructor
  · rintro ⟨m, hm, h⟩
    rcases List.mem_append.mp h with h | h
    · split at h
      · rename_i e
        rw [List.mem_singleton] at h
        subst h
        exact ⟨hm, .inl ⟨e.symm, rfl⟩⟩
      · simp at h
    · split at h
      · rename_i e
        rw [List.mem_singleton] at h
        subst h
        exact ⟨hm, .inr ⟨rfl, e.symm⟩⟩
      · simp at h
  · rintro ⟨hm, h⟩
    refine ⟨q.2, hm, List.mem_append.mpr ?_⟩
    obtain ⟨q1, q2⟩ := q
    simp only at h
    rcases h with ⟨h1, h2⟩ | ⟨h1, h2⟩
    · left
      rw [if_pos h1.symm, List.mem_singleton, ← h2]
    · right
      rw [if_pos h2.symm, List.mem_singleton, ← h1]
def NuV (H : Hp) (v : V) (q : Nu) : Prop := ∃ a, v = .ref a ∧ H a = some (.tup [.int q.1, .int q.2])
theorem NuV.tk {H H' : Hp} (k : Tk H H') {v : V} {p : Nu} (h : NuV H v p) : NuV H' v p := by
  obtain ⟨a, rfl, e⟩ := h
  exact ⟨a, rfl, k _ _ e⟩
theorem nus_tk {H H' : Hp} (k : Tk H H') {vs : List V} {qs : List Nu} (h : Paired (NuV H) vs qs) : Paired (NuV H') vs qs := Paired.mono (fun _ _ x => x.tk k) h
def aKv (As : List (Int × Addr)) : List (Key × V) := As.map fun p => (Sum.inl p.1, V.ref p.2)
theorem aKv_none {z : Int} : ∀ {As : List (Int × Addr)}, z ∉ As.map (·.1) → valV (aKv As) (Sum.inl z) = none
  | [], _ => rfl
  | p :: As, h => by
    rw [List.map_cons, List.mem_cons, not_or] at h
    have e := aKv_none (As := As) h.2
    have h1 := h.1
    unfold aKv at e ⊢
    rw [List.map_cons, valV_neg (fun z => h1 (Sum.inl.inj z).symm)]
    exact e
theorem aKv_some {z : Int} {a : Addr} : ∀ {As : List (Int × Addr)}, (As.map (·.1)).Nodup → (z, a) ∈ As → valV (aKv As) (Sum.inl z) = some (.ref a)
  | p :: As, nd, h => by
    rw [List.map_cons, List.nodup_cons] at nd
    rcases List.mem_cons.mp h with e | e
    · subst e
      unfold aKv
      rw [List.map_cons, valV_pos rfl]
    · have q := aKv_some (As := As) nd.2 e
      have ne : p.1 ≠ z := fun y => nd.1 (by rw [y]; exact List.mem_map.mpr ⟨_, e, rfl⟩)
      unfold aKv at q ⊢
      rw [List.map_cons, valV_neg (fun y => ne (Sum.inl.inj y))]
      exact q
theorem aKv_put {As : List (Int × Addr)} {z : Int} {a : Addr} (h : z ∉ As.map (·.1)) : putK (aKv As) (Sum.inl z) (.ref a) = aKv (As ++ [(z, a)]) := by
  unfold putK
  rw [if_neg]
  · unfold aKv
    rw [List.map_append]
    rfl
  · intro g
    rw [List.any_eq_true] at g
    obtain ⟨kv, h1, h2⟩ := g
    unfold aKv at h1
    rw [List.mem_map] at h1
    obtain ⟨p, hp, rfl⟩ := h1
    exact h (List.mem_map.mpr ⟨p, hp, Sum.inl.inj (of_decide_eq_true h2)⟩)
theorem aKv_len (As : List (Int × Addr)) : (aKv As).length = As.length := by unfold aKv; rw [List.length_map]
theorem aKv_cases (As : List (Int × Addr)) (z : Int) (nd : (As.map (·.1)).Nodup) : (z ∉ As.map (·.1) ∧ valV (aKv As) (Sum.inl z) = none) ∨ ∃ a, (z, a) ∈ As ∧ valV (aKv As) (Sum.inl z) = some (.ref a) := by
  by_cases h : z ∈ As.map (·.1)
  · obtain ⟨p, hp, rfl⟩ := List.mem_map.mp h
    exact .inr ⟨p.2, hp, aKv_some nd hp⟩
  · exact .inl ⟨h, aKv_none h⟩
/-- a dict of lists of (place, number) -/
structure Aro (H : Hp) (D : Addr) (As : List (Int × Addr)) (N : Int → List Nu) : Prop where
  at' : H D = some (.dK (aKv As))
  nd : (As.map (·.1)).Nodup
  nd2 : (As.map (·.2)).Nodup
  each : ∀ p ∈ As, ∃ vs, H p.2 = some (.lst vs) ∧ Paired (NuV H) vs (N p.1)
  no : ∀ q, q ∉ As.map (·.1) → N q = []
theorem Aro.same {H H' : Hp} {D : Addr} {As : List (Int × Addr)} {N : Int → List Nu} (h : Aro H D As N) (s : Same H H') : Aro H' D As N :=
  ⟨s _ _ h.at', h.nd, h.nd2, fun p hp => by
    obtain ⟨vs, h1, h2⟩ := h.each p hp
    exact ⟨vs, s _ _ h1, nus_tk (Same.tk s) h2⟩, h.no⟩
theorem Aro.out {H : Hp} {D : Addr} {As : List (Int × Addr)} {N : Int → List Nu} (h : Aro H D As N) {p : Int × Addr} (hp : p ∈ As) : p.2 ≠ D := by
  obtain ⟨vs, h1, _⟩ := h.each p hp
  exact ne_of h1 h.at' (by intro z; cases z)
/-- a place more, with nothing yet -/
theorem Aro.more {H : Hp} {D a : Addr} {As : List (Int × Addr)} {N : Int → List Nu} {z : Int} (h : Aro H D As N) (hz : z ∉ As.map (·.1)) (ha : H a = some (.lst [])) (hn : a ∉ As.map (·.2)) : Aro (upd H D (.dK (aKv (As ++ [(z, a)])))) D (As ++ [(z, a)]) N := by
  have haD : a ≠ D := ne_of ha h.at' (by intro z; cases z)
  have k : Tk H (upd H D (.dK (aKv (As ++ [(z, a)])))) := fun b xs e => by
    rw [upd_ne (ne_of e h.at' (by intro z; cases z))]
    exact e
  refine ⟨upd_same, ?_, ?_, fun p hp => ?_, fun q hq => ?_⟩
  · rw [List.map_append, List.nodup_append]
    refine ⟨h.nd, by simp, fun x hx y hy e => ?_⟩
    simp only [List.map_cons, List.map_nil, List.mem_singleton] at hy
    subst hy
    subst e
    exact hz hx
  · rw [List.map_append, List.nodup_append]
    refine ⟨h.nd2, by simp, fun x hx y hy e => ?_⟩
    simp only [List.map_cons, List.map_nil, List.mem_singleton] at hy
    subst hy
    subst e
    exact hn hx
  · rcases List.mem_append.mp hp with hp | hp
    · obtain ⟨vs, h1, h2⟩ := h.each p hp
      exact ⟨vs, by rw [upd_ne (h.out hp)]; exact h1, nus_tk k h2⟩
    · rw [List.mem_singleton] at hp
      subst hp
      refine ⟨[], by rw [upd_ne haD]; exact ha, ?_⟩
      rw [show N (z, a).1 = [] from h.no z hz]
      exact .nil
  · rw [List.map_append, List.mem_append, not_or] at hq
    exact h.no q hq.1
theorem Aro.put {H : Hp} {D a c : Addr} {As : List (Int × Addr)} {N : Int → List Nu} {z : Int} {vs : List V} {q : Nu} (h : Aro H D As N) (hz : (z, a) ∈ As) (hv : H a = some (.lst vs)) (hc : NuV H (.ref c) q) : Aro (upd H a (.lst (vs ++ [.ref c]))) D As (fun p => N p ++ if p = z then [q] else []) := by
  have k : Tk H (upd H a (.lst (vs ++ [.ref c]))) := tk_lst hv
  refine ⟨by rw [upd_ne (Ne.symm (h.out hz))]; exact h.at', h.nd, h.nd2, fun p hp => ?_, fun y hy => ?_⟩
  · obtain ⟨us, h1, h2⟩ := h.each p hp
    by_cases e : p.1 = z
    · have e2 : p.2 = a := by
        obtain ⟨i, hi, rfl⟩ := List.getElem_of_mem hp
        obtain ⟨j, hj, ej⟩ := List.getElem_of_mem hz
        have w : i = j := by
          have e3 : (As.map (·.1))[i]? = (As.map (·.1))[j]? := by
            rw [List.getElem?_map, List.getElem?_map, List.getElem?_eq_getElem hi, List.getElem?_eq_getElem hj, ej]
            exact congrArg some e
          exact (List.getElem?_inj (by rw [List.length_map]; exact hi) h.nd).mp e3
        subst w
        rw [ej]
      rw [e2] at h1 ⊢
      rw [hv] at h1
      cases h1
      refine ⟨_, upd_same, ?_⟩
      rw [if_pos e]
      exact Paired.snoc (nus_tk k h2) (hc.tk k)
    · have e2 : p.2 ≠ a := fun y => e (by
        obtain ⟨i, hi, rfl⟩ := List.getElem_of_mem hp
        obtain ⟨j, hj, ej⟩ := List.getElem_of_mem hz
        have w : i = j := by
          have e3 : (As.map (·.2))[i]? = (As.map (·.2))[j]? := by
            rw [List.getElem?_map, List.getElem?_map, List.getElem?_eq_getElem hi, List.getElem?_eq_getElem hj, ej]
            exact congrArg some y
          exact (List.getElem?_inj (by rw [List.length_map]; exact hi) h.nd2).mp e3
        subst w
        rw [ej])
      refine ⟨us, by rw [upd_ne e2]; exact h1, ?_⟩
      rw [if_neg e, List.append_nil]
      exact nus_tk k h2
  · have ne : y ≠ z := fun e => hy (by rw [e]; exact List.mem_map.mpr ⟨_, hz, rfl⟩)
    rw [h.no y hy, if_neg ne]
    rfl
def AroAt (H : Hp) (v : V) (N : Int → List Nu) : Prop := ∃ D As, v = .ref D ∧ Aro H D As N
def spAround : Sp := fun vs H Q _ => ∃ (v : V) (b : Addr) (n : Int) (ts : List Tie) (ns : List Int), vs = [v, .ref b] ∧ WebAt H v n ts ∧ ts.length ≤ 130 ∧ H b = some (.lst (ns.map V.int)) ∧ ns.length ≤ 130 ∧ (∀ m ∈ ns, 0 ≤ m ∧ m < (ts.length : Int)) ∧
  ∀ u H', Same H H' → AroAt H' u (nN ts ns) → Q u H'
section
variable {P : Program} {w : World} {K : PySem.W.Frag} {mg : Str → Option Value} {base : Heap}
end
/-! ### ways: what is walked, level by level (mathematics) -/
abbrev We := Int × Nat × Option (Int × Int)
def weL (e : We) : List V := match e.2.2 with
  | none => [.int (e.2.1 : Nat), .non, .non]
  | some f => [.int (e.2.1 : Nat), .int f.1, .int f.2]
structure WF (N : Int → List Nu) (s : Int) (ws : List We) : Prop where
  nd : (ws.map (·.1)).Nodup
  root : (s, 0, none) ∈ ws
  non : ∀ y k, (y, k, none) ∈ ws → y = s ∧ k = 0
  par : ∀ y k p m, (y, k, some (p, m)) ∈ ws → ∃ j f, (p, j, f) ∈ ws ∧ k = j + 1 ∧ (y, m) ∈ N p
  cl : ∀ e ∈ ws, ∀ q ∈ N e.1, ∃ k f, (q.1, k, f) ∈ ws ∧ k ≤ e.2.1 + 1
structure BF (N : Int → List Nu) (s : Int) (ws : List We) (L : Nat) (todo fol : List Int) : Prop where
  nd : (ws.map (·.1)).Nodup
  root : (s, 0, none) ∈ ws
  non : ∀ y k, (y, k, none) ∈ ws → y = s ∧ k = 0
  par : ∀ y k p m, (y, k, some (p, m)) ∈ ws → ∃ j f, (p, j, f) ∈ ws ∧ k = j + 1 ∧ (y, m) ∈ N p
  lv : ∀ e ∈ ws, e.2.1 ≤ L + 1
  td : ∀ x ∈ todo, ∃ f, (x, L, f) ∈ ws
  dn : ∀ e ∈ ws, e.2.1 ≤ L → e.1 ∈ todo ∨ ∀ q ∈ N e.1, ∃ k f, (q.1, k, f) ∈ ws ∧ k ≤ e.2.1 + 1
  f1 : ∀ x ∈ fol, ∃ f, (x, L + 1, f) ∈ ws
  f2 : ∀ e ∈ ws, e.2.1 = L + 1 → e.1 ∈ fol
  fl : fol.length ≤ ws.length
theorem we_one {ws : List We} (nd : (ws.map (·.1)).Nodup) {x : Int} {k j : Nat} {f g : Option (Int × Int)} (h : (x, k, f) ∈ ws) (h' : (x, j, g) ∈ ws) : k = j ∧ f = g := by
  induction ws with
  | nil => cases h
  | cons e ws ih =>
    rw [List.map_cons, List.nodup_cons] at nd
    rcases List.mem_cons.mp h with a | a <;> rcases List.mem_cons.mp h' with b | b
    · rw [← a] at b
      cases b
      exact ⟨rfl, rfl⟩
    · exact absurd (List.mem_map.mpr ⟨_, b, rfl⟩) (by rw [← a] at nd; exact nd.1)
    · exact absurd (List.mem_map.mpr ⟨_, a, rfl⟩) (by rw [← b] at nd; exact nd.1)
    · exact ih nd.2 a b
theorem we_key {ws : List We} {x : Int} (h : x ∈ ws.map (·.1)) : ∃ k f, (x, k, f) ∈ ws := by
  obtain ⟨⟨y, k, f⟩, he, e⟩ := List.mem_map.mp h
  have e : y = x := e
  subst e
  exact ⟨k, f, he⟩
theorem WF.rg {N : Int → List Nu} {s : Int} {ws : List We} {n : Int} (h : WF N s ws) (hs : 0 ≤ s ∧ s < n) (hN : ∀ x q, q ∈ N x → 0 ≤ q.1 ∧ q.1 < n) {x : Int} (hx : x ∈ ws.map (·.1)) : 0 ≤ x ∧ x < n := by
  obtain ⟨k, f, he⟩ := we_key hx
  cases f with
  | none =>
    rw [(h.non _ _ he).1]
    exact hs
  | some pm =>
    obtain ⟨p, m⟩ := pm
    obtain ⟨j, g, _, _, hm⟩ := h.par _ _ _ _ he
    exact hN p _ hm
theorem BF.rg {N : Int → List Nu} {s : Int} {ws : List We} {L : Nat} {todo fol : List Int} {n : Int} (h : BF N s ws L todo fol) (hs : 0 ≤ s ∧ s < n) (hN : ∀ x q, q ∈ N x → 0 ≤ q.1 ∧ q.1 < n) (x : Int) (hx : x ∈ ws.map (·.1)) : 0 ≤ x ∧ x < n := by
  obtain ⟨k, f, he⟩ := we_key hx
  cases f with
  | none =>
    rw [(h.non _ _ he).1]
    exact hs
  | some pm =>
    obtain ⟨p, m⟩ := pm
    obtain ⟨j, g, _, _, hm⟩ := h.par _ _ _ _ he
    exact hN p _ hm
theorem BF.few {N : Int → List Nu} {s : Int} {ws : List We} {L : Nat} {todo fol : List Int} {n : Nat} (h : BF N s ws L todo fol) (hs : 0 ≤ s ∧ s < n) (hN : ∀ x q, q ∈ N x → 0 ≤ q.1 ∧ q.1 < n) : ws.length ≤ n := by
  have := pigeon n _ h.nd (h.rg hs hN)
  rw [List.length_map] at this
  exact this
theorem BF.start (N : Int → List Nu) (s : Int) : BF N s [(s, 0, none)] 0 [s] [] :=
  ⟨by simp, by simp, fun y k h => by simp at h; exact ⟨h.1, h.2⟩, fun y k p m h => by simp at h, fun e h => by rw [List.mem_singleton.mp h]; simp, fun x h => ⟨none, by rw [List.mem_singleton.mp h]; simp⟩, fun e h _ => .inl (by rw [List.mem_singleton.mp h]; simp), fun x h => by simp at h, fun e h z => by rw [List.mem_singleton.mp h] at z; simp at z, by simp⟩
theorem BF.stop {N : Int → List Nu} {s : Int} {ws : List We} {L : Nat} (h : BF N s ws L [] []) : WF N s ws :=
  ⟨h.nd, h.root, h.non, h.par, fun e he => by
    have h1 := h.lv e he
    have h2 : e.2.1 ≤ L := by
      by_cases z : e.2.1 = L + 1
      · exact absurd (h.f2 e he z) (by simp)
      · omega
    exact (h.dn e he h2).resolve_left (by simp)⟩
theorem BF.next {N : Int → List Nu} {s : Int} {ws : List We} {L : Nat} {fol : List Int} (h : BF N s ws L [] fol) : BF N s ws (L + 1) fol [] :=
  ⟨h.nd, h.root, h.non, h.par, fun e he => by have := h.lv e he; omega, h.f1, fun e he hl => by
    by_cases z : e.2.1 = L + 1
    · exact .inl (h.f2 e he z)
    · exact .inr ((h.dn e he (by omega)).resolve_left (by simp)), fun x hx => by simp at hx, fun e he z => by have := h.lv e he; omega, by simp⟩
theorem BF.push {N : Int → List Nu} {s p y m : Int} {ws : List We} {L : Nat} {todo fol : List Int} {f : Option (Int × Int)} (h : BF N s ws L todo fol) (hp : (p, L, f) ∈ ws) (hm : (y, m) ∈ N p) (hy : y ∉ ws.map (·.1)) : BF N s (ws ++ [(y, L + 1, some (p, m))]) L todo (fol ++ [y]) := by
  have sub : ∀ {e : We}, e ∈ ws → e ∈ ws ++ [(y, L + 1, some (p, m))] := fun he => List.mem_append_left _ he
  have cs : ∀ {e : We}, e ∈ ws ++ [(y, L + 1, some (p, m))] → e ∈ ws ∨ e = (y, L + 1, some (p, m)) := fun he => by
    rcases List.mem_append.mp he with z | z
    · exact .inl z
    · exact .inr (List.mem_singleton.mp z)
  refine ⟨?_, sub h.root, fun z k hz => ?_, fun z k p' m' hz => ?_, fun e he => ?_, fun x hx => ?_, fun e he hl => ?_, fun x hx => ?_, fun e he z => ?_, ?_⟩
  · rw [List.map_append, List.nodup_append]
    refine ⟨h.nd, by simp, fun x hx z hz e => ?_⟩
    have : z = y := by simpa using hz
    subst this
    subst e
    exact hy hx
  · rcases cs hz with z1 | z1
    · exact h.non _ _ z1
    · cases z1
  · rcases cs hz with z1 | z1
    · obtain ⟨j, g, h1, h2, h3⟩ := h.par _ _ _ _ z1
      exact ⟨j, g, sub h1, h2, h3⟩
    · cases z1
      exact ⟨L, f, sub hp, rfl, hm⟩
  · rcases cs he with z1 | z1
    · exact h.lv e z1
    · rw [z1]
      exact Nat.le_refl _
  · obtain ⟨g, hg⟩ := h.td x hx
    exact ⟨g, sub hg⟩
  · rcases cs he with z1 | z1
    · rcases h.dn e z1 hl with a | a
      · exact .inl a
      · refine .inr fun q hq => ?_
        obtain ⟨k, g, h1, h2⟩ := a q hq
        exact ⟨k, g, sub h1, h2⟩
    · rw [z1] at hl
      simp at hl
      omega
  · rcases List.mem_append.mp hx with z | z
    · obtain ⟨g, hg⟩ := h.f1 x z
      exact ⟨g, sub hg⟩
    · rw [List.mem_singleton.mp z]
      exact ⟨some (p, m), List.mem_append_right _ (by simp)⟩
  · rcases cs he with z1 | z1
    · exact List.mem_append_left _ (h.f2 e z1 z)
    · rw [z1]
      exact List.mem_append_right _ (by simp)
  · rw [List.length_append, List.length_append]
    have := h.fl
    simp
    omega
theorem BF.done {N : Int → List Nu} {s p : Int} {ws : List We} {L : Nat} {todo fol : List Int} {f : Option (Int × Int)} (h : BF N s ws L (p :: todo) fol) (hp : (p, L, f) ∈ ws) (hd : ∀ q ∈ N p, ∃ k f, (q.1, k, f) ∈ ws ∧ k ≤ L + 1) : BF N s ws L todo fol :=
  ⟨h.nd, h.root, h.non, h.par, h.lv, fun x hx => h.td x (List.mem_cons_of_mem _ hx), fun e he hl => by
    rcases h.dn e he hl with a | a
    · rcases List.mem_cons.mp a with b | b
      · obtain ⟨x, k, g⟩ := e
        have b : x = p := b
        subst b
        have := (we_one h.nd he hp).1
        subst this
        exact .inr hd
      · exact .inl b
    · exact .inr a, h.f1, h.f2, h.fl⟩
/-! ### as it lies in the heap -/
def WeV (H : Hp) (kv : Key × V) (e : We) : Prop := kv.1 = Sum.inl e.1 ∧ ∃ a, kv.2 = .ref a ∧ H a = some (.tup (weL e))
theorem WeV.tk {H H' : Hp} (k : Tk H H') {kv : Key × V} {e : We} (h : WeV H kv e) : WeV H' kv e := by
  obtain ⟨h1, a, h2, h3⟩ := h
  exact ⟨h1, a, h2, k _ _ h3⟩
theorem wes_tk {H H' : Hp} (k : Tk H H') {kvs : List (Key × V)} {ws : List We} (h : Paired (WeV H) kvs ws) : Paired (WeV H') kvs ws := Paired.mono (fun _ _ x => x.tk k) h
theorem wes_none {H : Hp} {x : Int} : ∀ {kvs : List (Key × V)} {ws : List We}, Paired (WeV H) kvs ws → x ∉ ws.map (·.1) → valV kvs (Sum.inl x) = none
  | _, _, .nil, _ => rfl
  | kv :: kvs, e :: ws, .cons h t, hx => by
    rw [List.map_cons, List.mem_cons, not_or] at hx
    obtain ⟨k, v⟩ := kv
    have h1 : k = Sum.inl e.1 := h.1
    rw [valV_neg (fun z => hx.1 (by rw [h1] at z; exact (Sum.inl.inj z).symm))]
    exact wes_none t hx.2
theorem wes_some {H : Hp} {x : Int} {k : Nat} {f : Option (Int × Int)} : ∀ {kvs : List (Key × V)} {ws : List We}, Paired (WeV H) kvs ws → (ws.map (·.1)).Nodup → (x, k, f) ∈ ws → ∃ a, valV kvs (Sum.inl x) = some (.ref a) ∧ H a = some (.tup (weL (x, k, f)))
  | _, _, .nil, _, hx => by cases hx
  | kv :: kvs, e :: ws, .cons h t, nd, hx => by
    rw [List.map_cons, List.nodup_cons] at nd
    obtain ⟨k', v⟩ := kv
    have h1 : k' = Sum.inl e.1 := h.1
    obtain ⟨a, h2, h3⟩ := h.2
    have h2 : v = .ref a := h2
    rcases List.mem_cons.mp hx with z | z
    · subst z
      exact ⟨a, by rw [valV_pos h1, h2], h3⟩
    · have ne : e.1 ≠ x := fun y => nd.1 (by rw [y]; exact List.mem_map.mpr ⟨_, z, rfl⟩)
      rw [valV_neg (fun y => ne (by rw [h1] at y; exact Sum.inl.inj y))]
      exact wes_some t nd.2 z
theorem putK_new {k : Key} {v : V} : ∀ {kvs : List (Key × V)}, valV kvs k = none → putK kvs k v = kvs ++ [(k, v)] := fun {kvs} h => by
  unfold putK
  rw [if_neg]
  intro g
  rw [List.any_eq_true] at g
  obtain ⟨kv, h1, h2⟩ := g
  have h2 := of_decide_eq_true h2
  induction kvs with
  | nil => cases h1
  | cons x kvs ih =>
    obtain ⟨k', v'⟩ := x
    by_cases e : k' = k
    · rw [valV_pos e] at h
      cases h
    · rw [valV_neg e] at h
      rcases List.mem_cons.mp h1 with z | z
      · rw [z] at h2
        exact e h2
      · exact ih h z
def WalkAt (H : Hp) (D : Addr) (ws : List We) : Prop := ∃ kvs, H D = some (.dK kvs) ∧ Paired (WeV H) kvs ws
theorem WalkAt.same {H H' : Hp} {D : Addr} {ws : List We} (h : WalkAt H D ws) (s : Same H H') : WalkAt H' D ws := by
  obtain ⟨kvs, h1, h2⟩ := h
  exact ⟨kvs, s _ _ h1, wes_tk (Same.tk s) h2⟩
/-- a list or a tuple, walked -/
def iSeq (K : PySem.W.Frag) (tl : TE) : TI := fun σ H R => tl σ H fun x H1 => ∃ a, x = .ref a ∧ (((∃ xs, SqL K H1 a xs) ∧ R (Itl K a) H1) ∨ ((∃ xs, SqT K H1 a xs) ∧ R (Itt K a) H1))
theorem pi_seq {X : Cx} {tg l : Expr} {tl : TE} (hl : PE X l tl) : PI X tg l (iSeq X.K tl) := by
  refine ⟨fun pins s σ H R I h => ?_⟩
  refine thn (hl.run pins s σ H _ I h) fun v s1 ⟨x, H1, I1, r1, q1⟩ => ?_
  obtain ⟨a, e, q1⟩ := q1
  subst e
  cases r1
  rcases q1 with ⟨⟨xs, hq⟩, q⟩ | ⟨⟨xs, hq⟩, q⟩
  · obtain ⟨its, rv, p, hz⟩ := I1.list hq
    refine wpAny_pyIter_list p.isList ?_
    refine ⟨s1.heap.objs.size, [s1.heap.objs.size], _, _, H1, rfl, I1.kept (t' := s1.toks) fun b o e => Heap.get?_push_of_some _ e, turn_list a _, ⟨_, Heap.get?_push_size _ rfl, rfl, rfl⟩, fun b hb => ?_, q⟩
    have e : b = s1.heap.objs.size := by simpa using hb
    subst e
    exact I1.fpOk (Nat.le_refl _) (I1.hok.fresh (Nat.le_refl _))
  · obtain ⟨its, rv, p, hz⟩ := I1.tuple hq
    refine wpAny_pyIter_tuple (show s1.heap.IsTuple a its.toArray from p) ?_
    refine ⟨s1.heap.objs.size, [s1.heap.objs.size], _, _, H1, rfl, I1.kept (t' := s1.toks) fun b o e => Heap.get?_push_of_some _ e, turn_tuple a _, ⟨_, Heap.get?_push_size _ rfl, rfl, rfl⟩, fun b hb => ?_, q⟩
    have e : b = s1.heap.objs.size := by simpa using hb
    subst e
    exact I1.fpOk (Nat.le_refl _) (I1.hok.fresh (Nat.le_refl _))
def spWalkFrom : Sp := fun vs H Q _ => ∃ (u : V) (n : Nat) (s : Int) (N : Int → List Nu), vs = [.int s, u] ∧ AroAt H u N ∧ 0 ≤ s ∧ s < n ∧ n ≤ 100 ∧ (∀ x q, q ∈ N x → 0 ≤ q.1 ∧ q.1 < n) ∧ ∀ D ws H', Same H H' → WalkAt H' D ws → WF N s ws → ws.length ≤ n → Q (.ref D) H'
section
variable {P : Program} {w : World} {K : PySem.W.Frag} {mg : Str → Option Value} {base : Heap}
end
/-! ### the way back -/
inductive Way (N : Int → List Nu) (e : Int) : Int → List Int → List Int → Prop
  | one : Way N e e [e] []
  | cons {c p m : Int} {qs ns : List Int} : Way N e c qs ns → (c, m) ∈ N p → p ∉ qs → Way N e p (p :: qs) (m :: ns)
theorem Way.len {N : Int → List Nu} {e c : Int} {qs ns : List Int} (h : Way N e c qs ns) : qs.length = ns.length + 1 := by
  induction h with
  | one => rfl
  | cons _ _ _ ih => rw [List.length_cons, List.length_cons, ih]
theorem Way.nodup {N : Int → List Nu} {e c : Int} {qs ns : List Int} (h : Way N e c qs ns) : qs.Nodup := by
  induction h with
  | one => simp
  | cons _ _ hp ih => exact List.nodup_cons.mpr ⟨hp, ih⟩
def spWayTo : Sp := fun vs H Q _ => ∃ (e s : Int) (D : Addr) (ws : List We) (N : Int → List Nu) (k : Nat) (f : Option (Int × Int)), vs = [.int e, .ref D] ∧ WalkAt H D ws ∧ WF N s ws ∧ (e, k, f) ∈ ws ∧ k ≤ 200 ∧ ∀ r a b qs ns H', Same H H' → H' r = some (.tup [.ref a, .ref b]) → H' a = some (.tup (qs.map V.int)) → H' b = some (.tup (ns.map V.int)) → Way N e s qs ns → ns.length = k → Q (.ref r) H'
section
variable {P : Program} {w : World} {K : PySem.W.Frag} {mg : Str → Option Value} {base : Heap}
end
/-! ### own refusals -/
/-- a class of refusals, at D, named x, under WebError, at W -/
structure RefT (K : PySem.W.Frag) (mg : Str → Option Value) (x : Str) (D W : Addr) : Prop where
  gD : mg x = some (.ref D)
  gW : mg "WebError" = some (.ref W)
  exc : PySem.W.excIn K D [.type "ValueError", .type "Exception", .type "BaseException", .type "object"] "ValueError.__new__" = true
  kD : PySem.W.keepIn K (.ref D) = true
  tD : PySem.W.typeIn K (.ref D) = some (.type "type")
  ec : ExcC K D
  web : PySem.W.exmOne K (.ref D) (.ref W) = some true
/-- what isinstance tells of its refusals: of the class named x, at C, b -/
structure KitT (K : PySem.W.Frag) (mg : Str → Option Value) (D : Addr) (x : Str) (C : Addr) (b : Bool) : Prop where
  g : mg x = some (.ref C)
  k : PySem.W.kitOne K (.ref D) (.ref C) = some b
section
variable {X : Cx}
def rIsX (K : PySem.W.Frag) (a : Addr) (cls : Value) (d : Option Addr) : List V → Hp → VK → Prop := fun xs H Q => ∃ D, ExcC K D ∧ cls = .ref D ∧ d = none ∧ rIsE K D a xs H Q
theorem call_isX {a : Addr} {cls : Value} {d : Option Addr} {oe : Obj} {pn : List (Addr × Obj)} (hz : Zc cls d oe) (hf : ∃ vs, oe.data = .fields vs) : CallR (X.suite a ((a, oe) :: pn)) (.builtin "isinstance") (rIsX X.K a cls d) := by
  intro pins s σ H xs us Q I r h
  obtain ⟨D, C, rfl, rfl, h⟩ := h
  exact call_isE C hz hf pins s σ H xs us Q I r h
end
def DfX (P : Program) (w : World) (K : PySem.W.Frag) (mg : Str → Option Value) (base : Heap) (k : Nat) (x : Str) (ps : List Str) (sp : Sp) : Prop :=
  ∃ (f : Addr) (fd : FuncData), FnOk P w K mg base (L2.CX P w) k f fd ps sp ∧ mg x = some (.ref f) ∧ PySem.W.keepIn K (.ref f) = true ∧ Binds K fd ps []
theorem DfX.of {P : Program} {w : World} {K : PySem.W.Frag} {mg : Str → Option Value} {base : Heap} {x : Str} {st : Stmt} {f : Addr} {fd : FuncData} {k : Nat} {ps : List Str} {sp : Sp} (g : mg x = some (.ref f)) (F : Fun K x x st f fd) (G : FnOk P w K mg base (L2.CX P w) k f fd ps sp)
    (h : ∀ (kV doc pm : Value) (an : Option Addr) (cdv ct : Value) (us : List Value), us.length = ps.length → bindArgs (PySem.W.fnOf x x (defArgs st) (defBody st) (defScope st) .none kV doc pm an cdv ct) ⟨us, []⟩ = pure (ps.zip us)) : DfX P w K mg base k x ps sp :=
  ⟨f, fd, G, g, F.kp, F.binds h⟩
/-- where a class of refusals stands -/
structure ErrK (K : PySem.W.Frag) (x : Str) (D W : Addr) : Prop where
  ns : PySem.W.nsIn K mainGlobals x = some (some (.ref D))
  nw : PySem.W.nsIn K mainGlobals "WebError" = some (some (.ref W))
  exc : PySem.W.excIn K D [.type "ValueError", .type "Exception", .type "BaseException", .type "object"] "ValueError.__new__" = true
  kD : PySem.W.keepIn K (.ref D) = true
  tD : PySem.W.typeIn K (.ref D) = some (.type "type")
  ec : ExcC K D
  web : PySem.W.exmOne K (.ref D) (.ref W) = some true
theorem errK_mk {K : PySem.W.Frag} {x : Str} {D W : Addr} (p1 : PySem.W.nsIn K mainGlobals x = some (some (.ref D))) (p2 : PySem.W.nsIn K mainGlobals "WebError" = some (some (.ref W)))
    (p3 : PySem.W.excIn K D [.type "ValueError", .type "Exception", .type "BaseException", .type "object"] "ValueError.__new__" = true) (p4 : PySem.W.keepIn K (.ref D) = true) (p5 : PySem.W.typeIn K (.ref D) = some (.type "type"))
    (p6 : PySem.W.findIn K (.ref D) "__getattribute__" = some (some (.builtin "BaseException.__getattribute__"))) (p7 : PySem.W.findIn K (.ref D) "__getattr__" = some none) (p8 : PySem.W.subIn K (.ref D) (.type "BaseException") = some true) (p9 : PySem.W.hasDictIn K D = true)
    (p10 : PySem.W.findIn K (.ref D) "__class__" = some (some (.builtin "object.__class__"))) (p11 : PySem.W.specialIn K (.builtin "object.__class__") "__get__" = some (some (.builtin "getset_descriptor.__get__"))) (p12 : PySem.W.takesIn K (.builtin "object.__class__") = some true) (p13 : PySem.W.mroIn K D (.type "object") = some true)
    (p14 : PySem.W.subIn K (.ref W) (.type "BaseException") = some true) (p15 : PySem.W.hasDictIn K W = true) (p16 : PySem.W.typeIn K (.ref W) = some (.type "type")) (p17 : PySem.W.subIn K (.ref D) (.ref W) = some true) : ErrK K x D W :=
  ⟨p1, p2, p3, p4, p5, ⟨p6, p7, p8, p9, p10, p11, p12, p13⟩, PySem.W.exm_ref p14 p15 p16 p17⟩
theorem ErrK.ref {K : PySem.W.Frag} {mg : Str → Option Value} {h : Heap} {x : Str} {D W : Addr} (e : ErrK K x D W) (X : K.In h) (G : h.Ns mainGlobals mg) : RefT K mg x D W :=
  ⟨PySem.W.mg_of X G e.ns, PySem.W.mg_of X G e.nw, e.exc, e.kD, e.tD, e.ec, e.web⟩
structure KitK (K : PySem.W.Frag) (D : Addr) (x : Str) (C : Addr) (b : Bool) : Prop where
  ns : PySem.W.nsIn K mainGlobals x = some (some (.ref C))
  k : PySem.W.kitOne K (.ref D) (.ref C) = some b
theorem kitK_mk {K : PySem.W.Frag} {D : Addr} {x : Str} {C : Addr} {b : Bool} (p1 : PySem.W.nsIn K mainGlobals x = some (some (.ref C))) (p2 : PySem.W.kitOne K (.ref D) (.ref C) = some b) : KitK K D x C b := ⟨p1, p2⟩
theorem KitK.kit {K : PySem.W.Frag} {mg : Str → Option Value} {h : Heap} {D : Addr} {x : Str} {C : Addr} {b : Bool} (e : KitK K D x C b) (X : K.In h) (G : h.Ns mainGlobals mg) : KitT K mg D x C b := ⟨PySem.W.mg_of X G e.ns, e.k⟩
/-! ### min of a list of rows of ints: one of them -/
def rMinL (K : PySem.W.Frag) : List V → Hp → VK → Prop := fun vs H Q => ∃ (a : Addr) (xs : List V) (ps : List (List Int)), vs = [V.ref a] ∧ SqL K H a xs ∧ Paired (IntsV H) xs ps ∧ ps ≠ [] ∧ ∀ x p, IntsV H x p → p ∈ ps → Q x H
def tupI (p : List Int) : PySem.W.Tup Int := ⟨p⟩
theorem tupI_D (p : List Int) : PySem.W.Datum.toD (tupI p) = intsD p := rfl
theorem minL_mem {α : Type} [DecidableEq α] [PySem.W.DatumOrd α] : ∀ (xs : List α) (x : α), PySem.W.minOf x xs ∈ x :: xs
  | [], x => by simp [PySem.W.minOf]
  | y :: xs, x => by
    have e : PySem.W.minOf x (y :: xs) = PySem.W.minOf (if PySem.W.DatumOrd.lt y x = true then y else x) xs := rfl
    rw [e]
    have h := minL_mem xs (if PySem.W.DatumOrd.lt y x = true then y else x)
    rcases List.mem_cons.mp h with z | z
    · rw [z]
      split <;> simp
    · exact List.mem_cons_of_mem _ (List.mem_cons_of_mem _ z)
theorem dp_rowsL {K : PySem.W.Frag} {H : Hp} : ∀ {xs : List V} {ps : List (List Int)}, Paired (IntsV H) xs ps → DpAll K H xs (ps.map intsD)
  | _, _, .nil => .nil
  | _, _, .cons r t => .cons (IntsV.dp r) (dp_rowsL t)
theorem deep_rowsL : ∀ ps : List (List Int), PyData.depthAll (ps.map intsD) ≤ 1
  | [] => by simp [PyData.depthAll]
  | p :: ps => by
    have h := deep_rowsL ps
    rw [List.map_cons, PyData.depthAll, deep_intsD]
    omega
theorem cr_minL {X : Cx} (hc : X.calm = true) (hu : X.A.units + 65 < cLine) : CallR X (.builtin "min") (rMinL X.K) := by
  intro pins s σ H vs us Q I r h
  obtain ⟨a, xs, ps, rfl, hs, hp, hne, q⟩ := h
  obtain ⟨its, rv, hl, _⟩ := I.list hs
  rw [Vals.ref1 r]
  obtain ⟨p0, ps', rfl⟩ := List.exists_cons_of_ne_nil hne
  obtain ⟨as, hr⟩ := Dp.readsAll I _ _ _ (dp_rowsL (K := X.K) hp) rv
  have hr' : ReadsAll s.heap its.toArray.toList (intsD p0 :: ps'.map intsD) as := hr
  have md : (p0 :: ps').map intsD = ((p0 :: ps').map tupI).map PySem.W.Datum.toD := by rw [List.map_map]; rfl
  refine PySem.W.min_list_data (I.ok.hd hc) hl.isList hr' (by have := PySem.W.alikeAll_datum ((p0 :: ps').map tupI); rw [← md] at this; exact this) (by have := deep_rowsL (p0 :: ps'); rw [List.map_cons] at this; omega) fun i v h' tk bs hv rd hk => ?_
  obtain ⟨m, m1, m2⟩ : ∃ m, m ∈ p0 :: ps' ∧ PySem.W.minOf (tupI p0) (ps'.map tupI) = tupI m := by
    have h := minL_mem (ps'.map tupI) (tupI p0)
    rw [← List.map_cons] at h
    obtain ⟨m, hm, e⟩ := List.mem_map.mp h
    exact ⟨m, hm, e.symm⟩
  have em : PySem.W.minD (intsD p0) (ps'.map intsD) = intsD m := by
    have e1 : ps'.map intsD = (ps'.map tupI).map PySem.W.Datum.toD := by rw [List.map_map]; rfl
    have e2 := PySem.W.minD_map (tupI p0) (ps'.map tupI)
    rw [m2, ← e1] at e2
    exact e2
  rw [em] at rd
  have hv' : its[i]? = some v := by simpa using hv
  obtain ⟨x, ex, rx⟩ := Paired.at' rv hv'
  obtain ⟨p, ep, t, rfl, ht⟩ := Paired.at hp ex
  exact ⟨.ref t, H, I.kept hk, rx, q _ p ⟨t, rfl, ht⟩ (List.mem_of_getElem? ep)⟩
/-! ### several sides: colourings (mathematics) -/
structure Gr (hs : List Int) (N : Int → List Int) : Prop where
  rise : hs.Pairwise (· < ·)
  nd : ∀ h ∈ hs, (N h).Nodup
  sub : ∀ h ∈ hs, ∀ x ∈ N h, x ∈ hs
  sym : ∀ h ∈ hs, ∀ x ∈ N h, h ∈ N x
  irr : ∀ h ∈ hs, h ∉ N h
theorem rise_nd {hs : List Int} (h : hs.Pairwise (· < ·)) : hs.Nodup := h.imp fun h => by omega
def Col (k : Int) (hs : List Int) (N : Int → List Int) (c : Int → Int) : Prop := (∀ h ∈ hs, 0 ≤ c h ∧ c h < k) ∧ ∀ h ∈ hs, ∀ x ∈ N h, c h ≠ c x
theorem Col.more {k j : Int} {hs : List Int} {N : Int → List Int} {c : Int → Int} (h : Col k hs N c) (kj : k ≤ j) : Col j hs N c := ⟨fun x hx => by have := h.1 x hx; omega, h.2⟩
/-- a row of sides of the first heads that leads on to sides of all -/
def Ext (k : Int) (hs : List Int) (N : Int → List Int) (cs : List Int) : Prop := ∃ c, Col k hs N c ∧ cs = (hs.take cs.length).map c
/-- sides 0, 1, .. u - 1 are just those there -/
def Full (cs : List Int) (u : Int) : Prop := ∀ x, x ∈ cs ↔ 0 ≤ x ∧ x < u
theorem Full.nil : Full [] 0 := fun x => by
  constructor
  · intro h
    cases h
  · intro h
    omega
theorem Full.more {cs : List Int} {u s : Int} (h : Full cs u) (u0 : 0 ≤ u) (s0 : 0 ≤ s) (su : s ≤ u) : Full (cs ++ [s]) (if s = u then u + 1 else u) := fun x => by
  rw [List.mem_append, List.mem_singleton, h x]
  split <;> omega
/-- sides of the first heads that hold among them -/
def Prt (k : Int) (hs : List Int) (N : Int → List Int) (cs : List Int) : Prop := cs.length ≤ hs.length ∧ (∀ s ∈ cs, 0 ≤ s ∧ s < k) ∧ ∀ (i j : Nat) (h x s t : Int), hs[i]? = some h → hs[j]? = some x → cs[i]? = some s → cs[j]? = some t → x ∈ N h → s ≠ t
theorem Prt.nil {k : Int} {hs : List Int} {N : Int → List Int} : Prt k hs N [] := ⟨Nat.zero_le _, fun s hs => (by cases hs), fun i j h x s t _ _ e => (by cases e)⟩
theorem Prt.more {k : Int} {hs : List Int} {N : Int → List Int} {cs : List Int} (G : Gr hs N) (p : Prt k hs N cs) {hd s : Int} (e : hs[cs.length]? = some hd) (s0 : 0 ≤ s) (sk : s < k) (no : ∀ (i : Nat) (x t : Int), hs[i]? = some x → cs[i]? = some t → x ∈ N hd → t ≠ s) : Prt k hs N (cs ++ [s]) := by
  have hm := List.mem_of_getElem? e
  have hl := (List.getElem?_eq_some_iff.mp e).1
  refine ⟨by rw [List.length_append]; exact hl, fun t ht => ?_, fun i j h x a b h1 h2 h3 h4 hx => ?_⟩
  · rcases List.mem_append.mp ht with z | z
    · exact p.2.1 t z
    · rw [List.mem_singleton.mp z]; exact ⟨s0, sk⟩
  · have hi : i ≤ cs.length := by have := (List.getElem?_eq_some_iff.mp h3).1; rw [List.length_append] at this; simp at this; omega
    have hj : j ≤ cs.length := by have := (List.getElem?_eq_some_iff.mp h4).1; rw [List.length_append] at this; simp at this; omega
    by_cases ei : i = cs.length
    · subst ei
      rw [e] at h1
      cases h1
      rw [List.getElem?_append_right (Nat.le_refl _), Nat.sub_self] at h3
      cases h3
      by_cases ej : j = cs.length
      · subst ej
        rw [e] at h2
        cases h2
        exact absurd hx (G.irr _ hm)
      · rw [List.getElem?_append_left (by omega)] at h4
        exact fun z => no j x b h2 h4 hx z.symm
    · rw [List.getElem?_append_left (by omega)] at h3
      by_cases ej : j = cs.length
      · subst ej
        rw [e] at h2
        cases h2
        rw [List.getElem?_append_right (Nat.le_refl _), Nat.sub_self] at h4
        cases h4
        exact no i h a h1 h3 (G.sym _ (List.mem_of_getElem? h1) _ hx)
      · rw [List.getElem?_append_left (by omega)] at h4
        exact p.2.2 i j h x a b h1 h2 h3 h4 hx
theorem Ext.len {k : Int} {hs : List Int} {N : Int → List Int} {cs : List Int} (h : Ext k hs N cs) : cs.length ≤ hs.length := by
  obtain ⟨c, _, e⟩ := h
  have := congrArg List.length e
  rw [List.length_map, List.length_take] at this
  omega
theorem Ext.at {k : Int} {hs : List Int} {N : Int → List Int} {cs : List Int} {c : Int → Int} (e : cs = (hs.take cs.length).map c) {i : Nat} {x t : Int} (h1 : hs[i]? = some x) (h2 : cs[i]? = some t) : t = c x := by
  have hi := (List.getElem?_eq_some_iff.mp h2).1
  rw [e, List.getElem?_map, List.getElem?_take, if_pos hi, h1] at h2
  exact (Option.some.inj h2).symm
theorem Ext.prt {k : Int} {hs : List Int} {N : Int → List Int} {cs : List Int} (h : Ext k hs N cs) : Prt k hs N cs := by
  obtain ⟨c, hc, e⟩ := id h
  refine ⟨h.len, fun s hs' => ?_, fun i j x y s t h1 h2 h3 h4 hx => ?_⟩
  · rw [e] at hs'
    obtain ⟨x, hx, rfl⟩ := List.mem_map.mp hs'
    exact hc.1 x (List.mem_of_mem_take hx)
  · rw [Ext.at (k := k) (N := N) e h1 h3, Ext.at (k := k) (N := N) e h2 h4]
    exact hc.2 x (List.mem_of_getElem? h1) y hx
theorem Ext.less {k : Int} {hs : List Int} {N : Int → List Int} {cs : List Int} {s : Int} (h : Ext k hs N (cs ++ [s])) : Ext k hs N cs := by
  obtain ⟨c, hc, e⟩ := h
  refine ⟨c, hc, ?_⟩
  have := congrArg (List.take cs.length) e
  rw [List.take_append_of_le_length (Nat.le_refl _), List.take_length, ← List.map_take, List.take_take, List.length_append, Nat.min_eq_left (by omega)] at this
  exact this
/-- of the sides that nobody has yet the first is enough -/
theorem Ext.step {k : Int} {hs : List Int} {N : Int → List Int} {cs : List Int} {u hd : Int} (G : Gr hs N) (u0 : 0 ≤ u) (f : Full cs u) (h : Ext k hs N cs) (e : hs[cs.length]? = some hd) : ∃ s, 0 ≤ s ∧ s < k ∧ s ≤ u ∧ (∀ (i : Nat) (x t : Int), hs[i]? = some x → cs[i]? = some t → x ∈ N hd → t ≠ s) ∧ Ext k hs N (cs ++ [s]) := by
  obtain ⟨c, hc, ec⟩ := h
  have hm := List.mem_of_getElem? e
  have hl := (List.getElem?_eq_some_iff.mp e).1
  have key : ∀ c : Int → Int, Col k hs N c → cs = (hs.take cs.length).map c → c hd ≤ u → ∃ s, 0 ≤ s ∧ s < k ∧ s ≤ u ∧ (∀ (i : Nat) (x t : Int), hs[i]? = some x → cs[i]? = some t → x ∈ N hd → t ≠ s) ∧ Ext k hs N (cs ++ [s]) := fun c hc ec hu => by
    refine ⟨c hd, (hc.1 hd hm).1, (hc.1 hd hm).2, hu, fun i x t h1 h2 hx => ?_, c, hc, ?_⟩
    · rw [Ext.at (k := k) (N := N) ec h1 h2]
      exact fun z => hc.2 hd hm x hx z.symm
    · rw [List.length_append]
      show cs ++ [c hd] = (hs.take (cs.length + 1)).map c
      rw [List.take_add_one, e, List.map_append, ← ec]
      rfl
  by_cases hu : c hd ≤ u
  · exact key c hc ec hu
  · have h0 := hc.1 hd hm
    let d : Int → Int := fun h => if c h = u then c hd else if c h = c hd then u else c h
    have hd' : ∀ h, d h = if c h = u then c hd else if c h = c hd then u else c h := fun _ => rfl
    refine key d ⟨fun h hh => ?_, fun h hh x hx z => ?_⟩ ?_ ?_
    · have := hc.1 h hh
      rw [hd']
      split
      · exact h0
      · split <;> omega
    · have := hc.2 h hh x hx
      rw [hd', hd'] at z
      split at z <;> split at z <;> (try split at z) <;> (try split at z) <;> omega
    · have : (hs.take cs.length).map d = (hs.take cs.length).map c := by
        refine List.map_congr_left fun x hx => ?_
        have hcx : c x ∈ cs := by rw [ec]; exact List.mem_map_of_mem hx
        have := (f _).mp hcx
        rw [hd', if_neg (by omega), if_neg (by omega)]
      rw [this]
      exact ec
    · rw [hd']
      split
      · omega
      · simp
/-- sides of all the heads -/
def look (hs cs : List Int) (x : Int) : Int := (hs.zip cs).foldr (fun p r => if p.1 = x then p.2 else r) 0
theorem look_at : ∀ {hs cs : List Int} {i : Nat} {x s : Int}, hs.Nodup → hs[i]? = some x → cs[i]? = some s → look hs cs x = s
  | [], _, _, _, _, _, h, _ => by simp at h
  | _ :: _, [], _, _, _, _, _, h => by simp at h
  | h :: hs, c :: cs, 0, x, s, _, h1, h2 => by
    simp at h1 h2
    subst h1
    subst h2
    show (if h = h then c else _) = c
    rw [if_pos rfl]
  | h :: hs, c :: cs, i + 1, x, s, nd, h1, h2 => by
    simp at h1 h2
    obtain ⟨n1, n2⟩ := List.nodup_cons.mp nd
    show (if h = x then c else look hs cs x) = s
    rw [if_neg (fun z => n1 (by rw [z]; exact List.mem_of_getElem? h1))]
    exact look_at n2 h1 h2
theorem Prt.col {k : Int} {hs : List Int} {N : Int → List Int} {cs : List Int} (G : Gr hs N) (p : Prt k hs N cs) (l : cs.length = hs.length) : Col k hs N (look hs cs) := by
  have nd := rise_nd G.rise
  have at' : ∀ x ∈ hs, ∃ (i : Nat) (s : Int), hs[i]? = some x ∧ cs[i]? = some s ∧ look hs cs x = s := fun x hx => by
    obtain ⟨i, hi⟩ := List.getElem?_of_mem hx
    have := (List.getElem?_eq_some_iff.mp hi).1
    exact ⟨i, cs[i]'(by omega), hi, List.getElem?_eq_getElem _, look_at nd hi (List.getElem?_eq_getElem _)⟩
  refine ⟨fun x hx => ?_, fun x hx y hy => ?_⟩
  · obtain ⟨i, s, _, h2, e⟩ := at' x hx
    rw [e]
    exact p.2.1 s (List.mem_of_getElem? h2)
  · obtain ⟨i, s, h1, h2, e⟩ := at' x hx
    obtain ⟨j, t, g1, g2, e'⟩ := at' y (G.sub x hx y hy)
    rw [e, e']
    exact p.2.2 i j x y s t h1 g1 h2 g2 hy
theorem look_map {hs cs : List Int} (nd : hs.Nodup) (l : cs.length = hs.length) : cs = hs.map (look hs cs) := by
  apply List.ext_getElem?
  intro i
  rw [List.getElem?_map]
  cases e : hs[i]? with
  | none =>
    have := List.getElem?_eq_none_iff.mp e
    exact List.getElem?_eq_none_iff.mpr (by omega)
  | some x =>
    have hi := (List.getElem?_eq_some_iff.mp e).1
    have e2 : cs[i]? = some (cs[i]'(by omega)) := List.getElem?_eq_getElem _
    rw [e2, Option.map_some, look_at nd e e2]
theorem Prt.ext {k : Int} {hs : List Int} {N : Int → List Int} {cs : List Int} (G : Gr hs N) (p : Prt k hs N cs) (l : cs.length = hs.length) : Ext k hs N cs :=
  ⟨look hs cs, p.col G l, by rw [l, List.take_length]; exact look_map (rise_nd G.rise) l⟩
theorem ext_nil {k : Int} {hs : List Int} {N : Int → List Int} : Ext k hs N [] ↔ ∃ c, Col k hs N c := ⟨fun ⟨c, h, _⟩ => ⟨c, h⟩, fun ⟨c, h⟩ => ⟨c, h, rfl⟩⟩
/-! ### several sides: foes as they lie in the heap -/
def kF (ks : List Int) (f : Int → V) : List (Key × V) := ks.map fun k => (Sum.inl k, f k)
theorem kF_val {f : Int → V} {x : Int} : ∀ {ks : List Int}, valV (kF ks f) (Sum.inl x) = if x ∈ ks then some (f x) else none
  | [] => by rw [if_neg (by simp)]; rfl
  | k :: ks => by
    show valV ((Sum.inl k, f k) :: kF ks f) (Sum.inl x) = _
    by_cases e : k = x
    · rw [valV_pos (p := (Sum.inl k, f k)) (by show (Sum.inl k : Key) = _; rw [e]), if_pos (by rw [e]; simp), e]
    · rw [valV_neg (p := (Sum.inl k, f k)) (by intro z; exact e (Sum.inl.inj z)), kF_val]
      have : (x ∈ k :: ks) ↔ x ∈ ks := by
        rw [List.mem_cons]
        exact ⟨fun h => h.resolve_left fun z => e z.symm, .inr⟩
      by_cases hx : x ∈ ks
      · rw [if_pos hx, if_pos (this.mpr hx)]
      · rw [if_neg hx, if_neg (fun z => hx (this.mp z))]
theorem kF_len (ks : List Int) (f : Int → V) : (kF ks f).length = ks.length := List.length_map _
theorem kF_keys (ks : List Int) (f : Int → V) : (kF ks f).map (fun kv => kV kv.1) = ks.map V.int := by
  unfold kF
  rw [List.map_map]
  rfl
theorem kF_at {ks : List Int} {f : Int → V} {i : Nat} {k : Key} {v : V} (h : (kF ks f)[i]? = some (k, v)) : ∃ x, ks[i]? = some x ∧ k = Sum.inl x ∧ v = f x := by
  unfold kF at h
  rw [List.getElem?_map] at h
  obtain ⟨x, e, z⟩ := Option.map_eq_some_iff.mp h
  injection z with z1 z2
  exact ⟨x, e, z1.symm, z2.symm⟩
theorem kF_congr {ks : List Int} {f g : Int → V} (h : ∀ x ∈ ks, f x = g x) : kF ks f = kF ks g := List.map_congr_left fun x hx => by rw [h x hx]
theorem kF_new {ks : List Int} {f : Int → V} {x : Int} {v : V} (h : x ∉ ks) : putK (kF ks f) (Sum.inl x) v = kF (ks ++ [x]) (fun k => if k = x then v else f k) := by
  rw [putK_new (by rw [kF_val, if_neg h])]
  unfold kF
  rw [List.map_append]
  congr 1
  · exact List.map_congr_left fun k hk => by
      show _ = (Sum.inl k, if k = x then v else f k)
      rw [if_neg (fun z => h (by rw [← z]; exact hk))]
  · show _ = [(Sum.inl x, if x = x then v else f x)]
    rw [if_pos rfl]
theorem kF_old {ks : List Int} {f : Int → V} {x : Int} {v : V} (h : x ∈ ks) : putK (kF ks f) (Sum.inl x) v = kF ks (fun k => if k = x then v else f k) := by
  unfold putK
  have : (kF ks f).any (fun kv => decide (kv.1 = Sum.inl x)) = true := by
    rw [List.any_eq_true]
    exact ⟨(Sum.inl x, f x), List.mem_map_of_mem h, by simp⟩
  rw [if_pos this]
  unfold kF
  rw [List.map_map]
  refine List.map_congr_left fun k _ => ?_
  by_cases e : k = x
  · subst e
    simp
  · have : ¬ ((Sum.inl k : Key) = Sum.inl x) := fun z => e (Sum.inl.inj z)
    simp [e]
def tru : Int → V := fun _ => .bl true
structure Foes (H : Hp) (F : Addr) (hs : List Int) (I : Int → Addr) (N : Int → List Int) : Prop where
  at' : H F = some (.dK (kF hs fun h => .ref (I h)))
  each : ∀ h ∈ hs, H (I h) = some (.dK (kF (N h) tru))
theorem Foes.same {H H' : Hp} {F : Addr} {hs : List Int} {I : Int → Addr} {N : Int → List Int} (h : Foes H F hs I N) (s : Same H H') : Foes H' F hs I N := ⟨s _ _ h.at', fun x hx => s _ _ (h.each x hx)⟩
theorem Foes.get {H : Hp} {F : Addr} {hs : List Int} {I : Int → Addr} {N : Int → List Int} (h : Foes H F hs I N) {x : Int} (hx : x ∈ hs) : DGet H F (.int x) (some (.ref (I x))) := by
  have := DGet.k (k := Sum.inl x) h.at'
  rw [kF_val, if_pos hx] at this
  exact this
/-- sides of the first heads, as a dict -/
def kZ (hs cs : List Int) : List (Key × V) := (hs.zip cs).map fun p => (Sum.inl p.1, V.int p.2)
theorem kZ_len {hs cs : List Int} (l : cs.length ≤ hs.length) : (kZ hs cs).length = cs.length := by
  unfold kZ
  rw [List.length_map, List.length_zip]
  omega
theorem kZ_val : ∀ {hs cs : List Int} {x : Int} {o : Option V}, hs.Nodup → valV (kZ hs cs) (Sum.inl x) = o → (o = none ∧ ∀ (i : Nat) (s : Int), hs[i]? = some x → cs[i]? = some s → False) ∨ ∃ (i : Nat) (s : Int), hs[i]? = some x ∧ cs[i]? = some s ∧ o = some (.int s)
  | [], cs, x, o, _, h => .inl ⟨h.symm, fun i s e => by simp at e⟩
  | h :: hs, [], x, o, _, e => .inl ⟨e.symm, fun i s _ e => by simp at e⟩
  | h :: hs, c :: cs, x, o, nd, e => by
    obtain ⟨n1, n2⟩ := List.nodup_cons.mp nd
    have e : valV ((Sum.inl h, V.int c) :: kZ hs cs) (Sum.inl x) = o := e
    by_cases ex : h = x
    · rw [valV_pos (p := (Sum.inl h, V.int c)) (by rw [ex])] at e
      exact .inr ⟨0, c, by rw [ex]; rfl, rfl, e.symm⟩
    · rw [valV_neg (p := (Sum.inl h, V.int c)) (by intro z; exact ex (Sum.inl.inj z))] at e
      rcases kZ_val n2 e with ⟨h1, h2⟩ | ⟨i, s, h1, h2, h3⟩
      · refine .inl ⟨h1, fun i s e1 e2 => ?_⟩
        cases i with
        | zero =>
          simp at e1
          exact ex e1
        | succ i => exact h2 i s (by simpa using e1) (by simpa using e2)
      · exact .inr ⟨i + 1, s, by simpa using h1, by simpa using h2, h3⟩
theorem kZ_at {hs cs : List Int} {i : Nat} {k : Key} {v : V} (h : (kZ hs cs)[i]? = some (k, v)) : ∃ x s, hs[i]? = some x ∧ cs[i]? = some s ∧ k = Sum.inl x ∧ v = .int s := by
  unfold kZ at h
  rw [List.getElem?_map] at h
  obtain ⟨p, e, z⟩ := Option.map_eq_some_iff.mp h
  injection z with z1 z2
  rw [List.getElem?_zip_eq_some] at e
  exact ⟨p.1, p.2, e.1, e.2, z1.symm, z2.symm⟩
theorem mergeK_nil {κ : List (Key × V)} : ∀ {l : List (Key × V)}, (l.map (·.1)).Nodup → (∀ p ∈ l, valV κ p.1 = none) → mergeK κ l = κ ++ l := by
  intro l
  induction l generalizing κ with
  | nil => intro _ _; show κ = κ ++ []; rw [List.append_nil]
  | cons p l ih =>
    intro nd h
    rw [List.map_cons, List.nodup_cons] at nd
    show mergeK (putK κ p.1 p.2) l = _
    rw [putK_new (h p (by simp)), ih nd.2 fun q hq => ?_]
    · simp
    · rw [← putK_new (h p (by simp)), valV_put, if_neg (fun z => nd.1 (by rw [← z]; exact List.mem_map_of_mem hq))]
      exact h q (List.mem_cons_of_mem _ hq)
theorem fst_zip_sub : ∀ hs cs : List Int, ((hs.zip cs).map (·.1)).Sublist hs
  | [], _ => by simp
  | h :: hs, [] => by simp
  | h :: hs, c :: cs => by
    show (h :: (hs.zip cs).map (·.1)).Sublist (h :: hs)
    exact (fst_zip_sub hs cs).cons₂ h
theorem kZ_keys_nd {hs cs : List Int} (nd : hs.Nodup) : ((kZ hs cs).map (·.1)).Nodup := by
  unfold kZ
  rw [List.map_map]
  have e : (hs.zip cs).map ((fun x : Key × V => x.1) ∘ fun p => ((Sum.inl p.1 : Key), V.int p.2)) = ((hs.zip cs).map (·.1)).map Sum.inl := by rw [List.map_map]; rfl
  rw [e]
  refine List.pairwise_map.mpr (List.Pairwise.imp (R := (· ≠ ·)) (fun h z => h (Sum.inl.inj z)) ?_)
  exact List.Pairwise.sublist (fst_zip_sub hs cs) nd
theorem kF_nd {ks : List Int} {f : Int → V} (nd : ks.Nodup) : ((kF ks f).map (·.1)).Nodup := by
  unfold kF
  rw [List.map_map]
  refine List.pairwise_map.mpr (nd.imp fun h z => h (Sum.inl.inj z))
theorem nd65_at {xs : List Int} {i j : Nat} {x : Int} (nd : xs.Nodup) (hi : xs[i]? = some x) (hj : xs[j]? = some x) : i = j := by
  obtain ⟨l1, e1⟩ := List.getElem?_eq_some_iff.mp hi
  obtain ⟨l2, e2⟩ := List.getElem?_eq_some_iff.mp hj
  have p := List.pairwise_iff_getElem.mp nd
  rcases Nat.lt_trichotomy i j with h | h | h
  · exact absurd (e1.trans e2.symm) (p i j l1 l2 h)
  · exact h
  · exact absurd (e2.trans e1.symm) (p j i l2 l1 h)
theorem zip_snoc : ∀ {hs cs : List Int} {x s : Int}, hs[cs.length]? = some x → hs.zip (cs ++ [s]) = hs.zip cs ++ [(x, s)]
  | [], cs, x, s, h => by simp at h
  | h :: hs, [], x, s, e => by
    simp at e
    subst e
    cases hs <;> rfl
  | h :: hs, c :: cs, x, s, e => by
    have := zip_snoc (hs := hs) (cs := cs) (x := x) (s := s) (by simpa using e)
    show (h, c) :: hs.zip (cs ++ [s]) = (h, c) :: (hs.zip cs ++ [(x, s)])
    rw [this]
theorem kZ_snoc {hs cs : List Int} {x s : Int} (nd : hs.Nodup) (e : hs[cs.length]? = some x) : putK (kZ hs cs) (Sum.inl x) (.int s) = kZ hs (cs ++ [s]) := by
  have l := (List.getElem?_eq_some_iff.mp e).1
  have hn : valV (kZ hs cs) (Sum.inl x) = none := by
    rcases kZ_val nd (x := x) (cs := cs) rfl with h | ⟨i, s, h1, h2, _⟩
    · exact h.1
    · have hi := (List.getElem?_eq_some_iff.mp h2).1
      have := nd65_at nd h1 e
      omega
  rw [putK_new hn]
  unfold kZ
  rw [zip_snoc e, List.map_append]
  rfl
/-! ### dicts that are locked while they are walked -/
theorem rd_lock {H : Hp} {d a : Addr} {u : HO} {od : Obj} {kvs : List (Key × V)} (hd : H d = some u) (ha : H a = some (.dK kvs)) : Rd (upd H d (.frz od u)) a (.dK kvs) := by
  by_cases e : a = d
  · subst e
    rw [hd] at ha
    cases ha
    exact .inr ⟨od, upd_same⟩
  · exact .inl (by rw [upd_ne e]; exact ha)
theorem Rd.same {H H' : Hp} {a : Addr} {u : HO} (h : Rd H a u) (s : Same H H') : Rd H' a u := by
  rcases h with h | ⟨o, h⟩
  · exact .inl (s _ _ h)
  · exact .inr ⟨o, s _ _ h⟩
theorem DGet.r {H : Hp} {a : Addr} {kvs : List (Key × V)} {k : Key} (h : Rd H a (.dK kvs)) : DGet H a (kV k) (valV kvs k) := .inl ⟨kvs, k, h, rfl, rfl⟩
theorem Same.unlock {H H' : Hp} {d : Addr} {u : HO} {od : Obj} (hd : H d = some u) (s : Same (upd H d (.frz od u)) H') : Same H (upd H' d u) := fun b o e => by
  by_cases z : b = d
  · subst z
    rw [hd] at e
    cases e
    exact upd_same
  · rw [upd_ne z]
    exact s b o (by rw [upd_ne z]; exact e)
theorem upd_lock {H : Hp} {d : Addr} {u v : HO} (hd : H d = some u) : upd (upd H d v) d u = H := by
  funext b
  by_cases z : b = d
  · subst z
    rw [upd_same, hd]
  · rw [upd_ne z, upd_ne z]
theorem sub_len65 : ∀ {ks ns : List Int}, ks.Nodup → (∀ x ∈ ks, x ∈ ns) → ks.length ≤ ns.length
  | [], _, _, _ => Nat.zero_le _
  | k :: ks, ns, nd, h => by
    rw [List.nodup_cons] at nd
    have hk := h k (by simp)
    have q := sub_len65 (ks := ks) (ns := ns.erase k) nd.2 fun x hx => (List.mem_erase_of_ne (fun z => nd.1 (by rw [← z]; exact hx))).mpr (h x (List.mem_cons_of_mem _ hx))
    rw [List.length_erase_of_mem hk] at q
    have : 0 < ns.length := List.length_pos_of_mem hk
    rw [List.length_cons]
    omega
theorem Gr.few {hs : List Int} {N : Int → List Int} (G : Gr hs N) {x : Int} (hx : x ∈ hs) : (N x).length ≤ hs.length := sub_len65 (G.nd x hx) (G.sub x hx)
theorem full_len {ds cs : List Int} {u : Int} (nd : ds.Nodup) (h : ∀ x, x ∈ ds ↔ x ∈ cs) (f : Full cs u) (u0 : 0 ≤ u) : (ds.length : Int) = u := by
  have h1 := sub_len65 (ks := ds) (ns := rng u.toNat) nd fun x hx => mem_rng.mpr (by have := (f x).mp ((h x).mp hx); omega)
  have h2 := sub_len65 (ks := rng u.toNat) (ns := ds) (rise_nd (rng_rising _)) fun x hx => (h x).mpr ((f x).mpr (by have := mem_rng.mp hx; omega))
  rw [rng_length] at h1 h2
  omega
/-- any comprehension's walk by an invariant -/
theorem it_gen {J : It} {n : Nat} {G : Hp → Prop} {Y : Nat → Hp → V → Hp → Prop} (w : Walk J n G Y) {S : V → Hp → (Hp → Prop) → Prop} {H1 : Hp} {Qd : Hp → Prop} (Pv : Nat → Hp → Prop) (h0 : Pv 0 H1) (hG : ∀ i H, i ≤ n → Pv i H → G H)
    (hs : ∀ i x H H', i < n → Pv i H → Y i H x H' → S x H' (Pv (i + 1))) (hd : ∀ H, Pv n H → Qd H) :
    ∃ W : Nat → Nat → Hp → Prop, (∃ m, W 0 m H1) ∧ ∀ i m H, W i m H → (J.stop i H ∧ Qd H) ∨ (J.go i H ∧ ∃ Nx : Hp → Prop, (∀ H', Nx H' → ∃ m', m' < m ∧ W (i + 1) m' H') ∧ ∀ x H', J.yld i H x H' → S x H' Nx) := by
  refine ⟨fun i m H => m = n - i ∧ i ≤ n ∧ Pv i H, ⟨n, by simp, Nat.zero_le _, h0⟩, ?_⟩
  rintro i m H ⟨rfl, hi, p⟩
  have q := hG i H hi p
  by_cases hlt : i < n
  · exact .inr ⟨w.goes i H hlt q, Pv (i + 1), fun H' p' => ⟨n - (i + 1), by omega, rfl, hlt, p'⟩, fun x H' y => hs i x H H' hlt p (w.yields i H x H' hlt q y)⟩
  · have e : i = n := by omega
    subst e
    exact .inl ⟨w.stops H q, hd H p⟩
theorem in65 (z : Int) (ns : List Int) : inV (.int z) (ns.map V.int) = decide (z ∈ ns) := by
  rw [Bool.eq_iff_iff, decide_eq_true_iff]
  unfold inV
  rw [List.any_map, List.any_eq_true]
  constructor
  · rintro ⟨x, hx, e⟩
    have e' : (x == z) = true := e
    rw [beq_iff_eq] at e'
    rw [← e']
    exact hx
  · intro h
    exact ⟨z, h, by show (z == z) = true; simp⟩
theorem flat65 (xs : List Int) : (xs.map V.int).all flatV = true := by
  rw [List.all_map, List.all_eq_true]
  intro x _
  rfl
theorem room65 {k : Nat} {A : PySem.Around} (r : Room k A) : A.units + 65 < cLine := by have := r.un; omega
/-! ### what an expression comes to, whatever is laid beside it -/
def EvS (t : L2.TE) (σ : L2.St) (H : Hp) (P : Hp → V → Hp → Prop) : Prop := ∀ H', Same H H' → ∀ R : VK, (∀ v H'', Same H' H'' → P H' v H'' → R v H'') → t σ H' R
/-- it speaks of new objects alone -/
def NewP (P : Hp → V → Hp → Prop) : Prop := ∀ y H0 H1 H2, P H0 y H1 → (∀ b o, H0 b = none → H1 b = some o → H2 b = some o) → P H0 y H2
def IsV (v : V) : Hp → V → Hp → Prop := fun _ x _ => x = v
theorem IsV.new {v : V} : NewP (IsV v) := fun _ _ _ _ h _ => h
/-- a new dict -/
def IsD (kvs : List (Key × V)) : Hp → V → Hp → Prop := fun H0 x H1 => ∃ p, x = .ref p ∧ H0 p = none ∧ H1 p = some (.dK kvs)
theorem IsD.new {kvs : List (Key × V)} : NewP (IsD kvs) := fun _ _ _ _ ⟨p, e, n, h⟩ k => ⟨p, e, n, k _ _ n h⟩
theorem EvS.run {t : L2.TE} {σ : L2.St} {H : Hp} {P : Hp → V → Hp → Prop} {R : VK} (h : EvS t σ H P) (q : ∀ v H'', Same H H'' → P H v H'' → R v H'') : t σ H R := h H (Same.refl H) R q
theorem EvS.same {t : L2.TE} {σ : L2.St} {H H1 : Hp} {P : Hp → V → Hp → Prop} (h : EvS t σ H P) (s : Same H H1) : EvS t σ H1 P := fun H' s' R q => h H' (s.trans s') R q
theorem EvS.var {i : Nat} {σ : L2.St} {H : Hp} {v : V} (e : σ[i]? = some (some v)) : EvS (tVar i) σ H (IsV v) := fun H' _ R q => ⟨v, e, q v H' (Same.refl H') rfl⟩
theorem EvS.con {σ : L2.St} {H : Hp} {v : V} : EvS (tC v) σ H (IsV v) := fun H' _ R q => q v H' (Same.refl H') rfl
theorem EvS.dget {td ty : L2.TE} {σ : L2.St} {H : Hp} {a : Addr} {k : Key} {v : V} {kvs : List (Key × V)} (hd : EvS td σ H (IsV (.ref a))) (hy : EvS ty σ H (IsV (kV k))) (ha : Rd H a (.dK kvs)) (e : valV kvs k = some v) : EvS (tDGet td ty) σ H (IsV v) := fun H' s R q =>
  hd H' s _ fun x H1 s1 e1 => hy H1 (s.trans s1) _ fun y H2 s2 e2 => by
    cases e1
    cases e2
    exact ⟨a, v, rfl, by rw [← e]; exact DGet.r (Rd.same ha ((s.trans s1).trans s2)), q v H2 (s1.trans s2) rfl⟩
/-- {**a, k: v} -/
theorem EvS.dstar {td tk tv : L2.TE} {σ : L2.St} {H : Hp} {a : Addr} {k : Key} {kvs : List (Key × V)} {P : Hp → V → Hp → Prop} (hd : EvS td σ H (IsV (.ref a))) (ha : H a = some (.dK kvs)) (nd : (kvs.map (·.1)).Nodup) (l : kvs.length ≤ 900) (hk : EvS tk σ H (IsV (kV k))) (hv : EvS tv σ H P) (np : NewP P) :
    EvS (tDStar td tk tv) σ H (fun H0 x H1 => ∃ y Hs, Same H0 Hs ∧ P Hs y H1 ∧ IsD (putK kvs k y) H0 x H1) := fun H' s R q p np0 => by
  have s1 := same_new (o := .dK []) np0
  have ap : a ≠ p := ne_of_none (s _ _ ha) np0
  refine hd _ (s.trans s1) _ fun x H1 s2 e => ?_
  cases e
  refine ⟨a, kvs, rfl, s2 _ _ (s1 _ _ (s _ _ ha)), ap, s2 _ _ upd_same, by omega, fun w nw => ?_⟩
  have em : mergeK [] kvs = kvs := by rw [mergeK_nil nd (fun p _ => valV_nil)]; rfl
  rw [em] at nw ⊢
  have pw : p ≠ w := fun z => by rw [z, upd_same] at nw; cases nw
  have nw1 : H1 w = none := by rw [upd_ne (Ne.symm pw)] at nw; exact nw
  have nw' : H' w = none := (s1.trans s2).free nw1
  have s3 : Same H' (upd (upd H1 p (.dK kvs)) w (.dK [])) := Same.mut (Same.mut (s1.trans s2) np0) nw'
  refine hk _ (s.trans s3) _ fun x H2 s4 e => ?_
  cases e
  refine hv _ ((s.trans s3).trans s4) _ fun y H3 s5 py => ?_
  have s35 := s4.trans s5
  have p2 : H2 p = some (.dK kvs) := s4 _ _ (by rw [upd_ne pw]; exact upd_same)
  have w2 : H2 w = some (.dK []) := s4 _ _ upd_same
  refine ⟨k, kvs, rfl, s5 _ _ p2, by omega, s5 _ _ w2, pw, ?_⟩
  have s6 : Same H' (upd (upd H3 w (.dK [(k, y)])) p (.dK (putK kvs k y))) := Same.mut (Same.mut (s3.trans s35) nw') np0
  refine q _ _ s6 ⟨y, H2, s3.trans s4, np y H2 H3 _ py fun b o n e => ?_, p, rfl, np0, upd_same⟩
  rw [upd_ne (fun z => by rw [z, p2] at n; cases n), upd_ne (fun z => by rw [z, w2] at n; cases n)]
  exact e
/-- {**a, k1: v1, k2: v2} -/
theorem EvS.dstar2 {td tk tv tk2 tv2 : L2.TE} {σ : L2.St} {H : Hp} {a : Addr} {k k2 : Key} {kvs : List (Key × V)} {P P2 : Hp → V → Hp → Prop} (hd : EvS td σ H (IsV (.ref a))) (ha : H a = some (.dK kvs)) (nd : (kvs.map (·.1)).Nodup) (l : kvs.length ≤ 900) (ne : k ≠ k2) (hk : EvS tk σ H (IsV (kV k))) (hv : EvS tv σ H P) (np : NewP P) (hk2 : EvS tk2 σ H (IsV (kV k2))) (hv2 : EvS tv2 σ H P2) (np2 : NewP P2) :
    EvS (tDStar2 td tk tv tk2 tv2) σ H (fun H0 x H1 => ∃ y y2 Hs Hs2, Same H0 Hs ∧ P Hs y H1 ∧ Same H0 Hs2 ∧ P2 Hs2 y2 H1 ∧ IsD (putK (putK kvs k y) k2 y2) H0 x H1) := fun H' s R q p np0 => by
  have s1 := same_new (o := .dK []) np0
  have ap : a ≠ p := ne_of_none (s _ _ ha) np0
  refine hd _ (s.trans s1) _ fun x H1 s2 e => ?_
  cases e
  refine ⟨a, kvs, rfl, s2 _ _ (s1 _ _ (s _ _ ha)), ap, s2 _ _ upd_same, by omega, fun w nw => ?_⟩
  have em : mergeK [] kvs = kvs := by rw [mergeK_nil nd (fun p _ => valV_nil)]; rfl
  rw [em] at nw ⊢
  have pw : p ≠ w := fun z => by rw [z, upd_same] at nw; cases nw
  have nw1 : H1 w = none := by rw [upd_ne (Ne.symm pw)] at nw; exact nw
  have nw' : H' w = none := (s1.trans s2).free nw1
  have s3 : Same H' (upd (upd H1 p (.dK kvs)) w (.dK [])) := Same.mut (Same.mut (s1.trans s2) np0) nw'
  refine hk _ (s.trans s3) _ fun x H2 s4 e => ?_
  cases e
  refine hv _ ((s.trans s3).trans s4) _ fun y H3 s5 py => ?_
  refine hk2 _ (((s.trans s3).trans s4).trans s5) _ fun x H4 s6 e => ?_
  cases e
  refine hv2 _ ((((s.trans s3).trans s4).trans s5).trans s6) _ fun y2 H5 s7 py2 => ?_
  have p2 : H2 p = some (.dK kvs) := s4 _ _ (by rw [upd_ne pw]; exact upd_same)
  have w2 : H2 w = some (.dK []) := s4 _ _ upd_same
  have s25 := (s5.trans s6).trans s7
  refine ⟨k, k2, kvs, rfl, rfl, s25 _ _ p2, by omega, s25 _ _ w2, pw, ?_⟩
  have e2 : mergeK [] [(k, y), (k2, y2)] = [(k, y), (k2, y2)] := by
    rw [mergeK_nil (by simp [ne]) (fun p _ => valV_nil)]
    rfl
  rw [e2]
  have s8 : Same H' (upd (upd H5 w (.dK [(k, y), (k2, y2)])) p (.dK (putK (putK kvs k y) k2 y2))) := Same.mut (Same.mut ((s3.trans s4).trans s25) nw') np0
  have kp : ∀ (b : Addr) (o : HO), H2 b = none → H5 b = some o → (upd (upd H5 w (.dK [(k, y), (k2, y2)])) p (.dK (putK (putK kvs k y) k2 y2))) b = some o := fun b o n e => by
    rw [upd_ne (fun z => by rw [z, p2] at n; cases n), upd_ne (fun z => by rw [z, w2] at n; cases n)]
    exact e
  refine q _ _ s8 ⟨y, y2, H2, H4, s3.trans s4, np y H2 H3 _ py fun b o n e => kp b o n (s6.trans s7 _ _ e), ((s3.trans s4).trans s5).trans s6, np2 y2 H4 H5 _ py2 fun b o n e => kp b o ((s5.trans s6).free n) e, p, rfl, np0, upd_same⟩
/-- {**a, **b} -/
theorem EvS.dstars {ta tb : L2.TE} {σ : L2.St} {H : Hp} {a b : Addr} {kvs more : List (Key × V)} (hd : EvS ta σ H (IsV (.ref a))) (ha : H a = some (.dK kvs)) (nd : (kvs.map (·.1)).Nodup) (l : kvs.length ≤ 900) (hd2 : EvS tb σ H (IsV (.ref b))) (hb : H b = some (.dK more)) (l2 : more.length ≤ 900) :
    EvS (tDStars ta tb) σ H (IsD (mergeK kvs more)) := fun H' s R q p np0 => by
  have s1 := same_new (o := .dK []) np0
  have ap : a ≠ p := ne_of_none (s _ _ ha) np0
  have bp : b ≠ p := ne_of_none (s _ _ hb) np0
  refine hd _ (s.trans s1) _ fun x H1 s2 e => ?_
  cases e
  refine ⟨a, kvs, rfl, s2 _ _ (s1 _ _ (s _ _ ha)), ap, s2 _ _ upd_same, by omega, ?_⟩
  have em : mergeK [] kvs = kvs := by rw [mergeK_nil nd (fun p _ => valV_nil)]; rfl
  rw [em]
  have s3 : Same H' (upd H1 p (.dK kvs)) := Same.mut (s1.trans s2) np0
  refine hd2 _ (s.trans s3) _ fun x H2 s4 e => ?_
  cases e
  refine ⟨b, more, kvs, rfl, s4 _ _ (s3 _ _ (s _ _ hb)), bp, s4 _ _ upd_same, by omega, by omega, ?_⟩
  exact q _ _ (Same.mut (s3.trans s4) np0) ⟨p, rfl, np0, upd_same⟩
section
variable {P : Program} {w : World} {K : PySem.W.Frag} {mg : Str → Option Value} {base : Heap}
def spSidesOn (d : Nat) : Sp := fun vs H Q _ => ∃ (k : Int) (F S : Addr) (hs : List Int) (I : Int → Addr) (N : Int → List Int) (cs : List Int) (u : Int), vs = [.int k, .ref F, .ref S] ∧ Foes H F hs I N ∧ Gr hs N ∧ hs.length ≤ 8 ∧ H S = some (.dK (kZ hs cs)) ∧ Prt k hs N cs ∧ (0 ≤ k ∧ k ≤ 1000000) ∧ 0 ≤ u ∧ Full cs u ∧ hs.length ≤ cs.length + d ∧
  (∀ S' cs' H', Same H H' → H' S' = some (.dK (kZ hs cs')) → cs'.length = hs.length → Prt k hs N cs' → Q (.ref S') H') ∧ (¬ Ext k hs N cs → ∀ H', Same H H' → Q .non H')
def spSidesR : Nat → Sp
  | 0 => fun _ _ _ _ => False
  | d + 1 => spSidesOn d
end
section
variable {P : Program} {w : World} {K : PySem.W.Frag} {mg : Str → Option Value} {base : Heap}
/-- from no sides on -/
def spSidesAll : Sp := fun vs H Q _ => ∃ (k : Int) (F S : Addr) (hs : List Int) (I : Int → Addr) (N : Int → List Int), vs = [.int k, .ref F, .ref S] ∧ Foes H F hs I N ∧ Gr hs N ∧ hs.length ≤ 8 ∧ H S = some (.dK []) ∧ (0 ≤ k ∧ k ≤ 1000000) ∧
  (∀ S' cs' H', Same H H' → H' S' = some (.dK (kZ hs cs')) → cs'.length = hs.length → Prt k hs N cs' → Q (.ref S') H') ∧ ((¬ ∃ c, Col k hs N c) → ∀ H', Same H H' → Q .non H')
theorem ok_sides_all {f : Addr} {fd : FuncData} (h : ∀ d, FnOk P w K mg base CX0 (2 + d) f fd ["k", "foes", "sides"] (spSidesOn d)) : FnOk P w K mg base CX0 10 f fd ["k", "foes", "sides"] spSidesAll :=
  (h 8).imp fun vs H Q E ⟨k, F, S, hs, I, N, e, h1, h2, h3, h4, h5, q0, qn⟩ => ⟨k, F, S, hs, I, N, [], 0, e, h1, h2, h3, by cases hs <;> exact h4, Prt.nil, h5, Int.le_refl _, Full.nil, by simp; exact h3, q0, fun z => qn fun y => z (ext_nil.mpr y)⟩
end
/-! ### the law: other webs -/
theorem cut_take {xs : List V} {k : Nat} (h : k ≤ xs.length) : cutV xs none (some (k : Int)) = xs.take k := by
  unfold cutV
  rw [HT.sIx_none, HT.sIx_nat, Nat.min_eq_left h, List.drop_zero]
  rfl
theorem cut_drop {xs : List V} {k : Nat} (h : k ≤ xs.length) : cutV xs (some (k : Int)) none = xs.drop k := by
  unfold cutV
  rw [HT.sIx_none, HT.sIx_nat, Nat.min_eq_left h]
  exact List.take_of_length_le (by rw [List.length_drop]; omega)
theorem Paired.take {α β : Type} {F : α → β → Prop} : ∀ {l : List α} {m : List β} (k : Nat), Paired F l m → Paired F (l.take k) (m.take k)
  | _, _, 0, _ => by simp; exact .nil
  | _, _, _ + 1, .nil => by simp; exact .nil
  | _, _, k + 1, .cons r t => .cons r (Paired.take k t)
theorem Paired.drop {α β : Type} {F : α → β → Prop} : ∀ {l : List α} {m : List β} (k : Nat), Paired F l m → Paired F (l.drop k) (m.drop k)
  | _, _, 0, h => h
  | _, _, _ + 1, .nil => .nil
  | _, _, k + 1, .cons _ t => Paired.drop k t
theorem Paired.app {α β : Type} {F : α → β → Prop} : ∀ {l l' : List α} {m m' : List β}, Paired F l m → Paired F l' m' → Paired F (l ++ l') (m ++ m')
  | _, _, _, _, .nil, h => h
  | _, _, _, _, .cons r t, h => .cons r (Paired.app t h)
/-! ### crowds -/
theorem sub_cons {y : Int} {ys : List Int} : ∀ {xs : List Int}, (y :: ys).Sublist xs → ∃ j : Nat, xs[j]? = some y ∧ ys.Sublist (xs.drop (j + 1))
  | [], h => by cases h
  | x :: xs, h => by
    cases h with
    | cons _ h =>
      obtain ⟨j, h1, h2⟩ := sub_cons h
      exact ⟨j + 1, by simpa using h1, by simpa using h2⟩
    | cons_cons _ h => exact ⟨0, rfl, by simpa using h⟩
def Clq (N : Int → List Int) (ys : List Int) : Prop := ys.Pairwise fun a b => b ∈ N a
section
variable {P : Program} {w : World} {K : PySem.W.Frag} {mg : Str → Option Value} {base : Heap}
def spCrowdOf (d : Nat) : Sp := fun vs H Q _ => ∃ (L F : Addr) (hs : List Int) (I : Int → Addr) (N : Int → List Int) (xs : List Int), vs = [.int (d : Nat), .ref L, .ref F] ∧ Foes H F hs I N ∧ H L = some (.lst (xs.map V.int)) ∧ xs.Sublist hs ∧ hs.length ≤ 8 ∧ d ≤ 1000 ∧
  (∀ r ys H', Same H H' → H' r = some (.tup (ys.map V.int)) → ys.Sublist xs → ys.length = d → Clq N ys → Q (.ref r) H') ∧ ((∀ ys, ys.Sublist xs → ys.length = d → ¬ Clq N ys) → ∀ H', Same H H' → Q .non H')
def spCrowdR : Nat → Sp
  | 0 => fun _ _ _ _ => False
  | d + 1 => spCrowdOf d
end
section
variable {P : Program} {w : World} {K : PySem.W.Frag} {mg : Str → Option Value} {base : Heap}
def spCrowdAny : Sp := fun vs H Q E => ∃ d, d ≤ 8 ∧ spCrowdOf d vs H Q E
theorem ok_crowd_any {f : Addr} {fd : FuncData} (h : ∀ d, FnOk P w K mg base CX0 (2 + d) f fd ["size", "heads", "foes"] (spCrowdOf d)) : FnOk P w K mg base CX0 10 f fd ["size", "heads", "foes"] spCrowdAny :=
  ⟨fun vs H Q E ⟨d, hd, g⟩ => (h d).len vs H Q E g, fun A outer s H ar us vs Q E hr a2 a3 a4 ⟨d, hd, g⟩ => (h d).run A outer s H ar us vs Q E (hr.mono (by omega)) a2 a3 a4 g⟩
end
/-! ### two heads to try -/
theorem Foes.ne {H : Hp} {F : Addr} {hs : List Int} {I : Int → Addr} {N : Int → List Int} (h : Foes H F hs I N) {x : Int} (hx : x ∈ hs) : I x ≠ F := fun z => by
  have e := h.each x hx
  rw [z, h.at'] at e
  injection e with e
  injection e with e
  cases hs with
  | nil => cases hx
  | cons y ys =>
    cases hn : N x with
    | nil => rw [hn] at e; cases e
    | cons a l =>
      rw [hn] at e
      injection e with e1 _
      injection e1 with _ e2
      cases e2
def RowOf (hs : List Int) (N : Int → List Int) (p : List Int) : Prop := ∃ s a b, p = [s, a, b] ∧ a ∈ hs ∧ b ∈ hs ∧ a < b ∧ b ∉ N a
section
variable {P : Program} {w : World} {K : PySem.W.Frag} {mg : Str → Option Value} {base : Heap}
def spPair : Sp := fun vs H Q _ => ∃ (F : Addr) (hs : List Int) (I : Int → Addr) (N : Int → List Int), vs = [.ref F] ∧ Foes H F hs I N ∧ Gr hs N ∧ hs.length ≤ 8 ∧ (∃ a b, a ∈ hs ∧ b ∈ hs ∧ a < b ∧ b ∉ N a) ∧
  ∀ r a b H', Same H H' → H' r = some (.tup [.int a, .int b]) → a ∈ hs → b ∈ hs → a < b → b ∉ N a → Q (.ref r) H'
end
/-! ### heads put together, heads made foes -/
theorem EvS.dstarV {td tk tv : L2.TE} {σ : L2.St} {H : Hp} {a : Addr} {k : Key} {v : V} {kvs : List (Key × V)} (hd : EvS td σ H (IsV (.ref a))) (ha : H a = some (.dK kvs)) (nd : (kvs.map (·.1)).Nodup) (l : kvs.length ≤ 900) (hk : EvS tk σ H (IsV (kV k))) (hv : EvS tv σ H (IsV v)) : EvS (tDStar td tk tv) σ H (IsD (putK kvs k v)) := fun H' s R q =>
  EvS.dstar hd ha nd l hk hv IsV.new H' s R fun x H1 s1 ⟨y, Hs, _, e, d⟩ => by
    cases e
    exact q x H1 s1 d
def addE (N : Int → List Int) (a b : Int) (h : Int) : List Int := if h = a then N a ++ [b] else if h = b then N b ++ [a] else N h
theorem kF_merge {ks : List Int} {f : Int → V} : ∀ {ls : List Int}, ls.Nodup → mergeK (kF ks f) (kF ls f) = kF (ks ++ ls.filter fun x => decide (x ∉ ks)) f := by
  intro ls
  induction ls generalizing ks with
  | nil => intro _; rw [List.filter_nil, List.append_nil]; rfl
  | cons l ls ih =>
    intro nd
    obtain ⟨n1, n2⟩ := List.nodup_cons.mp nd
    show mergeK (putK (kF ks f) (Sum.inl l) (f l)) (kF ls f) = _
    by_cases hl : l ∈ ks
    · rw [kF_old hl, List.filter_cons_of_neg (by simp [hl]), kF_congr (g := f) (fun x _ => by split <;> simp_all [tru])]
      exact ih n2
    · rw [kF_new hl, kF_congr (g := f) (fun x _ => by split <;> simp_all [tru]), ih n2, List.filter_cons_of_pos (by simp [hl]), List.append_assoc]
      congr 2
      show l :: _ = l :: _
      congr 1
      refine List.filter_congr fun x hx => ?_
      have : x ≠ l := fun e => n1 (by rw [← e]; exact hx)
      simp [this]
/-- a dict of a head's foes, the other one's name for its friend's -/
def RenD (H : Hp) (N : Int → List Int) (a b : Int) (D : Addr) (ks : List Int) (h : Int) : Prop := H D = some (.dK (kF ks tru)) ∧ ks.Nodup ∧ ∀ x, x ∈ ks ↔ ∃ y ∈ N h, x = if y = b then a else y
structure Mrg (hs : List Int) (N : Int → List Int) (a b : Int) (N' : Int → List Int) : Prop where
  nd : ∀ h ∈ hs, h ≠ b → (N' h).Nodup
  mem : ∀ h ∈ hs, h ≠ b → ∀ x, x ∈ N' h ↔ (if h = a then x ∈ N a ∨ x ∈ N b else (x ≠ b ∧ x ∈ N h) ∨ (x = a ∧ b ∈ N h))
section
variable {P : Program} {w : World} {K : PySem.W.Frag} {mg : Str → Option Value} {base : Heap}
def spAsFoes : Sp := fun vs H Q _ => ∃ (F : Addr) (a b : Int) (hs : List Int) (I : Int → Addr) (N : Int → List Int), vs = [.ref F, .int a, .int b] ∧ Foes H F hs I N ∧ Gr hs N ∧ hs.length ≤ 8 ∧ a ∈ hs ∧ b ∈ hs ∧ a ≠ b ∧ b ∉ N a ∧ ∀ F' I' H', Same H H' → Foes H' F' hs I' (addE N a b) → Q (.ref F') H'
def spAsFriends : Sp := fun vs H Q _ => ∃ (F : Addr) (a b : Int) (hs : List Int) (I : Int → Addr) (N : Int → List Int), vs = [.ref F, .int a, .int b] ∧ Foes H F hs I N ∧ Gr hs N ∧ hs.length ≤ 8 ∧ a ∈ hs ∧ b ∈ hs ∧ a ≠ b ∧ b ∉ N a ∧ ∀ F' I' N' H', Same H H' → Foes H' F' (hs.filter fun h => decide (h ≠ b)) I' N' → Mrg hs N a b N' → Q (.ref F') H'
end
/-! ### papers that none do: the mathematics -/
theorem sub_lenG {α : Type} [DecidableEq α] : ∀ {ks ns : List α}, ks.Nodup → (∀ x ∈ ks, x ∈ ns) → ks.length ≤ ns.length
  | [], _, _, _ => Nat.zero_le _
  | k :: ks, ns, nd, h => by
    rw [List.nodup_cons] at nd
    have hk := h k (by simp)
    have q := sub_lenG (ks := ks) (ns := ns.erase k) nd.2 fun x hx => (List.mem_erase_of_ne (fun z => nd.1 (by rw [← z]; exact hx))).mpr (h x (List.mem_cons_of_mem _ hx))
    rw [List.length_erase_of_mem hk] at q
    have : 0 < ns.length := List.length_pos_of_mem hk
    rw [List.length_cons]
    omega
/-- the pairs that are no foes -/
def free2 (hs : List Int) (N : Int → List Int) : List (Int × Int) := hs.flatMap fun a => (hs.filter fun b => decide (a < b) && !decide (b ∈ N a)).map fun b => (a, b)
theorem mem_free2 {hs : List Int} {N : Int → List Int} {a b : Int} : (a, b) ∈ free2 hs N ↔ a ∈ hs ∧ b ∈ hs ∧ a < b ∧ b ∉ N a := by
  unfold free2
  rw [List.mem_flatMap]
  constructor
  · rintro ⟨x, hx, h⟩
    obtain ⟨y, hy, e⟩ := List.mem_map.mp h
    injection e with e1 e2
    subst e1
    subst e2
    obtain ⟨h1, h2⟩ := List.mem_filter.mp hy
    rw [Bool.and_eq_true, Bool.not_eq_true', decide_eq_true_iff, decide_eq_false_iff_not] at h2
    exact ⟨hx, h1, h2.1, h2.2⟩
  · rintro ⟨h1, h2, h3, h4⟩
    exact ⟨a, h1, List.mem_map.mpr ⟨b, List.mem_filter.mpr ⟨h2, by rw [decide_eq_true h3, decide_eq_false h4]; rfl⟩, rfl⟩⟩
theorem free2_nd {hs : List Int} {N : Int → List Int} (nd : hs.Nodup) : (free2 hs N).Nodup := by
  unfold free2
  have key : ∀ l : List Int, l.Nodup → (l.flatMap fun a => (hs.filter fun b => decide (a < b) && !decide (b ∈ N a)).map fun b => (a, b)).Nodup := by
    intro l
    induction l with
    | nil => intro _; exact List.nodup_nil
    | cons x l ih =>
      intro h
      obtain ⟨h1, h2⟩ := List.nodup_cons.mp h
      rw [List.flatMap_cons, List.nodup_append]
      refine ⟨?_, ih h2, fun p hp q hq e => ?_⟩
      · exact List.pairwise_map.mpr ((nd.filter _).imp fun h z => h (by injection z))
      · obtain ⟨b, _, rfl⟩ := List.mem_map.mp hp
        subst e
        obtain ⟨y, hy, h⟩ := List.mem_flatMap.mp hq
        obtain ⟨c, _, e⟩ := List.mem_map.mp h
        injection e with e1 _
        exact h1 (by rw [← e1]; exact hy)
  exact key hs nd
theorem free2_len (hs : List Int) (N : Int → List Int) : (free2 hs N).length ≤ hs.length * hs.length := by
  unfold free2
  have key : ∀ l : List Int, (l.flatMap fun a => (hs.filter fun b => decide (a < b) && !decide (b ∈ N a)).map fun b => (a, b)).length ≤ l.length * hs.length := by
    intro l
    induction l with
    | nil => simp
    | cons x l ih =>
      rw [List.flatMap_cons, List.length_append, List.length_map, List.length_cons, Nat.succ_mul]
      have := List.length_filter_le (fun b => decide (x < b) && !decide (b ∈ N x)) hs
      omega
  exact key hs
theorem free2_less {hs hs' : List Int} {N N' : Int → List Int} {a b : Int} (nd : hs'.Nodup) (h : ∀ x y, (x, y) ∈ free2 hs' N' → (x, y) ∈ free2 hs N) (hab : (a, b) ∈ free2 hs N) (no : (a, b) ∉ free2 hs' N') : (free2 hs' N').length < (free2 hs N).length := by
  have q := sub_lenG (ks := free2 hs' N') (ns := (free2 hs N).erase (a, b)) (free2_nd nd) fun p hp => by
    refine (List.mem_erase_of_ne fun z => no (by rw [← z]; exact hp)).mpr ?_
    obtain ⟨x, y⟩ := p
    exact h x y hp
  rw [List.length_erase_of_mem hab] at q
  have := List.length_pos_of_mem hab
  omega
section
variable {hs : List Int} {N N' : Int → List Int} {a b : Int}
theorem Gr.add (G : Gr hs N) (ha : a ∈ hs) (hb : b ∈ hs) (hab : a ≠ b) (hn : b ∉ N a) : Gr hs (addE N a b) where
  rise := G.rise
  nd h hh := by
    have hba : a ∉ N b := fun z => hn (G.sym b hb a z)
    unfold addE
    split
    · rw [List.nodup_append]
      exact ⟨G.nd a ha, by simp, fun u hu v hv e => hn (by rw [← List.mem_singleton.mp hv, ← e]; exact hu)⟩
    · split
      · rw [List.nodup_append]
        exact ⟨G.nd b hb, by simp, fun u hu v hv e => hba (by rw [← List.mem_singleton.mp hv, ← e]; exact hu)⟩
      · exact G.nd h hh
  sub h hh x hx := by
    unfold addE at hx
    split at hx
    · rcases List.mem_append.mp hx with z | z
      · exact G.sub a ha x z
      · rw [List.mem_singleton.mp z]; exact hb
    · split at hx
      · rcases List.mem_append.mp hx with z | z
        · exact G.sub b hb x z
        · rw [List.mem_singleton.mp z]; exact ha
      · exact G.sub h hh x hx
  sym h hh x hx := by
    have mm : ∀ u v : Int, v ∈ addE N a b u ↔ v ∈ N u ∨ (u = a ∧ v = b) ∨ (u = b ∧ v = a) := fun u v => by
      unfold addE
      by_cases h1 : u = a
      · subst h1
        rw [if_pos rfl, List.mem_append, List.mem_singleton]
        exact ⟨fun h => h.imp id fun e => .inl ⟨rfl, e⟩, fun h => h.imp id fun h => h.elim And.right fun h => absurd h.1 hab⟩
      · rw [if_neg h1]
        by_cases h2 : u = b
        · subst h2
          rw [if_pos rfl, List.mem_append, List.mem_singleton]
          exact ⟨fun h => h.imp id fun e => .inr ⟨rfl, e⟩, fun h => h.imp id fun h => h.elim (fun h => absurd h.1 h1) And.right⟩
        · rw [if_neg h2]
          exact ⟨.inl, fun h => h.elim id fun h => h.elim (fun h => absurd h.1 h1) fun h => absurd h.1 h2⟩
    rw [mm] at hx ⊢
    rcases hx with z | ⟨h1, h2⟩ | ⟨h1, h2⟩
    · exact .inl (G.sym h hh x z)
    · exact .inr (.inr ⟨h2, h1⟩)
    · exact .inr (.inl ⟨h2, h1⟩)
  irr h hh hx := by
    unfold addE at hx
    split at hx
    · subst h
      rcases List.mem_append.mp hx with z | z
      · exact G.irr a ha z
      · exact hab (List.mem_singleton.mp z)
    · split at hx
      · subst h
        rcases List.mem_append.mp hx with z | z
        · exact G.irr b hb z
        · exact hab (List.mem_singleton.mp z).symm
      · exact G.irr h hh hx
theorem addE_mem {u v : Int} (h : v ∈ N u) : v ∈ addE N a b u := by
  unfold addE
  split
  · rename_i e; subst e; exact List.mem_append_left _ h
  · split
    · rename_i e; subst e; exact List.mem_append_left _ h
    · exact h
theorem addE_inv {u v : Int} (h : v ∈ addE N a b u) : v ∈ N u ∨ (u = a ∧ v = b) ∨ (u = b ∧ v = a) := by
  unfold addE at h
  split at h
  · rename_i e
    subst e
    exact (List.mem_append.mp h).imp id fun z => .inl ⟨rfl, List.mem_singleton.mp z⟩
  · split at h
    · rename_i e
      subst e
      exact (List.mem_append.mp h).imp id fun z => .inr ⟨rfl, List.mem_singleton.mp z⟩
    · exact .inl h
theorem Col.addE {k : Int} {c : Int → Int} (h : Col k hs (addE N a b) c) : Col k hs N c := ⟨h.1, fun x hx y hy => h.2 x hx y (addE_mem hy)⟩
theorem Mrg.m1 (M : Mrg hs N a b N') {h x : Int} (hh : h ∈ hs) (hb : h ≠ b) (ha : h ≠ a) : x ∈ N' h ↔ (x ≠ b ∧ x ∈ N h) ∨ (x = a ∧ b ∈ N h) := by
  have := M.mem h hh hb x
  rwa [if_neg ha] at this
theorem Mrg.m2 (M : Mrg hs N a b N') {x : Int} (ha : a ∈ hs) (hab : a ≠ b) : x ∈ N' a ↔ x ∈ N a ∨ x ∈ N b := by
  have := M.mem a ha hab x
  rwa [if_pos rfl] at this
theorem Gr.merge (G : Gr hs N) (M : Mrg hs N a b N') (ha : a ∈ hs) (hb : b ∈ hs) (hab : a ≠ b) (hn : b ∉ N a) : Gr (hs.filter fun h => decide (h ≠ b)) N' where
  rise := G.rise.filter _
  nd h hh := by
    obtain ⟨h1, h2⟩ := List.mem_filter.mp hh
    exact M.nd h h1 (of_decide_eq_true h2)
  sub h hh x hx := by
    obtain ⟨h1, h2⟩ := List.mem_filter.mp hh
    have h2 := of_decide_eq_true h2
    refine List.mem_filter.mpr ?_
    rw [decide_eq_true_iff]
    by_cases e : h = a
    · subst e
      rcases (M.m2 ha hab).mp hx with z | z
      · exact ⟨G.sub h ha x z, fun e => hn (by rw [← e]; exact z)⟩
      · exact ⟨G.sub b hb x z, fun e => G.irr b hb (by rw [e] at z; exact z)⟩
    · rcases (M.m1 h1 h2 e).mp hx with ⟨z1, z2⟩ | ⟨z1, z2⟩
      · exact ⟨G.sub h h1 x z2, z1⟩
      · rw [z1]; exact ⟨ha, hab⟩
  sym h hh x hx := by
    obtain ⟨h1, h2⟩ := List.mem_filter.mp hh
    have h2 := of_decide_eq_true h2
    by_cases e : h = a
    · subst e
      rcases (M.m2 ha hab).mp hx with z | z
      · have xs := G.sub h ha x z
        have xb : x ≠ b := fun e => hn (by rw [← e]; exact z)
        have xa : x ≠ h := fun e => G.irr h ha (by rw [e] at z; exact z)
        exact (M.m1 xs xb xa).mpr (.inl ⟨hab, G.sym h ha x z⟩)
      · have xs := G.sub b hb x z
        have xb : x ≠ b := fun e => G.irr b hb (by rw [e] at z; exact z)
        have xa : x ≠ h := fun e => hn (by rw [e] at z; exact G.sym b hb h z)
        exact (M.m1 xs xb xa).mpr (.inr ⟨rfl, G.sym b hb x z⟩)
    · rcases (M.m1 h1 h2 e).mp hx with ⟨z1, z2⟩ | ⟨z1, z2⟩
      · have xs := G.sub h h1 x z2
        by_cases xa : x = a
        · subst xa
          exact (M.m2 ha hab).mpr (.inl (G.sym h h1 x z2))
        · exact (M.m1 xs z1 xa).mpr (.inl ⟨h2, G.sym h h1 x z2⟩)
      · subst z1
        exact (M.m2 ha hab).mpr (.inr (G.sym h h1 b z2))
  irr h hh hx := by
    obtain ⟨h1, h2⟩ := List.mem_filter.mp hh
    have h2 := of_decide_eq_true h2
    by_cases e : h = a
    · subst e
      rcases (M.m2 ha hab).mp hx with z | z
      · exact G.irr h ha z
      · exact hn (G.sym b hb h z)
    · rcases (M.m1 h1 h2 e).mp hx with ⟨_, z2⟩ | ⟨z1, _⟩
      · exact G.irr h h1 z2
      · exact e z1
theorem Col.merge {k : Int} {c : Int → Int} (G : Gr hs N) (M : Mrg hs N a b N') (ha : a ∈ hs) (hb : b ∈ hs) (hab : a ≠ b) (hn : b ∉ N a) (h : Col k (hs.filter fun h => decide (h ≠ b)) N' c) : ∃ d, Col k hs N d := by
  have mf : ∀ x, x ∈ hs → x ≠ b → x ∈ hs.filter fun h => decide (h ≠ b) := fun x h1 h2 => List.mem_filter.mpr ⟨h1, decide_eq_true h2⟩
  refine ⟨fun x => if x = b then c a else c x, fun x hx => ?_, fun x hx y hy => ?_⟩
  · show 0 ≤ (if x = b then c a else c x) ∧ (if x = b then c a else c x) < k
    split
    · exact h.1 a (mf a ha hab)
    · exact h.1 x (mf x hx (by assumption))
  · show (if x = b then c a else c x) ≠ (if y = b then c a else c y)
    have yh := G.sub x hx y hy
    by_cases xb : x = b
    · subst xb
      have yb : y ≠ x := fun e => G.irr x hb (by rw [e] at hy; exact hy)
      rw [if_pos rfl, if_neg yb]
      exact h.2 a (mf a ha hab) y ((M.m2 ha hab).mpr (.inr hy))
    · rw [if_neg xb]
      by_cases yb : y = b
      · subst yb
        rw [if_pos rfl]
        have xa : x ≠ a := fun e => hn (by rw [← e]; exact hy)
        exact h.2 x (mf x hx xb) a ((M.m1 hx xb xa).mpr (.inr ⟨rfl, hy⟩))
      · rw [if_neg yb]
        by_cases xa : x = a
        · subst xa
          exact h.2 x (mf x hx xb) y ((M.m2 ha hab).mpr (.inl hy))
        · exact h.2 x (mf x hx xb) y ((M.m1 hx xb xa).mpr (.inl ⟨yb, hy⟩))
theorem free2_add (G : Gr hs N) (h : (a, b) ∈ free2 hs N) : (free2 hs (addE N a b)).length < (free2 hs N).length := by
  refine free2_less (a := a) (b := b) (rise_nd G.rise) (fun x y hxy => ?_) h fun z => ?_
  · obtain ⟨h1, h2, h3, h4⟩ := mem_free2.mp hxy
    exact mem_free2.mpr ⟨h1, h2, h3, fun z => h4 (addE_mem z)⟩
  · have := (mem_free2.mp z).2.2.2
    refine this ?_
    unfold addE
    rw [if_pos rfl]
    simp
theorem free2_merge (G : Gr hs N) (M : Mrg hs N a b N') (h : (a, b) ∈ free2 hs N) : (free2 (hs.filter fun h => decide (h ≠ b)) N').length < (free2 hs N).length := by
  obtain ⟨ha, hb, hab, hn⟩ := mem_free2.mp h
  have ab : a ≠ b := by omega
  refine free2_less (a := a) (b := b) ((rise_nd G.rise).filter _) (fun x y hxy => ?_) h fun z => ?_
  · obtain ⟨h1, h2, h3, h4⟩ := mem_free2.mp hxy
    obtain ⟨x1, x2⟩ := List.mem_filter.mp h1
    obtain ⟨y1, y2⟩ := List.mem_filter.mp h2
    have x2 := of_decide_eq_true x2
    have y2 := of_decide_eq_true y2
    refine mem_free2.mpr ⟨x1, y1, h3, fun z => h4 ?_⟩
    by_cases xa : x = a
    · subst xa
      exact (M.m2 ha ab).mpr (.inl z)
    · exact (M.m1 x1 x2 xa).mpr (.inl ⟨y2, z⟩)
  · have := (List.mem_filter.mp (mem_free2.mp z).2.1).2
    simp at this
/-- where none do and no crowd is there, two heads are no foes -/
theorem pair_ex {k : Int} (G : Gr hs N) (k0 : 0 ≤ k) (no : ¬ ∃ c, Col k hs N c) (nc : ∀ ys : List Int, ys.Sublist hs → (ys.length : Int) = k + 1 → ¬ Clq N ys) : ∃ a b, (a, b) ∈ free2 hs N := by
  refine Classical.byContradiction fun z => ?_
  have all : ∀ x ∈ hs, ∀ y ∈ hs, x < y → y ∈ N x := fun x hx y hy hxy => Classical.byContradiction fun w => z ⟨x, y, mem_free2.mpr ⟨hx, hy, hxy, w⟩⟩
  by_cases hl : (hs.length : Int) ≤ k
  · refine no ⟨fun x => (hs.idxOf x : Int), fun x hx => ⟨?_, ?_⟩, fun x hx y hy e => ?_⟩
    · show (0 : Int) ≤ (hs.idxOf x : Nat)
      omega
    · show ((hs.idxOf x : Nat) : Int) < k
      have := List.idxOf_lt_length_of_mem hx
      omega
    have e : ((hs.idxOf x : Nat) : Int) = (hs.idxOf y : Nat) := e
    have e : hs.idxOf x = hs.idxOf y := by omega
    have yh := G.sub x hx y hy
    have e1 := List.getElem_idxOf (List.idxOf_lt_length_of_mem hx)
    have e2 := List.getElem_idxOf (List.idxOf_lt_length_of_mem yh)
    have : x = y := by rw [← e1, ← e2]; congr 1
    subst this
    exact G.irr x hx hy
  · refine nc (hs.take (k + 1).toNat) (List.take_sublist _ _) (by rw [List.length_take]; omega) ?_
    have : (hs.take (k + 1).toNat).Pairwise (· < ·) := G.rise.sublist (List.take_sublist _ _)
    exact this.imp_of_mem fun {x y} hx hy h => all x (List.mem_of_mem_take hx) y (List.mem_of_mem_take hy) h
end
/-! ### papers that none do: what they show -/
def FR (ts : List Tie) (x y : Int) : Prop := Rch (frs ts) x y
def Met (ts : List Tie) (x y : Int) : Prop := ∃ t ∈ ts, t.foe = true ∧ ((FR ts x t.one ∧ FR ts y t.other) ∨ (FR ts y t.one ∧ FR ts x t.other))
theorem frs_snoc (ts : List Tie) (t : Tie) : frs (ts ++ [t]) = frs ts ++ (if t.foe = true then [] else [t]) := by
  unfold frs
  rw [List.filter_append]
  congr 1
  cases h : t.foe <;> simp [h]
theorem Rch.mono65 {ts us : List Tie} (h : ∀ t ∈ ts, t ∈ us) {x y : Int} (r : Rch ts x y) : Rch us x y := by
  obtain ⟨p, r⟩ := r
  exact ⟨p, RP.mono h r⟩
theorem FR.mono {ts : List Tie} {t : Tie} {x y : Int} (h : FR ts x y) : FR (ts ++ [t]) x y := Rch.mono65 (fun u hu => by rw [frs_snoc]; exact List.mem_append_left _ hu) h
theorem Met.symm {ts : List Tie} {x y : Int} (h : Met ts x y) : Met ts y x := by
  obtain ⟨t, h1, h2, h3⟩ := h
  exact ⟨t, h1, h2, h3.symm⟩
theorem Met.mono {ts : List Tie} {t : Tie} {x y : Int} (h : Met ts x y) : Met (ts ++ [t]) x y := by
  obtain ⟨u, h1, h2, h3⟩ := h
  exact ⟨u, List.mem_append_left _ h1, h2, h3.imp (fun h => ⟨h.1.mono, h.2.mono⟩) fun h => ⟨h.1.mono, h.2.mono⟩⟩
theorem Met.fr {ts : List Tie} {x y z : Int} (h : Met ts x y) (r : FR ts z x) : Met ts z y := by
  obtain ⟨u, h1, h2, h3⟩ := h
  exact ⟨u, h1, h2, h3.imp (fun h => ⟨r.trans h.1, h.2⟩) fun h => ⟨h.1, r.trans h.2⟩⟩
theorem rch_snoc65 {ts : List Tie} {t : Tie} {x y : Int} (h : Rch (ts ++ [t]) x y) : Rch ts x y ∨ (Rch ts x t.one ∧ Rch ts t.other y) ∨ (Rch ts x t.other ∧ Rch ts t.one y) := by
  refine Rch.ind (fun z => Rch ts x z ∨ (Rch ts x t.one ∧ Rch ts t.other z) ∨ (Rch ts x t.other ∧ Rch ts t.one z)) h (.inl Rch.refl) fun a b k ih ad => ?_
  obtain ⟨u, hu, hk, hj⟩ := ad
  rcases List.mem_append.mp hu with z | z
  · have r : Rch ts a b := Rch.adj (k := k) ⟨u, z, hk, hj⟩
    exact ih.imp (fun q => q.trans r) fun q => q.imp (fun q => ⟨q.1, q.2.trans r⟩) fun q => ⟨q.1, q.2.trans r⟩
  · rw [List.mem_singleton.mp z] at hj
    rcases hj with ⟨e1, e2⟩ | ⟨e1, e2⟩
    · subst e1
      subst e2
      rcases ih with q | ⟨q1, q2⟩ | ⟨q1, q2⟩
      · exact .inr (.inl ⟨q, Rch.refl⟩)
      · exact .inr (.inl ⟨q1, Rch.refl⟩)
      · exact .inl q1
    · subst e1
      subst e2
      rcases ih with q | ⟨q1, q2⟩ | ⟨q1, q2⟩
      · exact .inr (.inr ⟨q, Rch.refl⟩)
      · exact .inl q1
      · exact .inr (.inr ⟨q1, Rch.refl⟩)
structure Link (n : Nat) (ts : List Tie) (hs : List Int) (N : Int → List Int) : Prop where
  rg : ∀ h ∈ hs, 0 ≤ h ∧ h < (n : Int)
  ap : ∀ h ∈ hs, ∀ x ∈ hs, h ≠ x → ¬ FR ts h x
  met : ∀ h ∈ hs, ∀ x ∈ N h, Met ts h x
def frT (a b : Int) : Tie := ⟨a, b, false⟩
def foT (a b : Int) : Tie := ⟨a, b, true⟩
theorem fr_foe {ts : List Tie} {a b x y : Int} : FR (ts ++ [foT a b]) x y ↔ FR ts x y := by
  unfold FR
  rw [frs_snoc, if_pos (show (foT a b).foe = true from rfl), List.append_nil]
theorem frs_fr (ts : List Tie) (a b : Int) : frs (ts ++ [frT a b]) = frs ts ++ [frT a b] := by
  rw [frs_snoc, if_neg (show ¬ (frT a b).foe = true by unfold frT; simp)]
theorem fr_friend {ts : List Tie} {a b : Int} : FR (ts ++ [frT a b]) a b := by
  unfold FR
  rw [frs_fr]
  exact Rch.adj (k := false) ⟨frT a b, by simp, rfl, .inl ⟨rfl, rfl⟩⟩
section
variable {n : Nat} {ts : List Tie} {hs : List Int} {N N' : Int → List Int} {a b : Int}
theorem Link.foe (L : Link n ts hs N) (ha : a ∈ hs) (hb : b ∈ hs) : Link n (ts ++ [foT a b]) hs (addE N a b) where
  rg := L.rg
  ap h hh x hx ne z := L.ap h hh x hx ne (fr_foe.mp z)
  met h hh x hx := by
    have m : Met (ts ++ [foT a b]) a b := ⟨foT a b, by simp, rfl, .inl ⟨Rch.refl, Rch.refl⟩⟩
    rcases addE_inv hx with z | ⟨h1, h2⟩ | ⟨h1, h2⟩
    · exact (L.met h hh x z).mono
    · subst h1; subst h2; exact m
    · subst h1; subst h2; exact m.symm
theorem Link.friend (G : Gr hs N) (L : Link n ts hs N) (M : Mrg hs N a b N') (ha : a ∈ hs) (hb : b ∈ hs) (hab : a ≠ b) (hn : b ∉ N a) : Link n (ts ++ [frT a b]) (hs.filter fun h => decide (h ≠ b)) N' where
  rg h hh := L.rg h (List.mem_filter.mp hh).1
  ap h hh x hx ne z := by
    obtain ⟨h1, h2⟩ := List.mem_filter.mp hh
    obtain ⟨x1, x2⟩ := List.mem_filter.mp hx
    have h2 := of_decide_eq_true h2
    have x2 := of_decide_eq_true x2
    unfold FR at z
    rw [frs_fr] at z
    rcases rch_snoc65 z with q | ⟨q1, q2⟩ | ⟨q1, q2⟩
    · exact L.ap h h1 x x1 ne q
    · exact L.ap b hb x x1 (Ne.symm x2) q2
    · exact L.ap h h1 b hb h2 q1
  met h hh x hx := by
    obtain ⟨h1, h2⟩ := List.mem_filter.mp hh
    have h2 := of_decide_eq_true h2
    by_cases e : h = a
    · subst e
      rcases (M.m2 ha hab).mp hx with z | z
      · exact (L.met h ha x z).mono
      · exact (L.met b hb x z).mono.fr fr_friend
    · rcases (M.m1 h1 h2 e).mp hx with ⟨_, z⟩ | ⟨z1, z2⟩
      · exact (L.met h h1 x z).mono
      · subst z1
        exact ((L.met h h1 b z2).mono.symm.fr fr_friend).symm
end
inductive NT
  | crowd (xs : List Int)
  | clash (a b : Int)
  | case (a b : Int) (t u : NT)
def NTV (H : Hp) : V → NT → Prop
  | v, .crowd xs => ∃ a c, v = .ref a ∧ H a = some (.tup [.str "crowd", .ref c]) ∧ H c = some (.tup (xs.map V.int))
  | v, .clash a b => ∃ c, v = .ref c ∧ H c = some (.tup [.str "clash", .int a, .int b])
  | v, .case a b t u => ∃ c x y, v = .ref c ∧ H c = some (.tup [.str "case", .int a, .int b, x, y]) ∧ NTV H x t ∧ NTV H y u
theorem NTV.tk {H H' : Hp} (k : Tk H H') : ∀ {t : NT} {v : V}, NTV H v t → NTV H' v t
  | .crowd xs, v, ⟨a, c, e, h1, h2⟩ => ⟨a, c, e, k _ _ h1, k _ _ h2⟩
  | .clash a b, v, ⟨c, e, h⟩ => ⟨c, e, k _ _ h⟩
  | .case a b t u, v, ⟨c, x, y, e, h, h1, h2⟩ => ⟨c, x, y, e, k _ _ h, NTV.tk k h1, NTV.tk k h2⟩
def NT.dep : NT → Nat
  | .crowd _ => 0
  | .clash _ _ => 0
  | .case _ _ t u => 1 + max t.dep u.dep
structure Crw (k : Int) (n : Nat) (ts : List Tie) (xs : List Int) : Prop where
  rise : xs.Pairwise (· < ·)
  rg : ∀ x ∈ xs, 0 ≤ x ∧ x < (n : Int)
  len : (xs.length : Int) = k + 1
  met : xs.Pairwise fun x y => ¬ FR ts x y ∧ Met ts x y
def Pl2 (n : Nat) (a b : Int) : Prop := (0 ≤ a ∧ a < (n : Int)) ∧ (0 ≤ b ∧ b < (n : Int))
def Cls2 (n : Nat) (ts : List Tie) (a b : Int) : Prop := Pl2 n a b ∧ FR ts a b ∧ ∃ t ∈ ts, t.foe = true ∧ ((t.one = a ∧ t.other = b) ∨ (t.one = b ∧ t.other = a))
def NoneOk (k : Int) (n : Nat) : List Tie → NT → Prop
  | ts, .crowd xs => Crw k n ts xs
  | ts, .clash a b => Cls2 n ts a b
  | ts, .case a b t u => (Pl2 n a b ∧ a ≠ b) ∧ NoneOk k n (ts ++ [frT a b]) t ∧ NoneOk k n (ts ++ [foT a b]) u
section
variable {P : Program} {w : World} {K : PySem.W.Frag} {mg : Str → Option Value} {base : Heap}
def spNone (d : Nat) : Sp := fun vs H Q _ => ∃ (k : Int) (F : Addr) (hs : List Int) (I : Int → Addr) (N : Int → List Int) (n : Nat) (ts : List Tie), vs = [.int k, .ref F] ∧ Foes H F hs I N ∧ Gr hs N ∧ hs.length ≤ 8 ∧ (¬ ∃ c, Col k hs N c) ∧ Link n ts hs N ∧ (0 ≤ k ∧ k ≤ 1000000) ∧ (free2 hs N).length ≤ d ∧ ∀ v t H', Same H H' → NTV H' v t → NoneOk k n ts t → t.dep ≤ d → Q v H'
def spNoneR : Nat → Sp
  | 0 => fun _ _ _ _ => False
  | d + 1 => spNone d
def spNonePaper : Sp := fun vs H Q _ => ∃ (k : Int) (F : Addr) (hs : List Int) (I : Int → Addr) (N : Int → List Int) (n : Nat) (ts : List Tie), vs = [.int k, .ref F] ∧ Foes H F hs I N ∧ Gr hs N ∧ hs.length ≤ 8 ∧ (¬ ∃ c, Col k hs N c) ∧ Link n ts hs N ∧ (0 ≤ k ∧ k ≤ 1000000) ∧ ∀ v t H', Same H H' → NTV H' v t → NoneOk k n ts t → t.dep ≤ 64 → Q v H'
theorem ok_none_all {f : Addr} {fd : FuncData} (h : ∀ d, FnOk P w K mg base CX0 (11 + d) f fd ["k", "foes"] (spNone d)) : FnOk P w K mg base CX0 75 f fd ["k", "foes"] spNonePaper :=
  (h 64).imp fun vs H Q E ⟨k, F, hs, I, N, n, ts, e, h1, h2, h3, h4, h5, h6, q⟩ => ⟨k, F, hs, I, N, n, ts, e, h1, h2, h3, h4, h5, h6, by
    have := free2_len hs N
    have := Nat.mul_le_mul h3 h3
    omega, q⟩
end
/-! ### heads: the mathematics -/
open Classical in
noncomputable def hd (ts : List Tie) (x : Int) : Int := if h : ∃ m, leader (frs ts) m ∧ Rch (frs ts) m x then Classical.choose h else x
theorem frs_okn {n : Nat} {ts : List Tie} (ok : ∀ t ∈ ts, TieOk n t) : ∀ t ∈ frs ts, TieOk n t := fun t ht => ok t (List.mem_filter.mp ht).1
section
variable {n : Nat} {ts : List Tie}
theorem hd_spec (ok : ∀ t ∈ ts, TieOk n t) {x : Int} (hx : 0 ≤ x ∧ x < n) : leader (frs ts) (hd ts x) ∧ (0 ≤ hd ts x ∧ hd ts x < n) ∧ FR ts (hd ts x) x := by
  obtain ⟨m, h1, h2, h3⟩ := has_leader (frs_okn ok) hx
  have ex : ∃ m, leader (frs ts) m ∧ Rch (frs ts) m x := ⟨m, h1, h3⟩
  unfold hd
  rw [dif_pos ex]
  have c := Classical.choose_spec ex
  have e := leader_one c.1 h1 c.2 h3
  rw [e]
  exact ⟨h1, h2, h3⟩
theorem hd_is (ok : ∀ t ∈ ts, TieOk n t) {m x : Int} (hx : 0 ≤ x ∧ x < n) (lm : leader (frs ts) m) (r : FR ts m x) : hd ts x = m := by
  obtain ⟨h1, _, h3⟩ := hd_spec ok hx
  exact leader_one h1 lm h3 r
theorem hd_iff (ok : ∀ t ∈ ts, TieOk n t) {x y : Int} (hx : 0 ≤ x ∧ x < n) (hy : 0 ≤ y ∧ y < n) : hd ts x = hd ts y ↔ FR ts x y := by
  obtain ⟨h1, _, h3⟩ := hd_spec ok hx
  obtain ⟨g1, _, g3⟩ := hd_spec ok hy
  constructor
  · intro e
    rw [e] at h3
    exact h3.symm.trans g3
  · intro r
    exact leader_one h1 g1 (h3.trans r) g3
theorem hd_hd (ok : ∀ t ∈ ts, TieOk n t) {x : Int} (hx : 0 ≤ x ∧ x < n) : hd ts (hd ts x) = hd ts x := by
  obtain ⟨_, h2, h3⟩ := hd_spec ok hx
  exact (hd_iff ok h2 hx).mpr h3
theorem hd_le (ok : ∀ t ∈ ts, TieOk n t) {x : Int} (hx : 0 ≤ x ∧ x < n) : hd ts x ≤ x := by
  obtain ⟨h1, _, h3⟩ := hd_spec ok hx
  exact h1 x h3
end
theorem part_first {ts : List Tie} {n : Nat} {m : Int} (lm : leader ts m) (hm : 0 ≤ m ∧ m < n) : (partOf ts n m)[0]? = some m := by
  have rise := part_rising ts n m
  have mem : m ∈ partOf ts n m := mem_part.mpr ⟨hm, Rch.refl⟩
  cases e : partOf ts n m with
  | nil => rw [e] at mem; cases mem
  | cons x l =>
    have hx : x ∈ partOf ts n m := by rw [e]; simp
    have h1 := lm x (mem_part.mp hx).2
    rw [e] at mem rise
    rcases List.mem_cons.mp mem with z | z
    · rw [z]; rfl
    · have := List.rel_of_pairwise_cons rise z
      omega
open Classical in
theorem mem_parts65 {ts : List Tie} {n k : Nat} {P : List Int} : P ∈ partsTo ts n k ↔ ∃ m, (0 ≤ m ∧ m < (k : Int)) ∧ leader ts m ∧ P = partOf ts n m := by
  unfold partsTo
  rw [List.mem_map]
  constructor
  · rintro ⟨m, hm, rfl⟩
    obtain ⟨h1, h2⟩ := List.mem_filter.mp hm
    exact ⟨m, mem_rng.mp h1, of_decide_eq_true h2, rfl⟩
  · rintro ⟨m, h1, h2, rfl⟩
    exact ⟨m, List.mem_filter.mpr ⟨mem_rng.mpr h1, decide_eq_true h2⟩, rfl⟩
/-- heads as a dict -/
def HeadsAt (H : Hp) (D : Addr) (n : Nat) (g : Int → Int) : Prop := ∃ ks : List Int, H D = some (.dK (kF ks fun x => .int (g x))) ∧ ks.Nodup ∧ ∀ x, x ∈ ks ↔ 0 ≤ x ∧ x < (n : Int)
theorem HeadsAt.same {H H' : Hp} {D : Addr} {n : Nat} {g : Int → Int} (h : HeadsAt H D n g) (s : Same H H') : HeadsAt H' D n g := by
  obtain ⟨ks, h1, h2, h3⟩ := h
  exact ⟨ks, s _ _ h1, h2, h3⟩
theorem HeadsAt.get {H : Hp} {D : Addr} {n : Nat} {g : Int → Int} (h : HeadsAt H D n g) {x : Int} (hx : 0 ≤ x ∧ x < (n : Int)) : DGet H D (.int x) (some (.int (g x))) := by
  obtain ⟨ks, h1, h2, h3⟩ := h
  have := DGet.k (k := Sum.inl x) h1
  rw [kF_val, if_pos ((h3 x).mpr hx)] at this
  exact this
section
variable {P : Program} {w : World} {K : PySem.W.Frag} {mg : Str → Option Value} {base : Heap}
def spHeads : Sp := fun vs H Q _ => ∃ (v : V) (n : Nat) (ts : List Tie), vs = [v] ∧ WebAt H v n ts ∧ WebOk n ts ∧ ∀ D H', Same H H' → HeadsAt H' D n (hd ts) → Q (.ref D) H'
end
section
variable {P : Program} {w : World} {K : PySem.W.Frag} {mg : Str → Option Value} {base : Heap}
set_option maxHeartbeats 4000000 in
theorem ok_heads_of {f : Addr} {fd : FuncData} (F : Fun K "heads_of" "heads_of" s_heads_of f fd) (D_friends_of : Df P w K mg base 3 "friends_of" ["web"] spFriends) : FnOk P w K mg base CX0 4 f fd ["web"] spHeads := by
  obtain ⟨f_friends_of, fd_friends_of, G_friends_of, g_friends_of, k_friends_of, b_friends_of⟩ := D_friends_of
  refine F.ok sc_heads_of (fun vs H Q E h => ?_) (fun cdv A outer s H vs Q E hr h => ?_)
  · obtain ⟨v, n, ts, rfl, _⟩ := h
    rfl
  · obtain ⟨v, n, ts, rfl, hW, ok, q⟩ := h
    refine ⟨_, (pss_one (ps_ret (pe_dc2 (own := [("friends", 1), ("place", 2)]) (vs1 := [2]) (g := (gName 1)) (tt := tYes) (wi1 := iTup K (tVar 1)) (g1 := (gName 2)) (tt1 := tYes) rfl sc_heads_of.nd (pi_tup (pe_call G_friends_of (hr.mono (by decide)) (by rfl) g_friends_of k_friends_of b_friends_of .nil pass0 (pa_cons (pv 0) pa_nil))) (blkOk_by (N := N_heads_of) (sc := defScope s_heads_of) (own := [("friends", 1), ("place", 2)]) (by decide +kernel)) (by decide) (fun _ _ _ _ _ => (pg_name (i := 1) sc_heads_of.nd rfl (.inl rfl))) (fun _ _ _ _ _ => pts_nil) (fun _ _ _ _ _ => (pi_tup (pv 1))) (fun _ _ _ _ _ => (pg_name (i := 2) sc_heads_of.nd rfl (.inl rfl))) (fun _ _ _ _ _ => pts_nil) (fun _ _ _ _ _ => (pv 2)) (fun _ _ _ _ _ => (pe_ix (r := rIxT K) ix_tup (pv 1) pe_int (fun _ _ => rfl)))))), ?_⟩
    refine ⟨v, rfl, v, n, ts, rfl, hW, ok, fun v' H1 s1 hP => ?_⟩
    obtain ⟨Pa, bs, rfl, hPa, hbs⟩ := hP
    have n40 : n ≤ 40 := by have := ok.hi; omega
    refine ⟨Pa, rfl, ⟨_, SqT.of hPa⟩, fun D nD => ?_⟩
    refine it_gen (walk_tup (xs := bs)) (fun i H' => ∃ ks : List Int, H' D = some (.dK (kF ks fun x => .int (hd ts x))) ∧ ks.Nodup ∧ (∀ x ∈ ks, 0 ≤ x ∧ x < (n : Int)) ∧ (∀ x, x ∈ ks ↔ ∃ P ∈ (partsTo (frs ts) n n).take i, x ∈ P) ∧ Same H1 H') ⟨[], upd_same, List.nodup_nil, fun x hx => (by cases hx), fun x => (by simp), same_new nD⟩ (fun i H' _ ⟨_, _, _, _, _, s⟩ => SqT.of (s _ _ hPa)) ?_ ?_
    · rintro i x H2 H3 hi ⟨ks, hD, ndk, rk, mk, s2⟩ ⟨rfl, ex⟩
      obtain ⟨P, eP, b, rfl, hb⟩ := Paired.at hbs ex
      obtain ⟨m, hm, lm, rfl⟩ := mem_parts65.mp (List.mem_of_getElem? eP)
      have hb3 := s2 _ _ hb
      have etk : (partsTo (frs ts) n n).take (i + 1) = (partsTo (frs ts) n n).take i ++ [partOf (frs ts) n m] := take_snoc eP
      refine ⟨rfl, .ref b, rfl, b, rfl, ⟨_, SqT.of hb3⟩, ?_⟩
      refine it_gen (walk_tup (xs := (partOf (frs ts) n m).map V.int)) (fun j H' => ∃ ls : List Int, H' D = some (.dK (kF ls fun x => .int (hd ts x))) ∧ ls.Nodup ∧ (∀ x ∈ ls, 0 ≤ x ∧ x < (n : Int)) ∧ (∀ x, x ∈ ls ↔ x ∈ ks ∨ x ∈ (partOf (frs ts) n m).take j) ∧ Same H1 H') ⟨ks, hD, ndk, rk, fun x => (by simp), s2⟩ (fun j H' _ ⟨_, _, _, _, _, s⟩ => SqT.of (s _ _ hb)) ?_ ?_
      · rintro j y H4 H5 hj ⟨ls, hD4, ndl, rl, ml, s4⟩ ⟨rfl, ey⟩
        rw [List.getElem?_map] at ey
        obtain ⟨y, ey', rfl⟩ := Option.map_eq_some_iff.mp ey
        have hy := mem_part.mp (List.mem_of_getElem? ey')
        have ehd : hd ts y = m := hd_is ok.ok hy.1 lm hy.2
        have etk2 : (partOf (frs ts) n m).take (j + 1) = (partOf (frs ts) n m).take j ++ [y] := take_snoc ey'
        have ll := sub_len65 (ks := ls) (ns := rng n) ndl fun x hx => mem_rng.mpr (rl x hx)
        rw [rng_length] at ll
        refine ⟨rfl, .int y, rfl, .ref b, rfl, b, _, 0, .int m, rfl, rfl, SqT.of (s4 _ _ hb), atI_of (by decide) (by rw [List.getElem?_map]; show Option.map V.int ((partOf (frs ts) n m)[0]?) = _; rw [part_first lm hm]; rfl), _, Sum.inl y, rfl, hD4, by rw [kF_len]; exact small1000 (by omega), ?_⟩
        by_cases hyl : y ∈ ls
        · refine ⟨ls, ?_, ndl, rl, fun x => ?_, Same.mut s4 nD⟩
          · rw [upd_same, kF_old hyl]
            congr 2
            exact kF_congr fun x _ => by split <;> simp_all
          · rw [ml x, etk2, List.mem_append, List.mem_singleton]
            exact ⟨fun h => h.imp id .inl, fun h => h.elim .inl fun h => h.elim .inr fun e => by rw [e]; exact (ml y).mp hyl⟩
        · refine ⟨ls ++ [y], ?_, ?_, fun x hx => ?_, fun x => ?_, Same.mut s4 nD⟩
          · rw [upd_same, kF_new hyl]
            congr 2
            exact kF_congr fun x _ => by split <;> simp_all
          · rw [List.nodup_append]
            exact ⟨ndl, by simp, fun u hu v hv => by rw [List.mem_singleton.mp hv]; exact fun e => hyl (by rw [← e]; exact hu)⟩
          · rcases List.mem_append.mp hx with z | z
            · exact rl x z
            · rw [List.mem_singleton.mp z]; exact hy.1
          · rw [List.mem_append, List.mem_singleton, ml x, etk2, List.mem_append, List.mem_singleton, or_assoc]
      · rintro H4 ⟨ls, hD4, ndl, rl, ml, s4⟩
        rw [List.length_map, List.take_length] at ml
        refine ⟨ls, hD4, ndl, rl, fun x => ?_, s4⟩
        rw [ml x, mk x, etk]
        constructor
        · rintro (⟨P, hP, hx⟩ | hx)
          · exact ⟨P, List.mem_append_left _ hP, hx⟩
          · exact ⟨_, by simp, hx⟩
        · rintro ⟨P, hP, hx⟩
          rcases List.mem_append.mp hP with z | z
          · exact .inl ⟨P, z, hx⟩
          · rw [List.mem_singleton.mp z] at hx
            exact .inr hx
    · rintro H2 ⟨ks, hD, ndk, rk, mk, s2⟩
      have lb := Paired.length hbs
      rw [lb, List.take_length] at mk
      refine q D H2 (s1.trans s2) ⟨ks, hD, ndk, fun x => ⟨rk x, fun hx => (mk x).mpr ?_⟩⟩
      obtain ⟨h1, h2, h3⟩ := hd_spec ok.ok hx
      exact ⟨partOf (frs ts) n (hd ts x), mem_parts65.mpr ⟨_, h2, h1, rfl⟩, mem_part.mpr ⟨hx, h3⟩⟩
end
/-! ### a stand: what is kept, by flags (mathematics) -/
def kt : List Tie → List Bool → List Tie
  | t :: ts, b :: fl => if b = true then t :: kt ts fl else kt ts fl
  | _, _ => []
theorem kt_snoc {t : Tie} {b : Bool} : ∀ {ts : List Tie} {fl : List Bool}, ts.length = fl.length → kt (ts ++ [t]) (fl ++ [b]) = kt ts fl ++ (if b = true then [t] else [])
  | [], [], _ => by cases b <;> rfl
  | x :: ts, c :: fl, h => by
    have ih := kt_snoc (t := t) (b := b) (ts := ts) (fl := fl) (by simpa using h)
    show (if c = true then x :: kt (ts ++ [t]) (fl ++ [b]) else kt (ts ++ [t]) (fl ++ [b])) = (if c = true then x :: kt ts fl else kt ts fl) ++ _
    cases c
    · rw [if_neg (by simp), if_neg (by simp), ih]
    · rw [if_pos rfl, if_pos rfl, ih]
      rfl
theorem mem_kt {t : Tie} : ∀ {ts : List Tie} {fl : List Bool}, t ∈ kt ts fl ↔ ∃ i : Nat, ts[i]? = some t ∧ fl[i]? = some true
  | [], fl => by simp [kt]
  | _ :: _, [] => by simp [kt]
  | x :: ts, c :: fl => by
    have ih := mem_kt (t := t) (ts := ts) (fl := fl)
    show t ∈ (if c = true then x :: kt ts fl else kt ts fl) ↔ _
    constructor
    · intro h
      cases c
      · rw [if_neg (by simp)] at h
        obtain ⟨i, h1, h2⟩ := ih.mp h
        exact ⟨i + 1, by simpa using h1, by simpa using h2⟩
      · rw [if_pos rfl] at h
        rcases List.mem_cons.mp h with e | e
        · exact ⟨0, by simp [e], by simp⟩
        · obtain ⟨i, h1, h2⟩ := ih.mp e
          exact ⟨i + 1, by simpa using h1, by simpa using h2⟩
    · rintro ⟨i, h1, h2⟩
      cases i with
      | zero =>
        simp at h1 h2
        subst h1
        subst h2
        rw [if_pos rfl]
        simp
      | succ i =>
        have := ih.mpr ⟨i, by simpa using h1, by simpa using h2⟩
        cases c
        · rw [if_neg (by simp)]
          exact this
        · rw [if_pos rfl]
          exact List.mem_cons_of_mem _ this
theorem kt_sub {t : Tie} {ts : List Tie} {fl : List Bool} (h : t ∈ kt ts fl) : t ∈ ts := by
  obtain ⟨i, h1, _⟩ := mem_kt.mp h
  exact List.mem_of_getElem? h1
def knT (fl : List Bool) (v : Bool) : List Int := (rng fl.length).filter fun i => fl.getD i.toNat false == v
theorem knT_snoc (fl : List Bool) (b v : Bool) : knT (fl ++ [b]) v = knT fl v ++ (if b = v then [(fl.length : Int)] else []) := by
  unfold knT
  rw [List.length_append]
  show (rng (fl.length + 1)).filter _ = _
  rw [rng_succ, List.filter_append]
  congr 1
  · refine List.filter_congr fun i hi => ?_
    have := mem_rng.mp hi
    rw [List.getD_eq_getElem?_getD, List.getD_eq_getElem?_getD, List.getElem?_append_left (by omega)]
  · have e : (fl ++ [b]).getD (fl.length : Int).toNat false = b := by
      rw [List.getD_eq_getElem?_getD, Int.toNat_natCast, List.getElem?_append_right (Nat.le_refl _)]
      simp
    by_cases h : b = v
    · rw [if_pos h, List.filter_cons_of_pos (by rw [e, h]; simp)]
      rfl
    · rw [if_neg h, List.filter_cons_of_neg (by rw [e]; simpa using h)]
      rfl
theorem mem_knT {fl : List Bool} {v : Bool} {i : Int} : i ∈ knT fl v ↔ (0 ≤ i ∧ i < fl.length) ∧ fl[i.toNat]? = some v := by
  unfold knT
  rw [List.mem_filter, mem_rng]
  constructor
  · rintro ⟨h, e⟩
    refine ⟨h, ?_⟩
    have hl : i.toNat < fl.length := by omega
    rw [List.getD_eq_getElem?_getD, List.getElem?_eq_getElem hl] at e
    rw [List.getElem?_eq_getElem hl]
    have e : (fl[i.toNat] == v) = true := e
    rw [beq_iff_eq] at e
    rw [e]
  · rintro ⟨h, e⟩
    refine ⟨h, ?_⟩
    rw [List.getD_eq_getElem?_getD, e]
    simp
theorem knT_len (fl : List Bool) (v : Bool) : (knT fl v).length ≤ fl.length := by
  have := List.length_filter_le (fun i : Int => fl.getD i.toNat false == v) (rng fl.length)
  rw [rng_length] at this
  exact this
theorem adj_kt {ts : List Tie} {fl : List Bool} (hl : ts.length = fl.length) {x y : Int} {k : Bool} : Adj (kt ts fl) x y k ↔ ∃ m ∈ knT fl true, Jn (tieN ts m.toNat) x y ∧ (tieN ts m.toNat).foe = k := by
  unfold Adj Jn
  constructor
  · rintro ⟨t, ht, e, q⟩
    obtain ⟨i, h1, h2⟩ := mem_kt.mp ht
    have hi : i < fl.length := (List.getElem?_eq_some_iff.mp h2).1
    refine ⟨(i : Int), mem_knT.mpr ⟨by omega, by rw [Int.toNat_natCast]; exact h2⟩, ?_⟩
    rw [Int.toNat_natCast, tieN_of h1]
    exact ⟨q, e⟩
  · rintro ⟨m, hm, q, e⟩
    obtain ⟨⟨m0, m1⟩, h2⟩ := mem_knT.mp hm
    have hi : m.toNat < ts.length := by omega
    have h1 : ts[m.toNat]? = some (tieN ts m.toNat) := by
      unfold tieN
      rw [List.getD_eq_getElem?_getD, List.getElem?_eq_getElem hi]
      rfl
    exact ⟨tieN ts m.toNat, mem_kt.mpr ⟨_, h1, h2⟩, e, q⟩
def fpar (ts : List Tie) : List Int → Bool
  | [] => false
  | m :: ns => (tieN ts m.toNat).foe ^^ fpar ts ns
theorem way_rp {ts : List Tie} {fl : List Bool} (hl : ts.length = fl.length) {e s : Int} {qs ns : List Int} (h : Way (nN ts (knT fl true)) e s qs ns) : RP (kt ts fl) s e (fpar ts ns) := by
  induction h with
  | one => exact .nil
  | cons w hm _ ih =>
    obtain ⟨h1, h2⟩ := mem_nN.mp hm
    exact (RP.one ((adj_kt hl).mpr ⟨_, h1, h2, rfl⟩)).trans ih
def cntF (ts : List Tie) (ns : List Int) : Nat := (ns.filter fun m => (tieN ts m.toNat).foe).length
theorem cntF_par (ts : List Tie) : ∀ ns : List Int, decide (((cntF ts ns : Nat) : Int) % 2 = 1) = fpar ts ns
  | [] => rfl
  | m :: ns => by
    have ih := cntF_par ts ns
    show _ = ((tieN ts m.toNat).foe ^^ fpar ts ns)
    rw [← ih]
    unfold cntF
    cases h : (tieN ts m.toNat).foe
    · rw [List.filter_cons_of_neg (by simp [h])]
      simp
    · rw [List.filter_cons_of_pos (by simp [h]), List.length_cons]
      rw [show ((((ns.filter fun m => (tieN ts m.toNat).foe).length + 1 : Nat) : Int)) = (((ns.filter fun m => (tieN ts m.toNat).foe).length : Nat) : Int) + 1 from by omega]
      generalize (((ns.filter fun m => (tieN ts m.toNat).foe).length : Nat) : Int) = z
      rw [Bool.eq_iff_iff]
      simp only [decide_eq_true_eq, Bool.true_xor, Bool.not_eq_true', decide_eq_false_iff_not]
      omega
theorem fpar_snoc (ts : List Tie) (ns : List Int) (m : Int) : fpar ts (ns ++ [m]) = (fpar ts ns ^^ (tieN ts m.toNat).foe) := by
  induction ns with
  | nil =>
    show ((tieN ts m.toNat).foe ^^ false) = (false ^^ (tieN ts m.toNat).foe)
    cases (tieN ts m.toNat).foe <;> rfl
  | cons x ns ih =>
    show ((tieN ts x.toNat).foe ^^ fpar ts (ns ++ [m])) = (((tieN ts x.toNat).foe ^^ fpar ts ns) ^^ _)
    rw [ih, Bool.xor_assoc]
def Kps (kts : List Tie) (t : Tie) : Prop := ¬ Rch kts t.one t.other ∨ RP kts t.one t.other t.foe
theorem xor3 (a b c : Bool) : (a ^^ c) = ((a ^^ b) ^^ (b ^^ c)) := by cases a <;> cases b <;> cases c <;> rfl
theorem xor3' (a b c : Bool) : (a ^^ c) = ((a ^^ b) ^^ (c ^^ b)) := by cases a <;> cases b <;> cases c <;> rfl
/-- sides that hold -/
theorem GS.walk {ts : List Tie} {n : Nat} {g s : Int → Int} (h : GS ts n g s true) {x y : Int} {p : Bool} (r : RP ts x y p) : (bit (s x) ^^ bit (s y)) = p := by
  induction r with
  | nil => exact Bool.xor_self _
  | step r ad ih =>
    obtain ⟨t, ht, e, q⟩ := ad
    have hy := h.yes rfl t ht
    rw [← e, ← hy]
    rcases q with ⟨q1, q2⟩ | ⟨q1, q2⟩
    · rw [q1, q2, ← ih]
      exact xor3 _ _ _
    · rw [q1, q2, ← ih]
      exact xor3' _ _ _
theorem GS.calm {ts : List Tie} {n : Nat} {g s : Int → Int} (h : GS ts n g s true) : ¬ Odd ts n := by
  rintro ⟨x, _, r⟩
  have := h.walk r
  rw [Bool.xor_self] at this
  cases this
theorem rp_one {ts : List Tie} {n : Nat} (h : ¬ Odd ts n) {x y : Int} (hx : 0 ≤ x ∧ x < n) {p q : Bool} (r : RP ts x y p) (r' : RP ts x y q) : p = q := by
  by_cases e : p = q
  · exact e
  · refine absurd ⟨x, hx, ?_⟩ h
    have := r.trans r'.symm
    rw [show (p ^^ q) = true from by cases p <;> cases q <;> simp_all] at this
    exact this
theorem GS.keeps {ts : List Tie} {n : Nat} {g s : Int → Int} (h : GS ts n g s true) {t : Tie} (ok : TieOk n t) : Kps ts t ↔ (g t.one ≠ g t.other ∨ (bit (s t.one) ^^ bit (s t.other)) = t.foe) := by
  have back : g t.one = g t.other → Rch ts t.one t.other := fun e => by
    have r1 : Rch ts (g t.one) t.one := ⟨_, h.rp t.one ok.1 ok.2.1⟩
    have r2 : Rch ts (g t.other) t.other := ⟨_, h.rp t.other ok.2.2.1 ok.2.2.2.1⟩
    rw [← e] at r2
    exact r1.symm.trans r2
  constructor
  · rintro (h1 | h1)
    · exact .inl fun e => h1 (back e)
    · exact .inr (h.walk h1)
  · rintro (h1 | h1)
    · exact .inl fun r => h1 (h.same r)
    · by_cases r : Rch ts t.one t.other
      · obtain ⟨p, rp⟩ := r
        have := h.walk rp
        rw [h1] at this
        rw [← this] at rp
        exact .inr rp
      · exact .inl r
theorem Odd.mono {ts us : List Tie} {n : Nat} (h : ∀ t ∈ ts, t ∈ us) (o : Odd ts n) : Odd us n := by
  obtain ⟨x, hx, r⟩ := o
  exact ⟨x, hx, r.mono h⟩
/-! ### walks -/
theorem sub_len : ∀ {ks ns : List Int}, ks.Nodup → (∀ x ∈ ks, x ∈ ns) → ks.length ≤ ns.length
  | [], _, _, _ => Nat.zero_le _
  | k :: ks, ns, nd, h => by
    rw [List.nodup_cons] at nd
    have hk := h k (by simp)
    have q := sub_len (ks := ks) (ns := ns.erase k) nd.2 fun x hx => (List.mem_erase_of_ne (fun z => nd.1 (by rw [← z]; exact hx))).mpr (h x (List.mem_cons_of_mem _ hx))
    rw [List.length_erase_of_mem hk] at q
    have : 0 < ns.length := List.length_pos_of_mem hk
    rw [List.length_cons]
    omega
theorem WF.lev {N : Int → List Nu} {s : Int} {ws : List We} (h : WF N s ws) : ∀ (k : Nat) (y : Int) (f : Option (Int × Int)), (y, k, f) ∈ ws → ∃ l : List Int, l.length = k + 1 ∧ l.Nodup ∧ ∀ x ∈ l, ∃ j g, (x, j, g) ∈ ws ∧ j ≤ k
  | 0, y, f, hy => ⟨[y], rfl, by simp, fun x hx => ⟨0, f, by rw [List.mem_singleton.mp hx]; exact hy, Nat.le_refl _⟩⟩
  | k + 1, y, none, hy => by
    have := (h.non _ _ hy).2
    omega
  | k + 1, y, some (p, m), hy => by
    obtain ⟨j, g, hp, e, _⟩ := h.par _ _ _ _ hy
    have : j = k := by omega
    subst this
    obtain ⟨l, l1, l2, l3⟩ := WF.lev h j p g hp
    refine ⟨y :: l, by rw [List.length_cons, l1], List.nodup_cons.mpr ⟨fun hin => ?_, l2⟩, fun x hx => ?_⟩
    · obtain ⟨i, g', h1, h2⟩ := l3 y hin
      have := (we_one h.nd hy h1).1
      omega
    · rcases List.mem_cons.mp hx with z | z
      · exact ⟨j + 1, _, by rw [z]; exact hy, Nat.le_refl _⟩
      · obtain ⟨i, g', h1, h2⟩ := l3 x z
        exact ⟨i, g', h1, by omega⟩
theorem WF.low {N : Int → List Nu} {s : Int} {ws : List We} (h : WF N s ws) {k : Nat} {y : Int} {f : Option (Int × Int)} (hy : (y, k, f) ∈ ws) : k < ws.length := by
  obtain ⟨l, l1, l2, l3⟩ := h.lev k y f hy
  have := sub_len (ns := ws.map (·.1)) l2 fun x hx => by
    obtain ⟨j, g, h1, _⟩ := l3 x hx
    exact List.mem_map.mpr ⟨_, h1, rfl⟩
  rw [List.length_map] at this
  omega
theorem WF.reach {ts : List Tie} {fl : List Bool} (hl : ts.length = fl.length) {s : Int} {ws : List We} (h : WF (nN ts (knT fl true)) s ws) (y : Int) : y ∈ ws.map (·.1) ↔ Rch (kt ts fl) s y := by
  constructor
  · intro hy
    obtain ⟨k, f, he⟩ := we_key hy
    induction k generalizing y f with
    | zero =>
      cases f with
      | none =>
        rw [(h.non _ _ he).1]
        exact Rch.refl
      | some pm =>
        obtain ⟨j, g, _, e, _⟩ := h.par y 0 pm.1 pm.2 he
        omega
    | succ k ih =>
      cases f with
      | none =>
        have := (h.non _ _ he).2
        omega
      | some pm =>
        obtain ⟨j, g, hp, e, hm⟩ := h.par y (k + 1) pm.1 pm.2 he
        have : j = k := by omega
        subst this
        have r := ih pm.1 (List.mem_map.mpr ⟨_, hp, rfl⟩) g hp
        obtain ⟨h1, h2⟩ := mem_nN.mp hm
        exact r.trans (Rch.adj ((adj_kt hl).mpr ⟨_, h1, h2, rfl⟩))
  · intro r
    refine r.ind (fun x => x ∈ ws.map (·.1)) (List.mem_map.mpr ⟨_, h.root, rfl⟩) fun x y k hx ad => ?_
    obtain ⟨k', f, he⟩ := we_key hx
    obtain ⟨m, hm, hj, _⟩ := (adj_kt hl).mp ad
    obtain ⟨kk, ff, h1, _⟩ := h.cl _ he (y, m) (mem_nN.mpr ⟨hm, hj⟩)
    exact List.mem_map.mpr ⟨_, h1, rfl⟩
theorem Paired.unsnoc {α β : Type} {F : α → β → Prop} {b : β} : ∀ {m : List β} {l : List α}, Paired F l (m ++ [b]) → ∃ l' a, l = l' ++ [a] ∧ Paired F l' m ∧ F a b
  | [], _, .cons r .nil => ⟨[], _, rfl, .nil, r⟩
  | y :: m, _, .cons r t => by
    obtain ⟨l', a, e, h1, h2⟩ := Paired.unsnoc t
    exact ⟨_ :: l', a, by rw [e]; rfl, .cons r h1, h2⟩
theorem Way.num {ts : List Tie} {kn : List Int} {e s : Int} {qs ns : List Int} (h : Way (nN ts kn) e s qs ns) : ∀ m ∈ ns, m ∈ kn := by
  induction h with
  | one =>
    intro m hm
    cases hm
  | cons _ hm _ ih =>
    intro m hmm
    rcases List.mem_cons.mp hmm with z | z
    · rw [z]
      exact (mem_nN.mp hm).1
    · exact ih m z
/-! ### the ring that is told, by its way (mathematics) -/
theorem Way.head {N : Int → List Nu} {e s : Int} {qs ns : List Int} (h : Way N e s qs ns) : qs[0]? = some s := by cases h <;> rfl
theorem Way.last {N : Int → List Nu} {e s : Int} {qs ns : List Int} (h : Way N e s qs ns) : qs[ns.length]? = some e := by
  induction h with
  | one => rfl
  | cons _ _ _ ih => simpa using ih
theorem Way.each {N : Int → List Nu} {e s : Int} {qs ns : List Int} (h : Way N e s qs ns) : ∀ k : Nat, k < ns.length → ∃ x y m, qs[k]? = some x ∧ qs[k + 1]? = some y ∧ ns[k]? = some m ∧ (y, m) ∈ N x := by
  induction h with
  | one => exact fun k hk => absurd hk (by simp)
  | cons w hm _ ih =>
    intro k hk
    cases k with
    | zero => exact ⟨_, _, _, rfl, by simpa using w.head, rfl, hm⟩
    | succ k =>
      obtain ⟨x, y, m, h1, h2, h3, h4⟩ := ih k (by simpa using hk)
      exact ⟨x, y, m, by simpa using h1, by simpa using h2, by simpa using h3, h4⟩
theorem Way.nd {N : Int → List Nu} {e s : Int} {qs ns : List Int} (h : Way N e s qs ns) : qs.Nodup := by
  induction h with
  | one => simp
  | cons _ _ hp ih => exact List.nodup_cons.mpr ⟨hp, ih⟩
theorem Way.ends {ts : List Tie} {kn : List Int} {e s : Int} {qs ns : List Int} (h : Way (nN ts kn) e s qs ns) : ∀ m ∈ ns, (tieN ts m.toNat).one ∈ qs ∧ (tieN ts m.toNat).other ∈ qs := by
  induction h with
  | one => exact fun m hm => absurd hm (by simp)
  | cons w hm _ ih =>
    intro m hmm
    rcases List.mem_cons.mp hmm with z | z
    · subst z
      obtain ⟨_, j⟩ := mem_nN.mp hm
      have hc := List.mem_of_getElem? w.head
      rcases j with ⟨j1, j2⟩ | ⟨j1, j2⟩
      · rw [j1, j2]
        exact ⟨List.mem_cons_self, List.mem_cons_of_mem _ hc⟩
      · rw [j1, j2]
        exact ⟨List.mem_cons_of_mem _ hc, List.mem_cons_self⟩
    · obtain ⟨h1, h2⟩ := ih m z
      exact ⟨List.mem_cons_of_mem _ h1, List.mem_cons_of_mem _ h2⟩
theorem Way.ndn {ts : List Tie} {kn : List Int} {e s : Int} {qs ns : List Int} (h : Way (nN ts kn) e s qs ns) : ns.Nodup := by
  induction h with
  | one => simp
  | cons w hm hp ih =>
    refine List.nodup_cons.mpr ⟨fun hin => ?_, ih⟩
    obtain ⟨h1, h2⟩ := w.ends _ hin
    obtain ⟨_, j⟩ := mem_nN.mp hm
    rcases j with ⟨j1, j2⟩ | ⟨j1, j2⟩
    · exact hp (by rw [← j1]; exact h1)
    · exact hp (by rw [← j2]; exact h2)
theorem tieN_left {ts : List Tie} {t : Tie} {m : Int} (h : m < (ts.length : Int)) (h0 : 0 ≤ m) : tieN (ts ++ [t]) m.toNat = tieN ts m.toNat := by
  unfold tieN
  rw [List.getD_eq_getElem?_getD, List.getD_eq_getElem?_getD, List.getElem?_append_left (by omega)]
theorem tieN_right (ts : List Tie) (t : Tie) : tieN (ts ++ [t]) (ts.length : Int).toNat = t := by
  unfold tieN
  rw [List.getD_eq_getElem?_getD, Int.toNat_natCast, List.getElem?_append_right (Nat.le_refl _)]
  simp
/-- a ring through the tie that comes -/
structure RingN (n : Nat) (ts : List Tie) (fl : List Bool) (t : Tie) (qs ms : List Int) : Prop where
  len : qs.length = ms.length
  two : 2 ≤ qs.length
  few : ms.length ≤ 121
  own : (ts.length : Int) ∈ ms
  q : ∀ x ∈ qs, 0 ≤ x ∧ x < (n : Int)
  m : ∀ x ∈ ms, x ∈ knT fl true ∨ x = (ts.length : Int)
  qd : qs.Nodup
  md : ms.Nodup
  each : ∀ k : Nat, k < ms.length → ∃ x y m, qs[k]? = some x ∧ qs[(k + 1) % qs.length]? = some y ∧ ms[k]? = some m ∧ Jn (tieN (ts ++ [t]) m.toNat) x y
  par : fpar (ts ++ [t]) ms = true
theorem Way.ring {n : Nat} {ts : List Tie} {fl : List Bool} {t : Tie} {qs ns : List Int} (h : Way (nN ts (knT fl true)) t.other t.one qs ns) (hl : ts.length = fl.length) (few : ts.length ≤ 120) (ok : ∀ t ∈ ts, TieOk n t) (okt : TieOk n t) (hp : (fpar ts ns ^^ t.foe) = true) : RingN n ts fl t qs (ns ++ [(ts.length : Int)]) := by
  have hlen := h.len
  have num := h.num
  have kin : ∀ m ∈ knT fl true, 0 ≤ m ∧ m < (ts.length : Int) := fun m hm => by
    have := (mem_knT.mp hm).1
    omega
  have hne : ns ≠ [] := fun z => by
    have h1 := h.last
    rw [z, List.length_nil, h.head] at h1
    exact okt.2.2.2.2 (Option.some.inj h1)
  have hpos : 0 < ns.length := List.length_pos_iff.mpr hne
  have qrng : ∀ x ∈ qs, 0 ≤ x ∧ x < (n : Int) := by
    intro x hx
    obtain ⟨i, hi⟩ := List.getElem?_of_mem hx
    have hil : i < qs.length := (List.getElem?_eq_some_iff.mp hi).1
    by_cases hin : i < ns.length
    · obtain ⟨x', y, m, h1, h2, h3, h4⟩ := h.each i hin
      rw [hi] at h1
      obtain rfl := Option.some.inj h1
      obtain ⟨hm, j⟩ := mem_nN.mp h4
      have hm2 := kin m hm
      have o := ok (tieN ts m.toNat) (by
        unfold tieN
        rw [List.getD_eq_getElem?_getD, List.getElem?_eq_getElem (by omega)]
        exact List.getElem_mem _)
      rcases j with ⟨j1, _⟩ | ⟨_, j2⟩
      · rw [← j1]
        exact ⟨o.1, o.2.1⟩
      · rw [← j2]
        exact ⟨o.2.2.1, o.2.2.2.1⟩
    · have : i = ns.length := by omega
      rw [this, h.last] at hi
      rw [← Option.some.inj hi]
      exact ⟨okt.2.2.1, okt.2.2.2.1⟩
  have mlt : ns.length ≤ 120 := by
    have q1 : ns.length ≤ (knT fl true).length := by
      have : ∀ (as bs : List Int), as.Nodup → (∀ x ∈ as, x ∈ bs) → as.length ≤ bs.length := fun as => by
        induction as with
        | nil => exact fun _ _ _ => Nat.zero_le _
        | cons a as ih =>
          intro bs nd hs
          rw [List.nodup_cons] at nd
          have ha := hs a (by simp)
          have := ih (bs.erase a) nd.2 fun x hx => (List.mem_erase_of_ne (fun z => nd.1 (by rw [← z]; exact hx))).mpr (hs x (List.mem_cons_of_mem _ hx))
          rw [List.length_erase_of_mem ha] at this
          have : 0 < bs.length := List.length_pos_of_mem ha
          rw [List.length_cons]
          omega
      exact this _ _ h.ndn num
    have := knT_len fl true
    omega
  refine ⟨by simp [hlen], by omega, by simp; omega, by simp, qrng, fun x hx => ?_, h.nd, ?_, fun k hk => ?_, ?_⟩
  · rcases List.mem_append.mp hx with z | z
    · exact .inl (num x z)
    · exact .inr (List.mem_singleton.mp z)
  · refine List.nodup_append.mpr ⟨h.ndn, by simp, fun a ha b hb => ?_⟩
    rw [List.mem_singleton.mp hb]
    have := kin a (num a ha)
    omega
  · rw [List.length_append] at hk
    by_cases hin : k < ns.length
    · obtain ⟨x, y, m, h1, h2, h3, h4⟩ := h.each k hin
      obtain ⟨hm, j⟩ := mem_nN.mp h4
      have hm2 := kin m hm
      refine ⟨x, y, m, h1, ?_, ?_, ?_⟩
      · rw [Nat.mod_eq_of_lt (by omega)]
        exact h2
      · rw [List.getElem?_append_left hin]
        exact h3
      · rw [tieN_left hm2.2 hm2.1]
        exact j
    · have : k = ns.length := by simp at hk; omega
      subst this
      refine ⟨t.other, t.one, (ts.length : Int), h.last, ?_, ?_, ?_⟩
      · rw [hlen, Nat.mod_self]
        exact h.head
      · rw [List.getElem?_append_right (Nat.le_refl _)]
        simp
      · rw [tieN_right]
        exact .inr ⟨rfl, rfl⟩
  · rw [fpar_snoc, tieN_right, ← hp]
    congr 1
    have e2 : ∀ ms : List Int, (∀ m ∈ ms, m ∈ knT fl true) → fpar (ts ++ [t]) ms = fpar ts ms := fun ms => by
      induction ms with
      | nil => exact fun _ => rfl
      | cons m ms ih =>
        intro hm
        show ((tieN (ts ++ [t]) m.toNat).foe ^^ fpar (ts ++ [t]) ms) = ((tieN ts m.toNat).foe ^^ fpar ts ms)
        have := kin m (hm m (by simp))
        rw [tieN_left this.2 this.1, ih fun x hx => hm x (List.mem_cons_of_mem _ hx)]
    exact e2 ns num
theorem cntF_snoc (ts : List Tie) (ms : List Int) (m : Int) : ((cntF ts (ms ++ [m]) : Nat) : Int) = (cntF ts ms : Nat) + (if (tieN ts m.toNat).foe = true then 1 else 0) := by
  unfold cntF
  rw [List.filter_append, List.length_append]
  cases h : (tieN ts m.toNat).foe
  · rw [List.filter_cons_of_neg (by simp [h])]
    simp
  · rw [List.filter_cons_of_pos (by simp [h])]
    simp
theorem jn_sort {T : Tie} {x y : Int} (j : Jn T x y) : [min T.one T.other, max T.one T.other] = [min x y, max x y] := by
  rcases j with ⟨h1, h2⟩ | ⟨h1, h2⟩
  · rw [h1, h2]
  · rw [h1, h2, Int.min_comm, Int.max_comm]
/-! ### a ring with one foe -/
def frF (ts : List Tie) : List Bool := ts.map fun t => !t.foe
theorem kt_frs : ∀ ts : List Tie, kt ts (frF ts) = frs ts
  | [] => rfl
  | t :: ts => by
    have ih := kt_frs ts
    show (if (!t.foe) = true then t :: kt ts (frF ts) else kt ts (frF ts)) = (t :: ts).filter fun t => !t.foe
    rw [ih]
    cases h : t.foe
    · rw [List.filter_cons_of_pos (by rw [h]; rfl)]; rfl
    · rw [List.filter_cons_of_neg (by rw [h]; decide)]; rfl
theorem frF_len (ts : List Tie) : ts.length = (frF ts).length := by unfold frF; rw [List.length_map]
def frn (ts : List Tie) : List Int := knT (frF ts) true
theorem mem_frn {ts : List Tie} {m : Int} : m ∈ frn ts ↔ (0 ≤ m ∧ m < (ts.length : Int)) ∧ (tieN ts m.toNat).foe = false := by
  unfold frn
  rw [mem_knT, ← frF_len]
  constructor
  · rintro ⟨h1, h2⟩
    refine ⟨h1, ?_⟩
    unfold frF at h2
    rw [List.getElem?_map] at h2
    obtain ⟨t, ht, e⟩ := Option.map_eq_some_iff.mp h2
    rw [tieN_of ht]
    cases h : t.foe
    · rfl
    · rw [h] at e; cases e
  · rintro ⟨h1, h2⟩
    refine ⟨h1, ?_⟩
    have ht : ts[m.toNat]? = some (ts[m.toNat]'(by omega)) := List.getElem?_eq_getElem _
    unfold frF
    rw [List.getElem?_map, ht]
    rw [tieN_of ht] at h2
    rw [Option.map_some, h2]
    rfl
structure Ring1 (n : Nat) (ts : List Tie) (qs ms : List Int) : Prop where
  len : qs.length = ms.length
  two : 2 ≤ qs.length
  few : ms.length ≤ 121
  q : ∀ x ∈ qs, 0 ≤ x ∧ x < (n : Int)
  m : ∀ x ∈ ms, 0 ≤ x ∧ x < (ts.length : Int)
  qd : qs.Nodup
  md : ms.Nodup
  each : ∀ k : Nat, k < ms.length → ∃ x y m, qs[k]? = some x ∧ qs[(k + 1) % qs.length]? = some y ∧ ms[k]? = some m ∧ Jn (tieN ts m.toNat) x y
  one : ms.filter (fun m => (tieN ts m.toNat).foe) = [ms.getLastD 0]
theorem Way.ring1 {n : Nat} {ts : List Tie} {t : Tie} {i : Nat} {qs ns : List Int} (h : Way (nN ts (frn ts)) t.other t.one qs ns) (few : ts.length ≤ 120) (ok : ∀ t ∈ ts, TieOk n t) (ht : ts[i]? = some t) (hf : t.foe = true) : Ring1 n ts qs (ns ++ [(i : Int)]) := by
  have okt := ok t (List.mem_of_getElem? ht)
  have il := (List.getElem?_eq_some_iff.mp ht).1
  have hlen := h.len
  have num := h.num
  have kin : ∀ m ∈ frn ts, (0 ≤ m ∧ m < (ts.length : Int)) ∧ (tieN ts m.toNat).foe = false := fun m hm => mem_frn.mp hm
  have eti : tieN ts ((i : Nat) : Int).toNat = t := tieN_of (by rw [show ((i : Nat) : Int).toNat = i from by omega]; exact ht)
  have hne : ns ≠ [] := fun z => by
    have h1 := h.last
    rw [z, List.length_nil, h.head] at h1
    exact okt.2.2.2.2 (Option.some.inj h1)
  have hpos : 0 < ns.length := List.length_pos_iff.mpr hne
  have qrng : ∀ x ∈ qs, 0 ≤ x ∧ x < (n : Int) := by
    intro x hx
    obtain ⟨j, hj⟩ := List.getElem?_of_mem hx
    have hil : j < qs.length := (List.getElem?_eq_some_iff.mp hj).1
    by_cases hin : j < ns.length
    · obtain ⟨x', y, m, h1, h2, h3, h4⟩ := h.each j hin
      rw [hj] at h1
      obtain rfl := Option.some.inj h1
      obtain ⟨hm, jn⟩ := mem_nN.mp h4
      have hm2 := (kin m hm).1
      have o := ok (tieN ts m.toNat) (by
        unfold tieN
        rw [List.getD_eq_getElem?_getD, List.getElem?_eq_getElem (by omega)]
        exact List.getElem_mem _)
      rcases jn with ⟨j1, _⟩ | ⟨_, j2⟩
      · rw [← j1]
        exact ⟨o.1, o.2.1⟩
      · rw [← j2]
        exact ⟨o.2.2.1, o.2.2.2.1⟩
    · have : j = ns.length := by omega
      rw [this, h.last] at hj
      rw [← Option.some.inj hj]
      exact ⟨okt.2.2.1, okt.2.2.2.1⟩
  have mlt : ns.length ≤ 120 := by
    have q1 := sub_len65 h.ndn num
    have := knT_len (frF ts) true
    rw [← frF_len] at this
    unfold frn at q1
    omega
  have inn : (i : Int) ∉ ns := fun z => by
    have := (kin _ (num _ z)).2
    rw [eti, hf] at this
    cases this
  refine ⟨by simp [hlen], by omega, by simp; omega, qrng, fun x hx => ?_, h.nd, ?_, fun k hk => ?_, ?_⟩
  · rcases List.mem_append.mp hx with z | z
    · exact (kin x (num x z)).1
    · rw [List.mem_singleton.mp z]; omega
  · refine List.nodup_append.mpr ⟨h.ndn, by simp, fun a ha b hb e => ?_⟩
    rw [List.mem_singleton.mp hb] at e
    exact inn (by rw [← e]; exact ha)
  · rw [List.length_append] at hk
    by_cases hin : k < ns.length
    · obtain ⟨x, y, m, h1, h2, h3, h4⟩ := h.each k hin
      obtain ⟨hm, j⟩ := mem_nN.mp h4
      refine ⟨x, y, m, h1, ?_, ?_, j⟩
      · rw [Nat.mod_eq_of_lt (by omega)]
        exact h2
      · rw [List.getElem?_append_left hin]
        exact h3
    · have : k = ns.length := by simp at hk; omega
      subst this
      refine ⟨t.other, t.one, (i : Int), h.last, ?_, ?_, ?_⟩
      · rw [hlen, Nat.mod_self]
        exact h.head
      · rw [List.getElem?_append_right (Nat.le_refl _)]
        simp
      · rw [eti]
        exact .inr ⟨rfl, rfl⟩
  · rw [List.filter_append, List.filter_eq_nil_iff.mpr (fun m hm => by rw [(kin m (num m hm)).2]; decide), List.nil_append, List.filter_cons_of_pos (by rw [eti]; exact hf)]
    simp
/-- a tie of foes within friends -/
def Clash (ts : List Tie) : Prop := ∃ t ∈ ts, t.foe = true ∧ FR ts t.one t.other
section
variable {P : Program} {w : World} {K : PySem.W.Frag} {mg : Str → Option Value} {base : Heap}
def RingV1 (H : Hp) (n : Nat) (ts : List Tie) (v : V) : Prop := ∃ r a b qs ms, v = .ref r ∧ H r = some (.tup [.ref a, .ref b]) ∧ H a = some (.tup (qs.map V.int)) ∧ H b = some (.tup (ms.map V.int)) ∧ Ring1 n ts qs ms
theorem RingV1.tk {H H' : Hp} (k : Tk H H') {n : Nat} {ts : List Tie} {v : V} (h : RingV1 H n ts v) : RingV1 H' n ts v := by
  obtain ⟨r, a, b, qs, ms, e, h1, h2, h3, h4⟩ := h
  exact ⟨r, a, b, qs, ms, e, k _ _ h1, k _ _ h2, k _ _ h3, h4⟩
def spRingOne : Sp := fun vs H Q _ => ∃ (v : V) (D : Addr) (n : Nat) (ts : List Tie), vs = [v, .ref D] ∧ WebAt H v n ts ∧ WebOk n ts ∧ HeadsAt H D n (hd ts) ∧ (¬ Clash ts → ∀ H', Same H H' → Q .non H') ∧ (Clash ts → ∀ v H', Same H H' → RingV1 H' n ts v → Q v H')
end
section
variable {P : Program} {w : World} {K : PySem.W.Frag} {mg : Str → Option Value} {base : Heap}
end
/-! ### the foes of each part -/
noncomputable def isHd (ts : List Tie) (x : Int) : Bool := decide (hd ts x = x)
noncomputable def hdsA (ts : List Tie) (n : Nat) : List Int := (rng n).filter (isHd ts)
noncomputable def hsP (ts : List Tie) (P : List Int) : List Int := P.filter (isHd ts)
structure Near (H0 H : Hp) (D : Addr) (hs : List Int) (I : Int → Addr) (N : Int → List Int) : Prop where
  fs : Foes H D hs I N
  inj : ∀ h ∈ hs, ∀ x ∈ hs, I h = I x → h = x
  new : ∀ h ∈ hs, H0 (I h) = none
  newD : H0 D = none
theorem Near.put {H0 H : Hp} {D : Addr} {hs : List Int} {I : Int → Addr} {N : Int → List Int} (h : Near H0 H D hs I N) {a : Int} (ha : a ∈ hs) (ks : List Int) : Near H0 (upd H (I a) (.dK (kF ks tru))) D hs I (fun x => if x = a then ks else N x) := by
  refine ⟨⟨by rw [upd_ne (h.fs.ne ha).symm]; exact h.fs.at', fun x hx => ?_⟩, h.inj, h.new, h.newD⟩
  by_cases e : x = a
  · subst e
    rw [if_pos rfl]
    exact upd_same
  · rw [if_neg e, upd_ne (fun z => e (h.inj x hx a ha z))]
    exact h.fs.each x hx
def HMet (ts us : List Tie) (h x : Int) : Prop := ∃ t ∈ us, t.foe = true ∧ ((hd ts t.one = h ∧ hd ts t.other = x) ∨ (hd ts t.other = h ∧ hd ts t.one = x))
/-- the heads' foes, by the ties us -/
def FoesN (n : Nat) (ts us : List Tie) (N : Int → List Int) : Prop := ∀ h ∈ hdsA ts n, (N h).Nodup ∧ ∀ x, x ∈ N h ↔ HMet ts us h x
section
variable {n : Nat} {ts : List Tie}
theorem hd_mem (ok : ∀ t ∈ ts, TieOk n t) {x : Int} (hx : 0 ≤ x ∧ x < n) : hd ts x ∈ hdsA ts n :=
  List.mem_filter.mpr ⟨mem_rng.mpr (hd_spec ok hx).2.1, decide_eq_true (hd_hd ok hx)⟩
theorem hds_rg {h : Int} (hh : h ∈ hdsA ts n) : (0 ≤ h ∧ h < (n : Int)) ∧ hd ts h = h :=
  ⟨mem_rng.mp (List.mem_filter.mp hh).1, of_decide_eq_true (List.mem_filter.mp hh).2⟩
theorem FoesN.few {us : List Tie} {N : Int → List Int} (ok : ∀ t ∈ ts, TieOk n t) (sub : ∀ t ∈ us, t ∈ ts) (f : FoesN n ts us N) {h : Int} (hh : h ∈ hdsA ts n) : (N h).length ≤ n := by
  have := sub_len65 (ks := N h) (ns := rng n) (f h hh).1 fun x hx => by
    obtain ⟨t, ht, _, e⟩ := ((f h hh).2 x).mp hx
    have o := ok t (sub t ht)
    rcases e with ⟨_, e⟩ | ⟨_, e⟩ <;> rw [← e]
    · exact mem_rng.mpr (hd_spec ok ⟨o.2.2.1, o.2.2.2.1⟩).2.1
    · exact mem_rng.mpr (hd_spec ok ⟨o.1, o.2.1⟩).2.1
  rwa [rng_length] at this
theorem HMet.met (ok : ∀ t ∈ ts, TieOk n t) {h x : Int} (m : HMet ts ts h x) : Met ts h x := by
  obtain ⟨t, ht, hf, e⟩ := m
  have o := ok t ht
  have r1 := (hd_spec ok (x := t.one) ⟨o.1, o.2.1⟩).2.2
  have r2 := (hd_spec ok (x := t.other) ⟨o.2.2.1, o.2.2.2.1⟩).2.2
  refine ⟨t, ht, hf, ?_⟩
  rcases e with ⟨e1, e2⟩ | ⟨e1, e2⟩
  · rw [e1] at r1; rw [e2] at r2
    exact .inl ⟨r1, r2⟩
  · rw [e1] at r2; rw [e2] at r1
    exact .inr ⟨r1, r2⟩
theorem FR.all {x y : Int} (h : FR ts x y) : Rch ts x y := Rch.mono65 (fun t ht => (List.mem_filter.mp ht).1) h
/-- the foes of a part are a web of heads -/
theorem FoesN.gr {N : Int → List Int} (ok : ∀ t ∈ ts, TieOk n t) (nc : ¬ Clash ts) (f : FoesN n ts ts N) {m : Int} : Gr (hsP ts (partOf ts n m)) N where
  rise := (part_rising ts n m).filter _
  nd h hh := (f h (List.mem_filter.mpr ⟨mem_rng.mpr (mem_part.mp (List.mem_filter.mp hh).1).1, (List.mem_filter.mp hh).2⟩)).1
  sub h hh x hx := by
    obtain ⟨h1, h2⟩ := List.mem_filter.mp hh
    have hm : h ∈ hdsA ts n := List.mem_filter.mpr ⟨mem_rng.mpr (mem_part.mp h1).1, h2⟩
    obtain ⟨t, ht, hf, e⟩ := ((f h hm).2 x).mp hx
    have o := ok t ht
    have p1 : 0 ≤ t.one ∧ t.one < (n : Int) := ⟨o.1, o.2.1⟩
    have p2 : 0 ≤ t.other ∧ t.other < (n : Int) := ⟨o.2.2.1, o.2.2.2.1⟩
    have r1 := (hd_spec ok p1).2.2.all
    have r2 := (hd_spec ok p2).2.2.all
    have rt : Rch ts t.one t.other := Rch.adj (k := t.foe) ⟨t, ht, rfl, .inl ⟨rfl, rfl⟩⟩
    obtain ⟨_, rm⟩ := mem_part.mp h1
    rcases e with ⟨e1, e2⟩ | ⟨e1, e2⟩
    · subst e1
      subst e2
      exact List.mem_filter.mpr ⟨mem_part.mpr ⟨(hd_spec ok p2).2.1, ((rm.trans r1).trans rt).trans r2.symm⟩, decide_eq_true (hd_hd ok p2)⟩
    · subst e1
      subst e2
      exact List.mem_filter.mpr ⟨mem_part.mpr ⟨(hd_spec ok p1).2.1, ((rm.trans r2).trans rt.symm).trans r1.symm⟩, decide_eq_true (hd_hd ok p1)⟩
  sym h hh x hx := by
    obtain ⟨h1, h2⟩ := List.mem_filter.mp hh
    have hm : h ∈ hdsA ts n := List.mem_filter.mpr ⟨mem_rng.mpr (mem_part.mp h1).1, h2⟩
    obtain ⟨t, ht, hf, e⟩ := ((f h hm).2 x).mp hx
    have o := ok t ht
    have xm : x ∈ hdsA ts n := by
      rcases e with ⟨_, e⟩ | ⟨_, e⟩ <;> rw [← e]
      · exact hd_mem ok ⟨o.2.2.1, o.2.2.2.1⟩
      · exact hd_mem ok ⟨o.1, o.2.1⟩
    refine ((f x xm).2 h).mpr ⟨t, ht, hf, ?_⟩
    rcases e with ⟨e1, e2⟩ | ⟨e1, e2⟩
    · exact .inr ⟨e2, e1⟩
    · exact .inl ⟨e2, e1⟩
  irr h hh hx := by
    obtain ⟨h1, h2⟩ := List.mem_filter.mp hh
    have hm : h ∈ hdsA ts n := List.mem_filter.mpr ⟨mem_rng.mpr (mem_part.mp h1).1, h2⟩
    obtain ⟨t, ht, hf, e⟩ := ((f h hm).2 h).mp hx
    have o := ok t ht
    refine nc ⟨t, ht, hf, (hd_iff ok ⟨o.1, o.2.1⟩ ⟨o.2.2.1, o.2.2.2.1⟩).mp ?_⟩
    rcases e with ⟨e1, e2⟩ | ⟨e1, e2⟩ <;> rw [e1, e2]
theorem FoesN.link {N : Int → List Int} (ok : ∀ t ∈ ts, TieOk n t) (f : FoesN n ts ts N) {m : Int} : Link n ts (hsP ts (partOf ts n m)) N where
  rg h hh := (mem_part.mp (List.mem_filter.mp hh).1).1
  ap h hh x hx ne r := by
    obtain ⟨h1, h2⟩ := List.mem_filter.mp hh
    obtain ⟨x1, x2⟩ := List.mem_filter.mp hx
    have := (hd_iff ok (mem_part.mp h1).1 (mem_part.mp x1).1).mpr r
    rw [of_decide_eq_true h2, of_decide_eq_true x2] at this
    exact ne this
  met h hh x hx := by
    obtain ⟨h1, h2⟩ := List.mem_filter.mp hh
    have hm : h ∈ hdsA ts n := List.mem_filter.mpr ⟨mem_rng.mpr (mem_part.mp h1).1, h2⟩
    exact (((f h hm).2 x).mp hx).met ok
end
section
variable {P : Program} {w : World} {K : PySem.W.Frag} {mg : Str → Option Value} {base : Heap}
def GreatS (ts : List Tie) (n : Nat) : Prop := ∃ P ∈ partsTo ts n n, 8 < (hsP ts P).length
def spFoesBy (Ps : List Addr) (X : Addr) : Sp := fun vs H Q E => ∃ (v : V) (D : Addr) (n : Nat) (ts : List Tie), vs = [v, .ref D] ∧ WebAt H v n ts ∧ WebOk n ts ∧ HeadsAt H D n (hd ts) ∧ ¬ Clash ts ∧ Tabs Ps H ∧
  (¬ GreatS ts n → ∀ L Fs I N H', Kt Ps H H' → H L = none → H' L = some (.lst (Fs.map V.ref)) → Paired (fun F P => Foes H' F (hsP ts P) I N) Fs (partsTo ts n n) → (∀ F ∈ Fs, H F = none) → (∀ h ∈ hdsA ts n, H (I h) = none) → FoesN n ts ts N → Q (.ref L) H') ∧
  (GreatS ts n → ∀ H', Kt Ps H H' → E (.ref X) none H')
end
/-- a key put in, in its place if it is there -/
def insK (ks : List Int) (x : Int) : List Int := if x ∈ ks then ks else ks ++ [x]
theorem insK_mem {ks : List Int} {x y : Int} : y ∈ insK ks x ↔ y ∈ ks ∨ y = x := by
  unfold insK
  split
  · rename_i h
    exact ⟨.inl, fun z => z.elim id fun e => by rw [e]; exact h⟩
  · rw [List.mem_append, List.mem_singleton]
theorem insK_nd {ks : List Int} {x : Int} (nd : ks.Nodup) : (insK ks x).Nodup := by
  unfold insK
  split
  · exact nd
  · rename_i h
    rw [List.nodup_append]
    exact ⟨nd, by simp, fun u hu v hv => by rw [List.mem_singleton.mp hv]; exact fun e => h (by rw [← e]; exact hu)⟩
theorem kF_ins {ks : List Int} {x : Int} : putK (kF ks tru) (Sum.inl x) (.bl true) = kF (insK ks x) tru := by
  unfold insK
  split
  · rename_i h
    rw [kF_old h]
    exact kF_congr fun w _ => by split <;> rfl
  · rename_i h
    rw [kF_new h]
    exact kF_congr fun w _ => by split <;> rfl
def putN (N : Int → List Int) (a x : Int) : Int → List Int := fun h => if h = a then insK (N a) x else N h
theorem putN_mem {N : Int → List Int} {a x h y : Int} : y ∈ putN N a x h ↔ y ∈ N h ∨ (h = a ∧ y = x) := by
  unfold putN
  by_cases e : h = a
  · rw [if_pos e, insK_mem, e]
    simp
  · rw [if_neg e]
    simp [e]
theorem putN_nd {N : Int → List Int} {a x h : Int} (na : (N a).Nodup) (nd : (N h).Nodup) : (putN N a x h).Nodup := by
  unfold putN
  split
  · exact insK_nd na
  · exact nd
theorem hmet_snoc {ts us : List Tie} {t : Tie} {h x : Int} : HMet ts (us ++ [t]) h x ↔ HMet ts us h x ∨ (t.foe = true ∧ ((hd ts t.one = h ∧ hd ts t.other = x) ∨ (hd ts t.other = h ∧ hd ts t.one = x))) := by
  constructor
  · rintro ⟨u, hu, hf, e⟩
    rcases List.mem_append.mp hu with z | z
    · exact .inl ⟨u, z, hf, e⟩
    · rw [List.mem_singleton.mp z] at hf e
      exact .inr ⟨hf, e⟩
  · rintro (⟨u, hu, hf, e⟩ | ⟨hf, e⟩)
    · exact ⟨u, List.mem_append_left _ hu, hf, e⟩
    · exact ⟨t, by simp, hf, e⟩
theorem FoesN.zero {n : Nat} {ts : List Tie} : FoesN n ts [] fun _ => [] := fun h hh => ⟨List.nodup_nil, fun x => ⟨fun z => (by cases z), fun ⟨t, ht, _⟩ => (by cases ht)⟩⟩
theorem FoesN.friend {n : Nat} {ts us : List Tie} {t : Tie} {N : Int → List Int} (f : FoesN n ts us N) (hf : t.foe = false) : FoesN n ts (us ++ [t]) N := fun h hh => ⟨(f h hh).1, fun x => by
  rw [(f h hh).2 x, hmet_snoc, hf]
  exact ⟨.inl, fun z => z.elim id fun z => by cases z.1⟩⟩
theorem FoesN.foe {n : Nat} {ts us : List Tie} {t : Tie} {N : Int → List Int} (f : FoesN n ts us N) (hf : t.foe = true) (ha : hd ts t.one ∈ hdsA ts n) (hb : hd ts t.other ∈ hdsA ts n) : FoesN n ts (us ++ [t]) (putN (putN N (hd ts t.one) (hd ts t.other)) (hd ts t.other) (hd ts t.one)) := fun h hh => ⟨putN_nd (putN_nd (f _ ha).1 (f _ hb).1) (putN_nd (f _ ha).1 (f _ hh).1), fun x => by
  rw [putN_mem, putN_mem, (f h hh).2 x, hmet_snoc]
  constructor
  · rintro ((z | ⟨e1, e2⟩) | ⟨e1, e2⟩)
    · exact .inl z
    · exact .inr ⟨hf, .inl ⟨e1.symm, e2.symm⟩⟩
    · exact .inr ⟨hf, .inr ⟨e1.symm, e2.symm⟩⟩
  · rintro (z | ⟨_, ⟨e1, e2⟩ | ⟨e1, e2⟩⟩)
    · exact .inl (.inl z)
    · exact .inl (.inr ⟨e1.symm, e2.symm⟩)
    · exact .inr ⟨e1.symm, e2.symm⟩⟩
theorem Near.put1 {H0 H : Hp} {D : Addr} {hs : List Int} {I : Int → Addr} {N : Int → List Int} (h : Near H0 H D hs I N) {a x : Int} (ha : a ∈ hs) : Near H0 (upd H (I a) (.dK (putK (kF (N a) tru) (Sum.inl x) (.bl true)))) D hs I (putN N a x) := by
  rw [kF_ins]
  exact h.put ha _
theorem Near.get {H0 H : Hp} {D : Addr} {hs : List Int} {I : Int → Addr} {N : Int → List Int} (h : Near H0 H D hs I N) (x : Int) : DGet H D (.int x) (if x ∈ hs then some (.ref (I x)) else none) := by
  have := DGet.k (k := Sum.inl x) h.fs.at'
  rw [kF_val] at this
  exact this
theorem Foes.updL {H : Hp} {F L : Addr} {xs : List V} {o : HO} {hs : List Int} {I : Int → Addr} {N : Int → List Int} (h : Foes H F hs I N) (hL : H L = some (.lst xs)) : Foes (upd H L o) F hs I N :=
  ⟨by rw [upd_ne (ne_of h.at' hL (by intro z; cases z))]; exact h.at', fun x hx => by rw [upd_ne (ne_of (h.each x hx) hL (by intro z; cases z))]; exact h.each x hx⟩
theorem Kt.dct65 {Ps : List Addr} {a : Addr} {H H' : Hp} {xs : List (Key × V)} (k : Kt Ps H H') (t : Tabs Ps H) (h : H a = some (.dK xs)) : H' a = some (.dK xs) := k.keep a _ (t.out h fun _ z => by cases z) h
theorem Foes.kt {Ps : List Addr} {H H' : Hp} {F : Addr} {hs : List Int} {I : Int → Addr} {N : Int → List Int} (h : Foes H F hs I N) (k : Kt Ps H H') (t : Tabs Ps H) : Foes H' F hs I N := ⟨k.dct65 t h.at', fun x hx => k.dct65 t (h.each x hx)⟩
theorem Paired.snoc65 {α β : Type} {F : α → β → Prop} {l : List α} {m : List β} {a : α} {b : β} (p : Paired F l m) (h : F a b) : Paired F (l ++ [a]) (m ++ [b]) := by
  induction p with
  | nil => exact .cons h .nil
  | cons r _ ih => exact .cons r ih
theorem part_len65 (ts : List Tie) (n : Nat) (m : Int) : (partOf ts n m).length ≤ n := by
  have := sub_len65 (ks := partOf ts n m) (ns := rng n) (rise_nd (part_rising ts n m)) fun x hx => mem_rng.mpr (mem_part.mp hx).1
  rwa [rng_length] at this
/-! ### defs that may raise, with tables -/
section
variable {P : Program} {w : World} {K : PySem.W.Frag} {mg : Str → Option Value} {base : Heap}
theorem FunC.okX {x qual : Str} {st : Stmt} {f c : Addr} {fd : FuncData} {N ps : List Str} {k : Nat} {sp : Sp} (F : FunC K x qual st f fd c) (S : FnScope N ps (defScope st)) (len : ∀ vs H Q E, sp vs H Q E → vs.length = ps.length)
    (hbody : ∀ (A : PySem.Around) (outer : List Env) (s : Shared) (H : Hp) (vs : List V) (Q : VK) (E : XK), Room k (A.deeper (envOfC qual (defScope st) s.heap.objs.size f (.ref c))) → sp vs H Q E →
      ∃ t, PSs (cxOf (L2.CX P w) P w K mg base N qual (defScope st) f (.ref c) A outer s H E) (defBody st) t ∧ t { nx := fun _ H' => Q .non H', rt := Q } (start N vs) H) : FnOk P w K mg base (L2.CX P w) (k + 1) f fd ps sp := by
  obtain ⟨oc, od, kV, doc, pm, an, ct, osl, rfl, lk, hcd⟩ := F.ex
  refine fn_of lk hcd S len fun A outer s H vs Q E hr hsp => ?_
  exact hbody A outer s H vs Q E hr hsp
/-- len of a dict, within a generator expression -/
def rLenD : List V → Hp → VK → Prop := fun xs H Q => ∃ a kvs, xs = [V.ref a] ∧ H a = some (.dK kvs) ∧ Q (.int kvs.length) H
end
section
variable {P : Program} {w : World} {K : PySem.W.Frag} {mg : Str → Option Value} {base : Heap}
end
/-! ### several sides told: the mathematics -/
/-- sides of places hold -/
def SideOk (k : Int) (n : Nat) (ts : List Tie) (g : Int → Int) : Prop := (∀ x, 0 ≤ x → x < (n : Int) → 0 ≤ g x ∧ g x < k) ∧ ∀ t ∈ ts, (t.foe = true → g t.one ≠ g t.other) ∧ (t.foe = false → g t.one = g t.other)
theorem SideOk.fr {k : Int} {n : Nat} {ts : List Tie} {g : Int → Int} (h : SideOk k n ts g) {x y : Int} (r : FR ts x y) : g x = g y := by
  refine Rch.ind (fun z => g x = g z) r rfl fun a b q ih ad => ?_
  obtain ⟨t, ht, hk, hj⟩ := ad
  obtain ⟨h1, h2⟩ := List.mem_filter.mp ht
  have hf : t.foe = false := by cases e : t.foe <;> simp_all
  have := (h.2 t h1).2 hf
  rcases hj with ⟨e1, e2⟩ | ⟨e1, e2⟩
  · subst e1
    subst e2
    exact ih.trans this
  · subst e1
    subst e2
    exact ih.trans this.symm
section
variable {n : Nat} {ts : List Tie} {N : Int → List Int} {k : Int} {g : Int → Int}
theorem hsP_mem {m h : Int} : h ∈ hsP ts (partOf ts n m) ↔ ((0 ≤ h ∧ h < (n : Int)) ∧ Rch ts m h) ∧ hd ts h = h := by
  unfold hsP isHd
  rw [List.mem_filter, mem_part, decide_eq_true_iff]
theorem hsP_of (ok : ∀ t ∈ ts, TieOk n t) {P : List Int} (hP : P ∈ partsTo ts n n) {x : Int} (hx : x ∈ P) : hd ts x ∈ hsP ts P := by
  obtain ⟨m, hm, lm, rfl⟩ := mem_parts65.mp hP
  obtain ⟨rg, r⟩ := mem_part.mp hx
  have s := hd_spec ok rg
  exact hsP_mem.mpr ⟨⟨s.2.1, r.trans s.2.2.all.symm⟩, hd_hd ok rg⟩
theorem has_part (ok : ∀ t ∈ ts, TieOk n t) {x : Int} (hx : 0 ≤ x ∧ x < (n : Int)) : ∃ P ∈ partsTo ts n n, x ∈ P := by
  obtain ⟨m, h1, h2, h3⟩ := has_leader ok hx
  exact ⟨_, mem_parts65.mpr ⟨m, h2, h1, rfl⟩, mem_part.mpr ⟨hx, h3⟩⟩
/-- sides of places are sides of the heads of each part -/
theorem SideOk.col (h : SideOk k n ts g) (ok : ∀ t ∈ ts, TieOk n t) (f : FoesN n ts ts N) {P : List Int} (hP : P ∈ partsTo ts n n) : Col k (hsP ts P) N g := by
  obtain ⟨m, hm, lm, rfl⟩ := mem_parts65.mp hP
  refine ⟨fun x hx => h.1 x (hsP_mem.mp hx).1.1.1 (hsP_mem.mp hx).1.1.2, fun x hx y hy e => ?_⟩
  have hx' : x ∈ hdsA ts n := List.mem_filter.mpr ⟨mem_rng.mpr (hsP_mem.mp hx).1.1, decide_eq_true (hsP_mem.mp hx).2⟩
  obtain ⟨t, ht, hf, q⟩ := ((f x hx').2 y).mp hy
  have o := ok t ht
  have a1 := h.fr (hd_spec ok (x := t.one) ⟨o.1, o.2.1⟩).2.2
  have a2 := h.fr (hd_spec ok (x := t.other) ⟨o.2.2.1, o.2.2.2.1⟩).2.2
  refine (h.2 t ht).1 hf ?_
  rcases q with ⟨e1, e2⟩ | ⟨e1, e2⟩
  · rw [← a1, ← a2, e1, e2, e]
  · rw [← a1, ← a2, e1, e2, e]
/-- and the other way round -/
theorem SideOk.of (ok : ∀ t ∈ ts, TieOk n t) (f : FoesN n ts ts N) (h : ∀ P ∈ partsTo ts n n, Col k (hsP ts P) N g) : SideOk k n ts fun x => g (hd ts x) := by
  refine ⟨fun x h0 h1 => ?_, fun t ht => ⟨fun hf e => ?_, fun hf => ?_⟩⟩
  · obtain ⟨P, hP, hx⟩ := has_part ok ⟨h0, h1⟩
    exact (h P hP).1 _ (hsP_of ok hP hx)
  · have o := ok t ht
    have p1 : 0 ≤ t.one ∧ t.one < (n : Int) := ⟨o.1, o.2.1⟩
    have p2 : 0 ≤ t.other ∧ t.other < (n : Int) := ⟨o.2.2.1, o.2.2.2.1⟩
    obtain ⟨P, hP, hx⟩ := has_part ok p1
    have hh := hsP_of ok hP hx
    refine (h P hP).2 _ hh (hd ts t.other) (((f _ (hd_mem ok p1)).2 _).mpr ⟨t, ht, hf, .inl ⟨rfl, rfl⟩⟩) e
  · have o := ok t ht
    have p1 : 0 ≤ t.one ∧ t.one < (n : Int) := ⟨o.1, o.2.1⟩
    have p2 : 0 ≤ t.other ∧ t.other < (n : Int) := ⟨o.2.2.1, o.2.2.2.1⟩
    have : hd ts t.one = hd ts t.other := (hd_iff ok p1 p2).mpr (Rch.adj (k := false) ⟨t, List.mem_filter.mpr ⟨ht, by rw [hf]; rfl⟩, hf, .inl ⟨rfl, rfl⟩⟩)
    show g (hd ts t.one) = g (hd ts t.other)
    rw [this]
end
open Classical in
/-- heads of one part are heads of no other -/
theorem heads_apart {n : Nat} {ts : List Tie} {i j : Nat} {P Q : List Int} (hi : (partsTo ts n n)[i]? = some P) (hj : (partsTo ts n n)[j]? = some Q) (ne : i ≠ j) {x : Int} (hx : x ∈ P) : x ∉ Q := fun hy => by
  obtain ⟨m, hm, lm, rfl⟩ := mem_parts65.mp (List.mem_of_getElem? hi)
  obtain ⟨q, hq, lq, rfl⟩ := mem_parts65.mp (List.mem_of_getElem? hj)
  have e : m = q := leader_one lm lq (mem_part.mp hx).2 (mem_part.mp hy).2
  subst e
  have nd : (partsTo ts n n).Nodup := by
    unfold partsTo
    refine List.pairwise_map.mpr (List.Pairwise.imp_of_mem (fun {a b} ha hb h e => ?_) (List.Pairwise.filter _ (rise_nd (rng_rising n))))
    have la := of_decide_eq_true (List.mem_filter.mp ha).2
    have lb := of_decide_eq_true (List.mem_filter.mp hb).2
    have ra := mem_rng.mp (List.mem_filter.mp ha).1
    have : a ∈ partOf ts n b := by rw [← e]; exact mem_part.mpr ⟨ra, Rch.refl⟩
    exact h (leader_one la lb Rch.refl (mem_part.mp this).2)
  obtain ⟨l1, e1⟩ := List.getElem?_eq_some_iff.mp hi
  obtain ⟨l2, e2⟩ := List.getElem?_eq_some_iff.mp hj
  have p := List.pairwise_iff_getElem.mp nd
  rcases Nat.lt_trichotomy i j with h | h | h
  · exact p i j l1 l2 h (e1.trans e2.symm)
  · exact ne h
  · exact p j i l2 l1 h (e2.trans e1.symm)
theorem kF_join {ks ls : List Int} {f h : Int → V} (nd : ls.Nodup) (ap : ∀ x ∈ ls, x ∉ ks) : mergeK (kF ks f) (kF ls h) = kF (ks ++ ls) (fun x => if x ∈ ls then h x else f x) := by
  rw [mergeK_nil (kF_nd nd) fun p hp => ?_]
  · unfold kF
    rw [List.map_append]
    congr 1
    · refine List.map_congr_left fun x hx => ?_
      show _ = (Sum.inl x, if x ∈ ls then h x else f x)
      rw [if_neg fun z => ap x z hx]
    · refine List.map_congr_left fun x hx => ?_
      show _ = (Sum.inl x, if x ∈ ls then h x else f x)
      rw [if_pos hx]
  · obtain ⟨x, hx, rfl⟩ := List.mem_map.mp hp
    rw [kF_val, if_neg (ap x hx)]
theorem kZ_kF {hs cs : List Int} (nd : hs.Nodup) (l : cs.length = hs.length) : kZ hs cs = kF hs fun x => .int (look hs cs x) := by
  apply List.ext_getElem?
  intro i
  unfold kZ kF
  rw [List.getElem?_map, List.getElem?_map]
  cases e : hs[i]? with
  | none =>
    have := List.getElem?_eq_none_iff.mp e
    rw [List.getElem?_eq_none_iff.mpr (by rw [List.length_zip]; omega)]
    rfl
  | some x =>
    have hi := (List.getElem?_eq_some_iff.mp e).1
    have e2 : cs[i]? = some (cs[i]'(by omega)) := List.getElem?_eq_getElem _
    have ez : (hs.zip cs)[i]? = some (x, cs[i]'(by omega)) := by
      rw [List.getElem?_zip_eq_some]
      exact ⟨e, e2⟩
    rw [ez]
    show some _ = some (Sum.inl x, V.int (look hs cs x))
    rw [look_at nd e e2]
theorem HeadsAt.kt {Ps : List Addr} {H H' : Hp} {D : Addr} {n : Nat} {g : Int → Int} (h : HeadsAt H D n g) (k : Kt Ps H H') (t : Tabs Ps H) : HeadsAt H' D n g := by
  obtain ⟨ks, h1, h2, h3⟩ := h
  exact ⟨ks, k.dct65 t h1, h2, h3⟩
theorem Foes.updN {H : Hp} {F T : Addr} {o : HO} {hs : List Int} {I : Int → Addr} {N : Int → List Int} (h : Foes H F hs I N) (n1 : F ≠ T) (n2 : ∀ h ∈ hs, I h ≠ T) : Foes (upd H T o) F hs I N :=
  ⟨by rw [upd_ne n1]; exact h.at', fun x hx => by rw [upd_ne (n2 x hx)]; exact h.each x hx⟩
theorem HeadsAt.updN {H : Hp} {D T : Addr} {o : HO} {n : Nat} {g : Int → Int} (h : HeadsAt H D n g) (ne : D ≠ T) : HeadsAt (upd H T o) D n g := by
  obtain ⟨ks, h1, h2, h3⟩ := h
  exact ⟨ks, by rw [upd_ne ne]; exact h1, h2, h3⟩
theorem Paired.both65 {α β : Type} {F : α → β → Prop} : ∀ {l : List α} {m : List β}, Paired F l m → Paired (fun a b => F a b ∧ a ∈ l ∧ b ∈ m) l m
  | _, _, .nil => .nil
  | _, _, .cons r t => .cons ⟨r, by simp, by simp⟩ (Paired.mono (fun _ _ h => ⟨h.1, List.mem_cons_of_mem _ h.2.1, List.mem_cons_of_mem _ h.2.2⟩) (Paired.both65 t))
theorem Kt.mutN65 {Ps : List Addr} {H H' : Hp} {a : Addr} {o : HO} (k : Kt Ps H H') (t : Tabs Ps H) (n : H a = none) : Kt Ps H (upd H' a o) := by
  have na : a ∉ Ps := fun z => by
    obtain ⟨ps, e, _⟩ := t a z
    rw [n] at e
    cases e
  refine ⟨fun P hP => ?_, fun b o' hb e => ?_⟩
  · obtain ⟨ps, e, t'⟩ := k.tab P hP
    exact ⟨ps, by rw [upd_ne (show P ≠ a from fun z => na (z ▸ hP))]; exact e, t'⟩
  · rw [upd_ne (fun z => by rw [z, n] at e; cases e)]
    exact k.keep b o' hb e
section
variable {P : Program} {w : World} {K : PySem.W.Frag} {mg : Str → Option Value} {base : Heap}
def spSidesPl : Sp := fun vs H Q _ => ∃ (v : V) (Dh T : Addr) (n : Nat) (ts : List Tie) (ks : List Int) (g : Int → Int), vs = [v, .ref Dh, .ref T] ∧ WebAt H v n ts ∧ WebOk n ts ∧ HeadsAt H Dh n (hd ts) ∧ H T = some (.dK (kF ks fun x => .int (g x))) ∧ (∀ x : Int, 0 ≤ x → x < (n : Int) → hd ts x ∈ ks) ∧ ∀ b H', Same H H' → H' b = some (.tup ((rng n).map fun x => .int (g (hd ts x)))) → Q (.ref b) H'
def spSeveral (Ps : List Addr) (X : Addr) : Sp := fun vs H Q E => ∃ (v : V) (k : Int) (n : Nat) (ts : List Tie), vs = [v, .int k] ∧ WebAt H v n ts ∧ WebOk n ts ∧ (1 ≤ k ∧ k ≤ 1000) ∧ Tabs Ps H ∧
  (Clash ts → ∀ p r H', Kt Ps H H' → H' p = some (.tup [.str "ring", r]) → RingV1 H' n ts r → Q (.ref p) H') ∧
  (¬ Clash ts → GreatS ts n → ∀ H', Kt Ps H H' → E (.ref X) none H') ∧
  (¬ Clash ts → ¬ GreatS ts n → (∀ p b g H', Kt Ps H H' → H' p = some (.tup [.str "sides", .ref b]) → H' b = some (.tup ((rng n).map fun x => .int (g x))) → SideOk k n ts g → Q (.ref p) H') ∧
    (∀ p r t H', Kt Ps H H' → H' p = some (.tup [.str "none", r]) → NTV H' r t → NoneOk k n ts t → t.dep ≤ 64 → (¬ ∃ g, SideOk k n ts g) → Q (.ref p) H'))
end
/-! ### labels of places, by ties of one kind or of both -/
structure WebL (n : Int) (ts : List Tie) : Prop where
  lo : 1 ≤ n
  hi : n ≤ 40
  few : ts.length ≤ 900
  ok : ∀ t ∈ ts, TieOk n t
theorem WebOk.l {n : Int} {ts : List Tie} (h : WebOk n ts) : WebL n ts := ⟨h.lo, h.hi, by have := h.few; omega, h.ok⟩
def kin (fo : Bool) (ts : List Tie) : List Tie := ts.filter fun t => !t.foe || fo
theorem kin_frs (ts : List Tie) : kin false ts = frs ts := by
  unfold kin frs
  congr 1
  funext t
  simp
theorem kin_all (ts : List Tie) : kin true ts = ts := by
  unfold kin
  simp
theorem kin_take {fo : Bool} {ts : List Tie} {i : Nat} {t : Tie} (h : ts[i]? = some t) : kin fo (ts.take (i + 1)) = kin fo (ts.take i) ++ (if (!t.foe || fo) = true then [t] else []) := by
  unfold kin
  rw [List.take_add_one, h, List.filter_append]
  cases hf : (!t.foe || fo) <;> simp [hf]
def kindsV : Bool → List V
  | false => [.str "friend"]
  | true => [.str "friend", .str "foe"]
structure LabT (us : List Tie) (n : Nat) (g : Int → Int) : Prop where
  le : ∀ x : Int, 0 ≤ x → x < (n : Int) → 0 ≤ g x ∧ g x ≤ x
  rch : ∀ x : Int, 0 ≤ x → x < (n : Int) → Rch us (g x) x
  idem : ∀ x : Int, 0 ≤ x → x < (n : Int) → g (g x) = g x
  tie : ∀ t ∈ us, g t.one = g t.other
theorem LabT.nil {fo : Bool} {ts : List Tie} (n : Nat) : LabT (kin fo (ts.take 0)) n (fun i => i) := by
  rw [List.take_zero]
  exact ⟨fun x h _ => ⟨h, Int.le_refl _⟩, fun _ _ _ => Rch.refl, fun _ _ _ => rfl, fun t ht => by cases ht⟩
theorem LabT.const {us : List Tie} {n : Nat} {g : Int → Int} (h : LabT us n g) {x y : Int} (r : Rch us x y) : g x = g y := by
  refine Rch.ind (fun z => g x = g z) r rfl fun a b q ih ad => ?_
  obtain ⟨t, ht, hk, hj⟩ := ad
  have := h.tie t ht
  rcases hj with ⟨e1, e2⟩ | ⟨e1, e2⟩
  · subst e1
    subst e2
    exact ih.trans this
  · subst e1
    subst e2
    exact ih.trans this.symm
theorem LabT.iff {us : List Tie} {n : Nat} {g : Int → Int} (h : LabT us n g) {x y : Int} (hx : 0 ≤ x ∧ x < (n : Int)) (hy : 0 ≤ y ∧ y < (n : Int)) : g x = g y ↔ Rch us x y :=
  ⟨fun e => (h.rch x hx.1 hx.2).symm.trans (by rw [e]; exact h.rch y hy.1 hy.2), h.const⟩
theorem LabT.rg {us : List Tie} {n : Nat} {g : Int → Int} (h : LabT us n g) {x : Int} (hx : 0 ≤ x ∧ x < (n : Int)) : 0 ≤ g x ∧ g x < (n : Int) := by
  have := h.le x hx.1 hx.2
  omega
theorem LabT.leader {us : List Tie} {n : Nat} {g : Int → Int} (okts : ∀ t ∈ us, TieOk n t) (h : LabT us n g) {x : Int} (hx : 0 ≤ x ∧ x < (n : Int)) : leader us (g x) := fun q r => by
  have e := h.const r
  rw [h.idem x hx.1 hx.2] at e
  have hq := r.rng okts (h.rg hx)
  rw [e]
  exact (h.le q hq.1 hq.2).2
theorem LabT.more {us : List Tie} {n : Nat} {g : Int → Int} {t : Tie} (h : LabT us n g) (okts : ∀ t ∈ us, TieOk n t) (ok : TieOk n t) : LabT (us ++ [t]) n (gNew g (min (g t.one) (g t.other)) (max (g t.one) (g t.other))) := by
  obtain ⟨o1, o2, o3, o4, _⟩ := ok
  have p1 := h.le t.one o1 o2
  have p2 := h.le t.other o3 o4
  have m : ∀ u ∈ us, u ∈ us ++ [t] := fun u hu => List.mem_append_left _ hu
  have rt : Rch (us ++ [t]) (g t.one) (g t.other) := ((Rch.mono65 m (h.rch _ o1 o2)).trans (Rch.adj (k := t.foe) ⟨t, by simp, rfl, .inl ⟨rfl, rfl⟩⟩)).trans (Rch.mono65 m (h.rch _ o3 o4)).symm
  have i1 := h.idem _ o1 o2
  have i2 := h.idem _ o3 o4
  have lowhigh : Rch (us ++ [t]) (min (g t.one) (g t.other)) (max (g t.one) (g t.other)) := by
    rcases Int.le_total (g t.one) (g t.other) with q | q
    · rw [Int.min_eq_left q, Int.max_eq_right q]
      exact rt
    · rw [Int.min_eq_right q, Int.max_eq_left q]
      exact rt.symm
  have il : g (min (g t.one) (g t.other)) = min (g t.one) (g t.other) := by
    rcases Int.le_total (g t.one) (g t.other) with q | q
    · rw [Int.min_eq_left q, i1]
    · rw [Int.min_eq_right q, i2]
  have one_in : g t.one = min (g t.one) (g t.other) ∨ g t.one = max (g t.one) (g t.other) := by omega
  have oth_in : g t.other = min (g t.one) (g t.other) ∨ g t.other = max (g t.one) (g t.other) := by omega
  have eqhl : g t.one = g t.other → min (g t.one) (g t.other) = max (g t.one) (g t.other) := fun e => by omega
  have lh : min (g t.one) (g t.other) ≤ max (g t.one) (g t.other) := by omega
  have eqn : min (g t.one) (g t.other) = max (g t.one) (g t.other) → g t.one = g t.other := fun e => by omega
  have l0 : 0 ≤ min (g t.one) (g t.other) := by omega
  generalize min (g t.one) (g t.other) = low at *
  generalize max (g t.one) (g t.other) = high at *
  refine ⟨fun x h0 h1 => ?_, fun x h0 h1 => ?_, fun x h0 h1 => ?_, fun u hu => ?_⟩
  · have := h.le x h0 h1
    unfold gNew
    split
    · rename_i z
      omega
    · exact this
  · unfold gNew
    split
    · rename_i z
      have := h.rch x h0 h1
      rw [z.2] at this
      exact lowhigh.trans (Rch.mono65 m this)
    · exact Rch.mono65 m (h.rch x h0 h1)
  · have := h.idem x h0 h1
    unfold gNew
    by_cases c : low < high ∧ g x = high
    · rw [if_pos c, il, if_neg (by omega)]
    · rw [if_neg c, this, if_neg c]
  · unfold gNew
    rcases List.mem_append.mp hu with z | z
    · rw [h.tie u z]
    · rw [List.mem_singleton.mp z]
      split <;> split <;> omega
def spGroups2 : Sp := fun vs H Q _ => ∃ (v : V) (a : Addr) (n : Nat) (ts : List Tie) (fo : Bool), vs = [v, .ref a] ∧ WebAt H v n ts ∧ WebL n ts ∧ H a = some (.tup (kindsV fo)) ∧ ∀ L g H', Same H H' → H' L = some (.lst (lf g n)) → LabT (kin fo ts) n g → H L = none → Q (.ref L) H'
section
variable {P : Program} {w : World} {K : PySem.W.Frag} {mg : Str → Option Value} {base : Heap}
set_option maxHeartbeats 4000000 in
theorem okL_l_groups {f : Addr} {fd : FuncData} (F : Fun K "_law_groups" "_law_groups" s_l_groups f fd) (M : Free mg) (mmin : mg "min" = none) (mmax : mg "max" = none) : FnOk P w K mg base CX0 1 f fd ["_law_web", "_law_kinds"] spGroups2 := by
  refine F.ok sc_l_groups (fun vs H Q E h => ?_) (fun cdv A outer s H vs Q E hr h => ?_)
  · obtain ⟨v, a, n, ts, fo, rfl, _⟩ := h
    rfl
  · obtain ⟨v, a, n, ts, fo, rfl, ⟨wa, wb, us, rfl, hwa, hwb, hp⟩, ok, ha, q⟩ := h
    refine ⟨_, (pss_cons (ps_set (i := 2) sc_l_groups.nd rfl (.inl rfl) (pe_listRg rfl (by rfl) M.list (prg_1 (by rfl) M.range (pe_ix ix_tup (pv 0) pe_int (fun _ _ => rfl)))))
      (pss_cons (ps_for PassesOwn.never rfl (pi_tup (pe_ix ix_tup (pv 0) pe_int (fun _ _ => rfl))) (pg_tup rfl (pgs_cons (pg_name (i := 3) sc_l_groups.nd rfl (.inl rfl)) (pgs_cons (pg_name (i := 4) sc_l_groups.nd rfl (.inl rfl)) (pgs_cons (pg_name (i := 5) sc_l_groups.nd rfl (.inl rfl)) pgs_nil))))
        (pss_cons (ps_set (i := 6) sc_l_groups.nd rfl (.inr rfl) (pe_callB (call_min2 rfl) (by rfl) mmin (by decide +kernel) (pa_cons (pe_ix ix_list (pv 2) (pv 3) (fun _ _ => rfl)) (pa_cons (pe_ix ix_list (pv 2) (pv 4) (fun _ _ => rfl)) pa_nil))))
        (pss_cons (ps_set (i := 7) sc_l_groups.nd rfl (.inr rfl) (pe_callB (call_max2 rfl) (by rfl) mmax (by decide +kernel) (pa_cons (pe_ix ix_list (pv 2) (pv 3) (fun _ _ => rfl)) (pa_cons (pe_ix ix_list (pv 2) (pv 4) (fun _ _ => rfl)) pa_nil))))
        (pss_one (ps_if (PW.pt (pw_and (pt_cmpR op_in_seq (pv 5) (pv 1) rfl) (pw_and1 (pt_cmpR op_lt (pv 6) (pv 7) (nomark _)))))
          (pss_one (ps_setLc (i := 2) (own := [("_law_group", 8)]) (g := gName 8) (tt := tYes) rfl sc_l_groups.nd rfl rfl (sw_true rfl rfl rfl (by decide +kernel)) (pi_list (pv 2)) (blkOk_by (N := N_l_groups) (sc := defScope s_l_groups) (own := [("_law_group", 8)]) (by decide +kernel)) (fun _ _ _ _ _ => (pg_name (i := 8) sc_l_groups.nd rfl (.inl rfl))) (fun _ _ _ _ _ => pts_nil) (fun _ _ _ _ _ => (pe_ix (r := rIxL K) ix_list (pe_lst (pa_cons (pv 8) (pa_cons (pv 6) pa_nil))) (pe_callTy call_int1 (by rfl) M.int (by decide +kernel) (pa_cons (pe_cmpR op_eq (pv 8) (pv 7) (nomark _)) pa_nil)) (fun _ _ => rfl)))))
          pss_nil)))))
      (pss_one (ps_ret (pv 2))))), ?_⟩
    have hlen : us.length = ts.length := Paired.length hp
    have few := ok.few
    have hk : n ≤ 40 := by have := ok.hi; omega
    refine ⟨.ref wa, rfl, wa, _, 0, .int n, rfl, rfl, SqT.of hwa, rfl, n, rfl, RgOk.of_le (by omega) (by omega) (by omega) (by omega), fun L nL => ?_⟩
    rw [show rgV 0 (n : Int) = lf (fun i => i) n from lf_id n]
    have s1 : Same H (upd H L (.lst (lf (fun i => i) n))) := same_new nL
    refine ⟨.ref wa, rfl, wa, _, 1, .ref wb, rfl, rfl, SqT.of (s1 _ _ hwa), rfl, wb, rfl, ⟨_, SqT.of (s1 _ _ hwb)⟩, ?_⟩
    refine for_tup (xs := us) (fun i σ' H' => ∃ (y3 y4 y5 y6 y7 : Option V) (L : Addr) (g : Int → Int), σ' = [some (.ref wa), some (.ref a), some (.ref L), y3, y4, y5, y6, y7, none] ∧ H' L = some (.lst (lf g n)) ∧ LabT (kin fo (ts.take i)) n g ∧ Same H H' ∧ H L = none) ⟨none, none, none, none, none, L, _, rfl, upd_same, LabT.nil n, s1, nL⟩ (fun i σ' H' _ h => by
      obtain ⟨_, _, _, _, _, _, _, _, _, _, s3, _⟩ := h
      exact SqT.of (s3 _ _ hwb)) ?_ ?_
    · clear s1
      rintro i x σ' H2 ex ⟨y3, y4, y5, y6, y7, L, g, rfl, hL, gs, s2, nLH⟩
      obtain ⟨t, et, c, rfl, hc⟩ := Paired.at hp ex
      have okt := ok.ok t (List.mem_of_getElem? et)
      have okf : ∀ t ∈ kin fo (ts.take i), TieOk n t := fun t ht => ok.ok t (List.mem_of_mem_take (List.mem_filter.mp ht).1)
      refine ⟨c, _, rfl, SqT.of (s2 _ _ hc), rfl, _, _, rfl, _, _, rfl, _, _, rfl, rfl, ?_⟩
      refine ⟨.ref L, rfl, .int t.one, rfl, L, _, t.one, _, rfl, rfl, SqL.of hL, lf_at g okt.1 okt.2.1, .ref L, rfl, .int t.other, rfl, L, _, t.other, _, rfl, rfl, SqL.of hL, lf_at g okt.2.2.1 okt.2.2.2.1, g t.one, g t.other, rfl, ?_⟩
      refine ⟨.ref L, rfl, .int t.one, rfl, L, _, t.one, _, rfl, rfl, SqL.of hL, lf_at g okt.1 okt.2.1, .ref L, rfl, .int t.other, rfl, L, _, t.other, _, rfl, rfl, SqL.of hL, lf_at g okt.2.2.1 okt.2.2.2.1, g t.one, g t.other, rfl, ?_⟩
      have elo : (if g t.other < g t.one then g t.other else g t.one) = min (g t.one) (g t.other) := by split <;> omega
      have ehi : (if g t.other > g t.one then g t.other else g t.one) = max (g t.one) (g t.other) := by split <;> omega
      rw [elo, ehi]
      refine ⟨.str (kindS t.foe), rfl, .ref a, rfl, a, _, rfl, .inr (SqT.of (s2 _ _ ha)), rfl, (by cases fo <;> rfl), _, rfl, ?_⟩
      have e3 : inV (.str (kindS t.foe)) (kindsV fo) = (!t.foe || fo) := by cases t.foe <;> cases fo <;> decide +kernel
      simp only [Bool.false_eq_true, if_false]
      rw [e3]
      cases hf : (!t.foe || fo) with
      | false =>
        refine ⟨_, _, _, _, _, L, g, rfl, hL, ?_, s2, nLH⟩
        rw [kin_take et, if_neg (by rw [hf]; decide), List.append_nil]
        exact gs
      | true =>
        have gs' := gs.more okf okt
        have efr : kin fo (ts.take (i + 1)) = kin fo (ts.take i) ++ [t] := by rw [kin_take et, if_pos hf]
        rw [← efr] at gs'
        refine ⟨.int (min (g t.one) (g t.other)), rfl, .int (max (g t.one) (g t.other)), rfl, _, _, rfl, rfl, _, rfl, ite2 (fun e => ?_) (fun e => ?_)⟩
        · have hlt := of_decide_eq_true e
          generalize hlow : min (g t.one) (g t.other) = low at gs' hlt ⊢
          generalize hhigh : max (g t.one) (g t.other) = high at gs' hlt ⊢
          refine ⟨.ref L, rfl, L, rfl, ⟨_, SqL.of hL⟩, fun Z nZ => ?_⟩
          refine lc_list (xs := lf g n) (fun j H' => H' Z = some (.lst (lf (gNew g low high) j)) ∧ Same H2 H') ⟨upd_same, same_new nZ⟩ (fun j H' _ h => SqL.of (h.2 _ _ hL)) ?_ ?_
          · rintro j y H3 ey ⟨hZ, s3⟩
            have hj : j < n := by have := (List.getElem?_eq_some_iff.mp ey).1; rw [lf_len] at this; exact this
            rw [lf_get? g hj] at ey
            cases ey
            refine ⟨rfl, .int (g j), rfl, .int low, rfl, by show 2 ≤ sizeLine; decide, fun O nO => ?_⟩
            refine ⟨.int (g j), rfl, .int high, rfl, rfl, .inr ⟨_, rfl, O, _, _, _, rfl, rfl, SqL.of upd_same, pick2 _ _ _, ?_⟩⟩
            have hZ4 := same_new (o := .lst [.int (g j), .int low]) nO _ _ hZ
            refine ⟨_, hZ4, by rw [lf_len]; exact small1000 (by omega), ?_, fun b o e => by rw [upd_ne (ne_of_none e nZ)]; exact same_new nO _ _ (s3 b o e)⟩
            have ev : (if decide (V.int (g j) = V.int high) = true then V.int low else V.int (g j)) = V.int (gNew g low high j) := by
              unfold gNew
              by_cases eg : g j = high
              · rw [if_pos (decide_eq_true (by rw [eg])), if_pos ⟨hlt, eg⟩]
              · rw [if_neg (by rw [decide_eq_false (fun z => eg (V.int.inj z))]; decide), if_neg (fun z => eg z.2)]
            rw [ev, upd_same, lf_succ]
          · rintro H3 ⟨hZ, s3⟩
            rw [lf_len] at hZ
            exact ⟨_, _, _, _, _, Z, _, rfl, hZ, gs', s2.trans s3, s2.free nZ⟩
        · have hge : ¬ min (g t.one) (g t.other) < max (g t.one) (g t.other) := fun z => e (decide_eq_true z)
          rw [gNew_none g hge] at gs'
          exact ⟨_, _, _, _, _, L, g, rfl, hL, gs', s2, nLH⟩
    · rintro σ' H2 ⟨y3, y4, y5, y6, y7, L, g, rfl, hL, gs, s2, nLH⟩
      rw [hlen, List.take_length] at gs
      exact ⟨.ref L, rfl, q L g _ s2 hL gs nLH⟩
end
/-! ### lists of ints and of pairs, compared -/
def listD (xs : List Int) : PyData := .list (xs.map PyData.int)
theorem shaped_listD (xs : List Int) : SeqAt.shaped (listD xs) = true := by
  unfold SeqAt.shaped listD
  rw [PyData.canLay0, lay_ints, PyData.depth, deep_ints]
  rfl
theorem eqvAll_ints : ∀ (xs ys : List Int), PyData.eqvAll (xs.map PyData.int) (ys.map PyData.int) = decide (xs = ys)
  | [], [] => by simp [PyData.eqvAll]
  | [], y :: ys => by simp [PyData.eqvAll]
  | x :: xs, [] => by simp [PyData.eqvAll]
  | x :: xs, y :: ys => by
    rw [List.map_cons, List.map_cons, PyData.eqvAll, eqvAll_ints xs ys, PyData.eqv, Bool.eq_iff_iff, Bool.and_eq_true, beq_iff_eq, decide_eq_true_iff, decide_eq_true_iff, List.cons.injEq]
theorem eqv_listD (xs ys : List Int) : PyData.eqv (listD xs) (listD ys) = decide (xs = ys) := by
  unfold listD
  rw [PyData.eqv, eqvAll_ints]
theorem eqv_intsD (xs ys : List Int) : PyData.eqv (intsD xs) (intsD ys) = decide (xs = ys) := by
  unfold intsD
  rw [PyData.eqv, eqvAll_ints]
/-- a list of pairs of ints -/
def PrL (H : Hp) (L : Addr) (ps : List (Int × Int)) : Prop := ∃ bs : List Addr, H L = some (.lst (bs.map V.ref)) ∧ Paired (fun b p => H b = some (.tup [.int p.1, .int p.2])) bs ps
def prD65 (p : Int × Int) : PyData := intsD [p.1, p.2]
theorem dp_prs {K : PySem.W.Frag} {H : Hp} : ∀ {bs : List Addr} {ps : List (Int × Int)}, Paired (fun b p => H b = some (.tup [.int p.1, .int p.2])) bs ps → DpAll K H (bs.map V.ref) (ps.map prD65)
  | _, _, .nil => .nil
  | _, _, .cons r t => .cons (.tup (SqT.of r) (dp_ints [_, _])) (dp_prs t)
theorem lay_prs : ∀ ps : List (Int × Int), PyData.canLayAll0 (ps.map prD65) = true
  | [] => by simp [PyData.canLayAll0]
  | p :: ps => by
    rw [List.map_cons, PyData.canLayAll0, lay_prs ps, Bool.and_true]
    exact lay_intsD _
theorem deep_prs : ∀ ps : List (Int × Int), PyData.depthAll (ps.map prD65) ≤ 1
  | [] => by simp [PyData.depthAll]
  | p :: ps => by
    have h1 := deep_prs ps
    have h2 := deep_intsD [p.1, p.2]
    show PyData.depthAll (prD65 p :: ps.map prD65) ≤ 1
    rw [PyData.depthAll]
    unfold prD65 at *
    omega
theorem PrL.dp {K : PySem.W.Frag} {H : Hp} {L : Addr} {ps : List (Int × Int)} (h : PrL H L ps) : ∃ ds, Dp K H (.ref L) (.list ds) ∧ SeqAt.shaped (.list ds) = true ∧ ∀ a b : Int, (ds.any fun z => PyData.eqv z (intsD [a, b])) = decide ((a, b) ∈ ps) := by
  obtain ⟨bs, h1, h2⟩ := h
  refine ⟨ps.map prD65, .lst (SqL.of h1) (dp_prs h2), ?_, fun a b => ?_⟩
  · have := deep_prs ps
    unfold SeqAt.shaped
    rw [PyData.canLay0, lay_prs, Bool.true_and, decide_eq_true_iff, PyData.depth]
    omega
  · rw [List.any_map, Bool.eq_iff_iff, List.any_eq_true, decide_eq_true_iff]
    constructor
    · rintro ⟨p, hp, e⟩
      have e : PyData.eqv (intsD [p.1, p.2]) (intsD [a, b]) = true := e
      rw [eqv_intsD, decide_eq_true_iff] at e
      injection e with e1 e2
      injection e2 with e2 _
      obtain ⟨x, y⟩ := p
      have e1 : x = a := e1
      have e2 : y = b := e2
      rw [← e1, ← e2]
      exact hp
    · intro h
      exact ⟨(a, b), h, by show PyData.eqv (intsD [a, b]) (intsD [a, b]) = true; rw [eqv_intsD]; exact decide_eq_true rfl⟩
theorem PrL.same {H H' : Hp} {L : Addr} {ps : List (Int × Int)} (h : PrL H L ps) (s : Same H H') : PrL H' L ps := by
  obtain ⟨bs, h1, h2⟩ := h
  exact ⟨bs, s _ _ h1, Paired.mono (fun _ _ q => s _ _ q) h2⟩
theorem PrL.snoc {H H' : Hp} {L b : Addr} {ps : List (Int × Int)} {p : Int × Int} (h : PrL H L ps) (s : Same H H') (hb : H' b = some (.tup [.int p.1, .int p.2])) {o : HO} (e : ∀ bs : List Addr, H' L = some (.lst (bs.map V.ref)) → o = .lst ((bs ++ [b]).map V.ref)) : PrL (upd H' L o) L (ps ++ [p]) := by
  obtain ⟨bs, h1, h2⟩ := h
  refine ⟨bs ++ [b], by rw [upd_same, e bs (s _ _ h1)], Paired.snoc65 (Paired.mono (fun c q hq => ?_) h2) ?_⟩
  · rw [upd_ne (ne_of (s _ _ hq) (s _ _ h1) (by intro z; cases z))]
    exact s _ _ hq
  · rw [upd_ne (ne_of hb (s _ _ h1) (by intro z; cases z))]
    exact hb
/-! ### sorted(set(t)) of a tuple of ints, any number of them -/
section
open L2
variable {P : Program} {w : World} {A : PySem.Around} {E : Value → Shared → Prop} {s : Shared} {a : Addr}
theorem sorted_setN {S : Int → Bool} {n : Nat} {Q : Value → Shared → Prop} (R : SetR w s.heap a S n) (hh : A.handled = none) (h4 : n ≤ 4000)
    (hQ : ∀ s' p (out : Array Value) (c : Nat) (ns : List Int), (∀ b o, s.heap.get? b = some o → s'.heap.get? b = some o) → s'.gens = s.gens → s'.os = s.os → s.heap.objs.size ≤ p →
      s'.heap.get? p = some (seqObj "list" out c) → IntsAre out.toList ns → ns.Pairwise (· < ·) → (∀ k, k ∈ ns ↔ S k = true) → ns.length = n → Q (.ref p) s') :
    wpAny (model P w) A (call (.builtin "sorted") [.ref a]) Q E s := by
  obtain ⟨o, es, ep, t, ho, hex, hd, g, nd, hm, hb, hf, hn, hr, hl⟩ := R
  refine Calls.call_function_entry kind_sorted plain_sorted entry_sorted (args_sorted1 _) ?_
  unfold Builtin.«sorted»
  refine wpAny_bind (m := checkCount "sorted" 1 1 _) (wpAny_pure ?_)
  refine wpAny_bind (collect_set (A := A.in1) hh ⟨o, ho, hex.1, hd⟩ hf hb hr hl fun s1 vs k1 hz g1 o1 pm => ?_)
  have hvl : vs.length = n := by rw [pm.length_eq, List.length_map, Array.length_toList]; exact hn
  have hI : IntsAre vs (vs.map Builtin.Re.reRawOf) := ints_of vs fun v hv => by
    obtain ⟨e, he, q⟩ := List.mem_map.mp (pm.mem_iff.mp hv)
    obtain ⟨k, tk, h1, _⟩ := g e he
    exact ⟨k, tk, by rw [← q]; exact h1⟩
  have pk : (vs.map Builtin.Re.reRawOf).Perm (es.toList.map keyOf) := by
    have q := pm.map Builtin.Re.reRawOf
    rw [List.map_map] at q
    exact q
  refine wpAny_bind (wpAny_newList ?_ (by rw [hvl, sizeLine_eq]; omega))
  have hoL : (s1.heap.push (seqObj "list" vs.toArray 0)).get? s1.heap.objs.size = some (seqObj "list" vs.toArray 0) := Heap.get?_push_size _ rfl
  refine wpAny_bind (wpAny_holding (wpAny_call_entry slot_list_sort ⟨_, hoL, rfl⟩ entry_list_sort (SrtO.list_sort_ord SrtO.swo_int hoL (by rw [hvl, sizeLine_eq]; omega) (fun h2 => SrtO.ints_sortable hI h2) fun out h1 h2 => ⟨_, rfl, ?_⟩) (args_list_sort _)))
  obtain ⟨a1, a2, a3⟩ := SrtO.ints_out hI h1 h2
  obtain ⟨c, hc⟩ := sortedHeap_at (vs := vs) (out := out.toArray) hoL
  have pn : (out.map SrtO.iv).Perm (es.toList.map keyOf) := a2.trans pk
  refine wpAny_pure ⟨_, rfl, hQ _ s1.heap.objs.size out.toArray c (out.map SrtO.iv) (fun b u e => ?_) g1 o1 hz hc (by simpa using a1) (lt_of_le_nodup _ a3 (pn.nodup_iff.mpr nd)) (fun k => by rw [pn.mem_iff, ← hm k]) ?_⟩
  · have q := k1 b u e
    have hlt := Heap.lt_size q
    show (sortedHeap (s1.heap.push (seqObj "list" vs.toArray 0)) s1.heap.objs.size vs out.toArray).get? b = some u
    rw [sortedHeap_old (Nat.ne_of_lt hlt) (by rw [size_push']; exact Nat.lt_succ_of_lt hlt)]
    exact Heap.get?_push_of_some _ q
  · rw [pn.length_eq, List.length_map, Array.length_toList]; exact hn
end
def tSortSet (K : PySem.W.Frag) (ta : TE) : TE := fun σ H Q => ta σ H fun x H1 => ∃ (l : Addr) (ns : List Int), x = .ref l ∧ SqT K H1 l (ns.map V.int) ∧ ns.length ≤ 4000 ∧ ∀ (ks : List Int) (p : Addr), ks.Pairwise (· < ·) → (∀ k, k ∈ ks ↔ k ∈ ns) → H1 p = none → Q (.ref p) (upd H1 p (.lst (ks.map V.int)))
theorem pe_sortSetT {X : Cx} {a : Expr} {ta : TE} {p p2 q pos : Pos} (hg : Gl X "sorted") (hm : X.mg "sorted" = none) (hg2 : Gl X "set") (hm2 : X.mg "set" = none) (ha : PE X a ta) (hc : X.calm = true := by rfl)
    (na : starEach [a] X.env = (false, eval a X.env) :: starEach [] X.env := by rfl) : PE X (.Call (.Name "sorted" p) [.Call (.Name "set" p2) [a] [] q] [] pos) (tSortSet X.K ta) := by
  refine ⟨fun pins s σ H Q I want => Call_ (ld_blt I hg hm (show bootBuiltins "sorted" = some (.builtin "sorted") by decide +kernel) (PyProof.Rows.callWith_builtin1 (PyProof.Rows.args_cons (Call_ (ld_blt I hg2 hm2 PyProof.Rows.boot_set (PyProof.Rows.callWith_type1 (PyProof.Rows.args_cons (thn (ha.run pins s σ H _ I want) fun v s1 got => PyProof.Rows.args_nil ?_) na) na rfl))) rfl) rfl rfl))⟩
  obtain ⟨x, H1, J, r1, l, ns, ex, hq, hl, q1⟩ := got
  subst ex
  obtain rfl : v = Value.ref l := r1
  obtain ⟨its, rel, tup, _⟩ := J.tuple hq
  refine call_set_tupI ns (J.ok.hd hc) tup (by simpa using rel.ints) (by unfold scanBound; omega) fun h' tk c hS hcl kp => PyProof.Rows.args_nil ?_
  have J2 : Inv X pins σ H1 { s1 with heap := h', toks := tk } := J.kept kp
  have cl : c ≤ 4000 := by
    obtain ⟨o, es, ep, t, ho, hex, hd, _, nd, mem, _, hf, hn, _⟩ := hS
    have len : (es.toList.map keyOf).length = c := by rw [List.length_map, Array.length_toList, hn]
    have := sub_len nd (ns := ns) fun y hy => by
      have := (mem y).mpr hy
      exact of_decide_eq_true this
    omega
  obtain ⟨s2, es2⟩ : ∃ s2 : Shared, s2 = { s1 with heap := h', toks := tk } := ⟨_, rfl⟩
  rw [← es2] at J2
  show wpAny _ _ _ _ _ { s1 with heap := h', toks := tk }
  rw [← es2]
  refine sorted_setN (by rw [es2]; exact hS) (J2.ok.hd hc) cl fun s' p out c' ks k g o hp hg' hi hs hm' hl' => ?_
  have hlen : (ks.map V.int).length ≤ sizeLine := by rw [List.length_map, hl', sizeLine_eq]; omega
  have hn : H1 p = none := J2.hok.fresh hp
  have J3 : Inv X pins σ (upd H1 p (.lst (ks.map V.int))) { s2 with heap := s'.heap, gens := s'.gens, drawn := s'.drawn, toks := s'.toks } :=
    J2.call (ch := []) (Un.laid k hp hn) (J2.hok.laid k hp ⟨hlen, out.toList, c', vals_of_ints hi, hg'⟩) (by rw [g]; exact J2.bare) (fun _ z => nomatch z)
  have e : s' = { s2 with heap := s'.heap, gens := s'.gens, drawn := s'.drawn, toks := s'.toks } := by
    cases s'
    cases s2
    cases o
    rfl
  rw [e]
  exact ⟨.ref p, _, J3, rfl, q1 ks p hs (fun z => by rw [hm' z, decide_eq_true_iff]) hn⟩
/-! ### the law's own look at papers that none do -/
theorem map_int_inj : ∀ {xs ys : List Int}, xs.map V.int = ys.map V.int → xs = ys
  | [], [], _ => rfl
  | [], _ :: _, h => by cases h
  | _ :: _, [], h => by cases h
  | x :: xs, y :: ys, h => by
    rw [List.map_cons, List.map_cons] at h
    injection h with h1 h2
    injection h1 with h1
    rw [h1, map_int_inj h2]
theorem Met.sym' {ts : List Tie} {x y : Int} : Met ts x y ↔ Met ts y x := ⟨Met.symm, Met.symm⟩
def isA : V → Bool
  | .int _ => true
  | .bl _ => true
  | _ => false
def plB (n : Nat) : V → Bool
  | .int z => decide (0 ≤ z) && decide (z < (n : Int))
  | _ => false
theorem plB_int {n : Nat} {v : V} (h : plB n v = true) : ∃ z, v = .int z ∧ 0 ≤ z ∧ z < (n : Int) := by
  cases v with
  | int z =>
    have h : (decide (0 ≤ z) && decide (z < (n : Int))) = true := h
    rw [Bool.and_eq_true, decide_eq_true_iff, decide_eq_true_iff] at h
    exact ⟨z, rfl, h.1, h.2⟩
  | _ => cases h
theorem kn_atom {H : Hp} {v : V} (h : isA v = true) : Kn H v := by
  cases v <;> first | trivial | cases h
theorem Kn.same65 {H H' : Hp} (s : Same H H') {v : V} (h : Kn H v) : Kn H' v := by
  cases v with
  | ref a =>
    rcases h with ⟨xs, h⟩ | ⟨xs, h⟩ | ⟨xs, h⟩
    · exact .inl ⟨xs, s _ _ h⟩
    · exact .inr (.inl ⟨xs, s _ _ h⟩)
    · exact .inr (.inr ⟨xs, s _ _ h⟩)
  | _ => exact h
def spIsPl : Sp := fun vs H Q _ => ∃ (v x : V) (n : Nat) (ts : List Tie), vs = [v, x] ∧ WebAt H v n ts ∧ Kn H x ∧ Q (.bl (plB n x)) H
/-- a crowd: told as a tuple of ints and bools, or as something else -/
def CrV (H : Hp) (c : V) : Option (List V) → Prop
  | none => Kn H c ∧ isT H c = false
  | some vs => ∃ a, c = .ref a ∧ H a = some (.tup vs) ∧ (∀ x ∈ vs, Kn H x) ∧ vs.length ≤ 900
def CrQ (k : Int) (n : Nat) (ts : List Tie) : Option (List V) → Prop
  | none => False
  | some vs => ∃ xs : List Int, vs = xs.map V.int ∧ Crw k n ts xs
open Classical in
noncomputable def crQ (k : Int) (n : Nat) (ts : List Tie) (o : Option (List V)) : Bool := decide (CrQ k n ts o)
def ClQ (n : Nat) (ts : List Tie) (a b : V) : Prop := ∃ x y : Int, a = .int x ∧ b = .int y ∧ Cls2 n ts x y
open Classical in
noncomputable def clQ (n : Nat) (ts : List Tie) (a b : V) : Bool := decide (ClQ n ts a b)
open Classical in
theorem crQ_t {k : Int} {n : Nat} {ts : List Tie} {o : Option (List V)} (h : CrQ k n ts o) : crQ k n ts o = true := by
  unfold crQ
  exact decide_eq_true h
open Classical in
theorem crQ_f {k : Int} {n : Nat} {ts : List Tie} {o : Option (List V)} (h : ¬ CrQ k n ts o) : crQ k n ts o = false := by
  unfold crQ
  exact decide_eq_false h
open Classical in
theorem clQ_t {n : Nat} {ts : List Tie} {a b : V} (h : ClQ n ts a b) : clQ n ts a b = true := by
  unfold clQ
  exact decide_eq_true h
open Classical in
theorem clQ_f {n : Nat} {ts : List Tie} {a b : V} (h : ¬ ClQ n ts a b) : clQ n ts a b = false := by
  unfold clQ
  exact decide_eq_false h
def spLCrowd : Sp := fun vs H Q _ => ∃ (v : V) (k : Int) (c : V) (n : Nat) (ts : List Tie) (o : Option (List V)), vs = [v, .int k, c] ∧ WebAt H v n ts ∧ WebL n ts ∧ CrV H c o ∧ ∀ H', Same H H' → Q (.bl (crQ k n ts o)) H'
def spLClash : Sp := fun vs H Q _ => ∃ (v a b : V) (n : Nat) (ts : List Tie), vs = [v, a, b] ∧ WebAt H v n ts ∧ WebL n ts ∧ Kn H a ∧ Kn H b ∧ ∀ H', Same H H' → Q (.bl (clQ n ts a b)) H'
section
variable {P : Program} {w : World} {K : PySem.W.Frag} {mg : Str → Option Value} {base : Heap}
set_option maxHeartbeats 4000000 in
theorem ok_l_is_place {f : Addr} {fd : FuncData} (F : Fun K "_law_is_place" "_law_is_place" s_l_is_place f fd) (M : Free mg) : FnOk P w K mg base CX0 1 f fd ["_law_web", "_law_thing"] spIsPl := by
  refine F.ok sc_l_is_place (fun vs H Q E h => ?_) (fun cdv A outer s H vs Q E hr h => ?_)
  · obtain ⟨v, x, n, ts, rfl, _⟩ := h
    rfl
  · obtain ⟨v, x, n, ts, rfl, hW, hx, q⟩ := h
    refine ⟨_, (pss_one (ps_ret (pe_and (pe_callB call_isi (by rfl) M.isinstance (by decide +kernel) (pa_cons (pv 1) (pa_cons (pe_bltn (v := .ty "int") (by rfl) M.int (by decide +kernel) rfl) pa_nil))) (pe_and (pe_not (pe_callB call_isi (by rfl) M.isinstance (by decide +kernel) (pa_cons (pv 1) (pa_cons (pe_bltn (v := .ty "bool") (by rfl) M.bool (by decide +kernel) rfl) pa_nil)))) (pe_one (pe_chain op_le op_lt pe_int (pv 1) (pe_ix ix_tup (pv 0) pe_int (fun _ _ => rfl)))))))), ?_⟩
    obtain ⟨wa, wb, us, rfl, hwa, hwb, hp⟩ := hW
    obtain ⟨t1, h1, e1⟩ := kn_int (K := K) hx
    obtain ⟨t2, h2, e2⟩ := kn_bool (K := K) hx
    refine ⟨x, rfl, x, _, t1, _, _, rfl, .ty "int", h1, e1, _, rfl, ?_⟩
    cases x with
    | int z =>
      refine ⟨.int z, rfl, .int z, _, t2, _, _, rfl, .ty "bool", h2, e2, _, rfl, _, rfl, ?_⟩
      refine ⟨.int z, rfl, 0, z, rfl, rfl, _, rfl, ?_⟩
      have e : plB n (.int z) = (decide (0 ≤ z) && decide (z < (n : Int))) := rfl
      rw [e] at q
      cases h0 : decide (0 ≤ z) with
      | false =>
        rw [h0, Bool.false_and] at q
        exact q
      | true =>
        rw [h0, Bool.true_and] at q
        exact ⟨.ref wa, rfl, wa, _, 0, .int n, rfl, rfl, SqT.of hwa, rfl, z, n, rfl, rfl, q⟩
    | bl b =>
      refine ⟨.bl b, rfl, .bl b, _, t2, _, _, rfl, .ty "bool", h2, e2, _, rfl, _, rfl, q⟩
    | non => exact q
    | str _ => exact q
    | ref _ => exact q
    | _ => exact hx.elim
set_option maxHeartbeats 4000000 in
theorem ok_l_clash {f : Addr} {fd : FuncData} (F : Fun K "_law_clash" "_law_clash" s_l_clash f fd) (D_l_is_place : Df P w K mg base 1 "_law_is_place" ["_law_web", "_law_thing"] spIsPl) (D_l_groups : Df P w K mg base 1 "_law_groups" ["_law_web", "_law_kinds"] spGroups2) : FnOk P w K mg base CX0 2 f fd ["_law_web", "_law_one", "_law_other"] spLClash := by
  obtain ⟨f_l_is_place, fd_l_is_place, G_l_is_place, g_l_is_place, k_l_is_place, b_l_is_place⟩ := D_l_is_place
  obtain ⟨f_l_groups, fd_l_groups, G_l_groups, g_l_groups, k_l_groups, b_l_groups⟩ := D_l_groups
  refine F.ok sc_l_clash (fun vs H Q E h => ?_) (fun cdv A outer s H vs Q E hr h => ?_)
  · obtain ⟨v, a, b, n, ts, rfl, _⟩ := h
    rfl
  · obtain ⟨v, a, b, n, ts, rfl, hW, ok, ha, hb, q⟩ := h
    refine ⟨_, (pss_cons (ps_if (PW.pt (pw_or (pt_not (pt_val (pe_call G_l_is_place (hr.mono (by decide)) (by rfl) g_l_is_place k_l_is_place b_l_is_place .nil pass0 (pa_cons (pv 0) (pa_cons (pv 1) pa_nil))))) (pw_or1 (pt_not (pt_val (pe_call G_l_is_place (hr.mono (by decide)) (by rfl) g_l_is_place k_l_is_place b_l_is_place .nil pass0 (pa_cons (pv 0) (pa_cons (pv 2) pa_nil))))))))
        (pss_one (ps_ret pe_bl))
        pss_nil)
      (pss_cons (ps_set (i := 3) sc_l_clash.nd rfl (.inl rfl) (pe_call G_l_groups (hr.mono (by decide)) (by rfl) g_l_groups k_l_groups b_l_groups .nil pass0 (pa_cons (pv 0) (pa_cons (pe_tup (pa_cons pe_str pa_nil)) pa_nil))))
      (pss_cons (ps_setLc (i := 4) (own := [("_law_tie", 5)]) (g := (gName 5)) rfl sc_l_clash.nd rfl rfl (sw_true rfl rfl rfl (by decide +kernel)) (pi_tup (pe_ix ix_tup (pv 0) pe_int (fun _ _ => rfl))) (blkOk_by (N := N_l_clash) (sc := defScope s_l_clash) (own := [("_law_tie", 5)]) (by decide +kernel)) (fun _ _ _ _ _ => (pg_name (i := 5) sc_l_clash.nd rfl (.inl rfl))) (fun _ _ _ _ _ => (pts_one (pt_cmpR op_eq (pe_ix (r := rIxT K) ix_tup (pv 5) pe_int (fun _ _ => rfl)) pe_str (nomark _)))) (fun _ _ _ _ _ => (pe_slice sl_tupU (pv 5) po_none (po_some pe_int))))
      (pss_one (ps_ret (pe_and (pe_cmpR op_eq (pe_ix ix_list (pv 3) (pv 1) (fun _ _ => rfl)) (pe_ix ix_list (pv 3) (pv 2) (fun _ _ => rfl)) (nomark _)) (pe_one (pe_or (pe_cmpR  (op_inD (room65 hr)) (pe_tup (pa_cons (pv 1) (pa_cons (pv 2) pa_nil))) (pv 4) rfl) (pe_one (pe_cmpR  (op_inD (room65 hr)) (pe_tup (pa_cons (pv 2) (pa_cons (pv 1) pa_nil))) (pv 4) rfl)))))))))), ?_⟩
    have q' : ¬ ClQ n ts a b → Q (.bl false) H := fun z => by
      have := q H (Same.refl _)
      rw [clQ_f z] at this
      exact this
    obtain ⟨wa, wb, us, rfl, hwa, hwb, hp⟩ := id hW
    have lu : us.length = ts.length := Paired.length hp
    have few := ok.few
    refine ⟨.ref wa, rfl, a, rfl, .ref wa, a, n, ts, rfl, hW, ha, _, rfl, ?_⟩
    cases pa : plB n a with
    | false =>
      refine q' (fun ⟨x, y, e1, e2, c⟩ => ?_)
      rw [e1] at pa
      have pa : (decide (0 ≤ x) && decide (x < (n : Int))) = false := pa
      rw [decide_eq_true c.1.1.1, decide_eq_true c.1.1.2] at pa
      cases pa
    | true =>
    refine ⟨.ref wa, rfl, b, rfl, .ref wa, b, n, ts, rfl, hW, hb, _, rfl, ?_⟩
    cases pb : plB n b with
    | false =>
      refine q' (fun ⟨x, y, e1, e2, c⟩ => ?_)
      rw [e2] at pb
      have pb : (decide (0 ≤ y) && decide (y < (n : Int))) = false := pb
      rw [decide_eq_true c.1.2.1, decide_eq_true c.1.2.2] at pb
      cases pb
    | true =>
    obtain ⟨x, rfl, x0, x1⟩ := plB_int pa
    obtain ⟨y, rfl, y0, y1⟩ := plB_int pb
    refine ⟨.ref wa, rfl, by show 1 ≤ sizeLine; decide, fun e ne => ?_⟩
    have se := same_new (o := .tup [.str "friend"]) ne
    refine ⟨.ref wa, e, n, ts, false, rfl, hW.tk (Same.tk se), ok, upd_same, fun L g H1 s1 hL lab _ => ?_⟩
    rw [kin_frs] at lab
    have s01 := se.trans s1
    refine ⟨.ref wa, rfl, wa, _, 1, .ref wb, rfl, rfl, SqT.of (s01 _ _ hwa), rfl, wb, rfl, ⟨_, SqT.of (s01 _ _ hwb)⟩, fun Z nZ => ?_⟩
    refine lc_it (walk_tup (xs := us)) (fun i H' => PrL H' Z (((ts.take i).filter (·.foe)).map fun t => (t.one, t.other)) ∧ Same H1 H') ⟨⟨[], upd_same, .nil⟩, same_new nZ⟩ (fun i H' _ h => SqT.of ((s01.trans h.2) _ _ hwb)) ?_ ?_
    · rintro i x1 H2 H3 hi ⟨hZ, s2⟩ ⟨rfl, ex⟩
      obtain ⟨t, et, c, rfl, hc⟩ := Paired.at hp ex
      have hc3 := (s01.trans s2) _ _ hc
      have etk : ts.take (i + 1) = ts.take i ++ [t] := take_snoc et
      have ek : decide (V.str (kindS t.foe) = V.str "foe") = t.foe := by cases t.foe <;> decide +kernel
      refine ⟨rfl, .ref c, rfl, c, _, 2, .str (kindS t.foe), rfl, rfl, SqT.of hc3, rfl, rfl, _, rfl, ?_⟩
      rw [ek, etk, List.filter_append, List.map_append]
      cases hf : t.foe with
      | false =>
        rw [show List.filter (fun t : Tie => t.foe) [t] = [] from List.filter_cons_of_neg (by rw [hf]; decide)]
        rw [List.map_nil, List.append_nil]
        exact ⟨hZ, s2⟩
      | true =>
        rw [show List.filter (fun t : Tie => t.foe) [t] = [t] from List.filter_cons_of_pos hf]
        refine ⟨.ref c, rfl, 2, rfl, c, _, rfl, hc3, fun r H4 s4 hr4 => ?_⟩
        obtain ⟨bs, hb1, hb2⟩ := id hZ
        have lb := Paired.length hb2
        have lf := List.length_filter_le (fun t : Tie => t.foe) (ts.take i)
        rw [List.length_take] at lf
        rw [List.length_map] at lb
        refine ⟨_, s4 _ _ hb1, by rw [List.length_map]; exact small1000 (by omega), hZ.snoc s4 (p := (t.one, t.other)) (by rw [hr4]; rfl) (b := r) fun cs hcs => ?_, Same.mut (s2.trans s4) nZ⟩
        rw [s4 _ _ hb1] at hcs
        injection hcs with hcs
        injection hcs with hcs
        rw [hcs, List.map_append]
        rfl
    · rintro H2 ⟨hZ, s2⟩
      rw [lu, List.take_length] at hZ
      have hL2 := s2 _ _ hL
      have okf := frs_okn ok.ok
      have giff := lab.iff (x := x) (y := y) ⟨x0, x1⟩ ⟨y0, y1⟩
      refine ⟨.ref L, rfl, .int x, rfl, L, _, x, _, rfl, rfl, SqL.of hL2, lf_at g x0 x1, .ref L, rfl, .int y, rfl, L, _, y, _, rfl, rfl, SqL.of hL2, lf_at g y0 y1, rfl, _, rfl, ?_⟩
      by_cases gxy : g x = g y
      · rw [show decide (V.int (g x) = V.int (g y)) = true from decide_eq_true (by rw [gxy])]
        have fr : FR ts x y := giff.mp gxy
        have inP : ∀ u v : Int, (u, v) ∈ ((ts.filter (·.foe)).map fun t => (t.one, t.other)) ↔ ∃ t ∈ ts, t.foe = true ∧ t.one = u ∧ t.other = v := fun u v => by
          rw [List.mem_map]
          constructor
          · rintro ⟨t, ht, e⟩
            obtain ⟨h1, h2⟩ := List.mem_filter.mp ht
            injection e with e1 e2
            exact ⟨t, h1, h2, e1, e2⟩
          · rintro ⟨t, h1, h2, e1, e2⟩
            exact ⟨t, List.mem_filter.mpr ⟨h1, h2⟩, by rw [e1, e2]⟩
        refine ⟨.int x, rfl, .int y, rfl, by show 2 ≤ sizeLine; decide, fun p np => ?_⟩
        have sp := same_new (o := .tup [.int x, .int y]) np
        obtain ⟨ds, d1, d2, d3⟩ := (hZ.same sp).dp (K := K)
        refine ⟨.ref Z, rfl, intsD [x, y], ds, .tup (SqT.of upd_same) (dp_ints [x, y]), d1, shaped_intsD _, d2, _, rfl, ?_⟩
        rw [d3]
        have tru : (∃ t ∈ ts, t.foe = true ∧ ((t.one = x ∧ t.other = y) ∨ (t.one = y ∧ t.other = x))) → ClQ n ts (.int x) (.int y) := fun ⟨t, h1, h2, h3⟩ => ⟨x, y, rfl, rfl, ⟨⟨x0, x1⟩, ⟨y0, y1⟩⟩, fr, t, h1, h2, h3⟩
        by_cases h1 : (x, y) ∈ ((ts.filter (·.foe)).map fun t => (t.one, t.other))
        · rw [decide_eq_true h1]
          obtain ⟨t, e1, e2, e3, e4⟩ := (inP x y).mp h1
          have := q _ ((s01.trans s2).trans sp)
          rw [clQ_t (tru ⟨t, e1, e2, .inl ⟨e3, e4⟩⟩)] at this
          exact this
        · rw [decide_eq_false h1]
          refine ⟨.int y, rfl, .int x, rfl, by show 2 ≤ sizeLine; decide, fun p2 np2 => ?_⟩
          have sp2 := same_new (o := .tup [.int y, .int x]) np2
          obtain ⟨ds2, c1, c2, c3⟩ := (hZ.same (sp.trans sp2)).dp (K := K)
          refine ⟨.ref Z, rfl, intsD [y, x], ds2, .tup (SqT.of upd_same) (dp_ints [y, x]), c1, shaped_intsD _, c2, ?_⟩
          rw [c3]
          by_cases h2 : (y, x) ∈ ((ts.filter (·.foe)).map fun t => (t.one, t.other))
          · rw [decide_eq_true h2]
            obtain ⟨t, e1, e2, e3, e4⟩ := (inP y x).mp h2
            have := q _ ((s01.trans s2).trans (sp.trans sp2))
            rw [clQ_t (tru ⟨t, e1, e2, .inr ⟨e3, e4⟩⟩)] at this
            exact this
          · rw [decide_eq_false h2]
            have := q _ ((s01.trans s2).trans (sp.trans sp2))
            rw [clQ_f (fun ⟨x', y', e1, e2, c⟩ => by
              injection e1 with e1
              injection e2 with e2
              subst e1
              subst e2
              obtain ⟨t, a1, a2, a3⟩ := c.2.2
              rcases a3 with ⟨a3, a4⟩ | ⟨a3, a4⟩
              · exact h1 ((inP x y).mpr ⟨t, a1, a2, a3, a4⟩)
              · exact h2 ((inP y x).mpr ⟨t, a1, a2, a3, a4⟩))] at this
            exact this
      · rw [show decide (V.int (g x) = V.int (g y)) = false from decide_eq_false (fun z => gxy (by injection z))]
        have := q H2 (s01.trans s2)
        rw [clQ_f (fun ⟨x', y', e1, e2, c⟩ => gxy (giff.mpr (by injection e1 with e1; injection e2 with e2; rw [e1, e2]; exact c.2.1)))] at this
        exact this
end
section
variable {P : Program} {w : World} {K : PySem.W.Frag} {mg : Str → Option Value} {base : Heap}
set_option maxHeartbeats 4000000 in
theorem ok_l_crowd {f : Addr} {fd : FuncData} (F : Fun K "_law_crowd" "_law_crowd" s_l_crowd f fd) (M : Free mg) (m_sorted : mg "sorted" = none) (m_set : mg "set" = none) (D_l_is_place : Df P w K mg base 1 "_law_is_place" ["_law_web", "_law_thing"] spIsPl) (D_l_groups : Df P w K mg base 1 "_law_groups" ["_law_web", "_law_kinds"] spGroups2) : FnOk P w K mg base CX0 2 f fd ["_law_web", "_law_k", "_law_places"] spLCrowd := by
  obtain ⟨f_l_is_place, fd_l_is_place, G_l_is_place, g_l_is_place, k_l_is_place, b_l_is_place⟩ := D_l_is_place
  obtain ⟨f_l_groups, fd_l_groups, G_l_groups, g_l_groups, k_l_groups, b_l_groups⟩ := D_l_groups
  refine F.ok sc_l_crowd (fun vs H Q E h => ?_) (fun cdv A outer s H vs Q E hr h => ?_)
  · obtain ⟨v, k, c, n, ts, o, rfl, _⟩ := h
    rfl
  · obtain ⟨v, k, c, n, ts, o, rfl, hW, ok, hc, q⟩ := h
    refine ⟨_, (pss_cons (ps_if (PW.pt (pw_or (pt_not (pt_val (pe_callB call_isi (by rfl) M.isinstance (by decide +kernel) (pa_cons (pv 2) (pa_cons (pe_bltn (v := .ty "tuple") (by rfl) M.tuple (by decide +kernel) rfl) pa_nil))))) (pw_or1 (pt_cmpR (op_neE hr.units0) (pe_lc (own := [("_law_one", 3)]) (g := (gName 3)) (te := tVar 3) rfl sc_l_crowd.nd (pi_tup (pv 2)) (blkOk_by (N := N_l_crowd) (sc := defScope s_l_crowd) (own := [("_law_one", 3)]) (by decide +kernel)) (fun _ _ _ _ _ => (pg_name (i := 3) sc_l_crowd.nd rfl (.inl rfl))) (fun _ _ _ _ _ => (pts_one (pt_not (pt_val (pe_call G_l_is_place (hr.mono (by decide)) (by rfl) g_l_is_place k_l_is_place b_l_is_place .nil pass0 (pa_cons (pv 0) (pa_cons (pv 3) pa_nil))))))) (fun _ _ _ _ _ => (pv 3))) (pe_lst pa_nil) (nomark _)))))
        (pss_one (ps_ret pe_bl))
        pss_nil)
      (pss_cons (ps_if (PW.pt (pw_or (pt_cmpR op_ne (pe_callB call_len_seq (by rfl) M.len PySem.boot_len (pa_cons (pv 2) pa_nil)) (pe_op op_add (pv 1) pe_int) (nomark _)) (pw_or1 (pt_cmpR  (op_neD hr.units) (pe_callTy call_list_of (by rfl) M.list (by decide +kernel) (pa_cons (pv 2) pa_nil)) (pe_sortSetT (by rfl) m_sorted (by rfl) m_set (pv 2)) (nomark _)))))
        (pss_one (ps_ret pe_bl))
        pss_nil)
      (pss_cons (ps_set (i := 4) sc_l_crowd.nd rfl (.inr rfl) (pe_call G_l_groups (hr.mono (by decide)) (by rfl) g_l_groups k_l_groups b_l_groups .nil pass0 (pa_cons (pv 0) (pa_cons (pe_tup (pa_cons pe_str pa_nil)) pa_nil))))
      (pss_cons (ps_setLc (i := 5) (own := [("_law_one", 3), ("_law_other", 6), ("_law_kind", 7)]) (g := (gTup K 3 (gCons (gName 3) (gCons (gName 6) (gCons (gName 7) gNil))))) rfl sc_l_crowd.nd rfl rfl (sw_true rfl rfl rfl (by decide +kernel)) (pi_tup (pe_ix ix_tup (pv 0) pe_int (fun _ _ => rfl))) (blkOk_by (N := N_l_crowd) (sc := defScope s_l_crowd) (own := [("_law_one", 3), ("_law_other", 6), ("_law_kind", 7)]) (by decide +kernel)) (fun _ _ _ _ _ => (pg_tup rfl (pgs_cons (pg_name (i := 3) sc_l_crowd.nd rfl (.inl rfl)) (pgs_cons (pg_name (i := 6) sc_l_crowd.nd rfl (.inl rfl)) (pgs_cons (pg_name (i := 7) sc_l_crowd.nd rfl (.inl rfl)) pgs_nil))))) (fun _ _ _ _ _ => (pts_one (pt_cmpR op_eq (pv 7) pe_str (nomark _)))) (fun _ _ _ _ _ => (pe_tup (pa_cons (pe_ix (r := rIxL K) ix_list (pv 4) (pv 3) (fun _ _ => rfl)) (pa_cons (pe_ix (r := rIxL K) ix_list (pv 4) (pv 6) (fun _ _ => rfl)) pa_nil)))))
      (pss_cons (ps_for PassesOwn.never rfl (pi_range1 (by rfl) M.range (pa_cons (pe_callB call_len_seq (by rfl) M.len PySem.boot_len (pa_cons (pv 2) pa_nil)) pa_nil)) (pg_name (i := 8) sc_l_crowd.nd rfl (.inl rfl))
        (pss_one (ps_for PassesOwn.never rfl (pi_tup (pe_slice sl_tupU (pv 2) po_none (po_some (pv 8)))) (pg_name (i := 6) sc_l_crowd.nd rfl (.inl rfl))
          (pss_cons (ps_set (i := 9) sc_l_crowd.nd rfl (.inl rfl) (pe_tup (pa_cons (pe_ix ix_list (pv 4) (pe_ix ix_tup (pv 2) (pv 8) (fun _ _ => rfl)) (fun _ _ => rfl)) (pa_cons (pe_ix ix_list (pv 4) (pv 6) (fun _ _ => rfl)) pa_nil))))
          (pss_one (ps_if (PW.pt (pw_or (pt_cmpR op_eq (pe_ix ix_tup (pv 9) pe_int (fun _ _ => rfl)) (pe_ix ix_tup (pv 9) pe_int (fun _ _ => rfl)) (nomark _)) (pw_or1 (PW.pt (pw_and (pt_cmpR  (op_notInD (room65 hr)) (pv 9) (pv 5) rfl) (pw_and1 (pt_cmpR  (op_notInD (room65 hr)) (pe_revT (pv 9)) (pv 5) rfl)))))))
            (pss_one (ps_ret pe_bl))
            pss_nil))))))
      (pss_one (ps_ret pe_bl))))))), ?_⟩
    obtain ⟨wa, wb, us, rfl, hwa, hwb, hp⟩ := id hW
    have lu : us.length = ts.length := Paired.length hp
    have few := ok.few
    have qf : ¬ CrQ k n ts o → ∀ H', Same H H' → Q (.bl false) H' := fun z H' s => by
      have := q H' s
      rw [crQ_f z] at this
      exact this
    cases o with
    | none =>
      obtain ⟨kc, tc⟩ := hc
      obtain ⟨t1, h1, e1⟩ := kn_tup (K := K) kc
      refine ⟨c, rfl, c, _, t1, _, _, rfl, .ty "tuple", h1, e1, _, rfl, ?_⟩
      rw [tc]
      exact qf id H (Same.refl _)
    | some vs =>
    obtain ⟨pa, rfl, hpa, at', lv⟩ := hc
    obtain ⟨t1, h1, e1⟩ := kn_tup (K := K) (H := H) (v := .ref pa) (.inr (.inl ⟨vs, hpa⟩))
    have e1' : isT H (.ref pa) = true := by
      unfold isT
      simp only [hpa]
    rw [e1'] at e1
    refine ⟨.ref pa, rfl, .ref pa, _, t1, _, _, rfl, .ty "tuple", h1, e1, _, rfl, ?_⟩
    refine ⟨.ref pa, rfl, pa, rfl, ⟨_, SqT.of hpa⟩, fun Z nZ => ?_⟩
    refine lc_it (walk_tup (xs := vs)) (fun i H' => H' Z = some (.lst ((vs.take i).filter fun x => !plB n x)) ∧ Same H H') ⟨upd_same, same_new nZ⟩ (fun i H' _ h => SqT.of (h.2 _ _ hpa)) ?_ ?_
    · rintro i x H1 H2 hi ⟨hZ, s1⟩ ⟨rfl, ex⟩
      have etk : vs.take (i + 1) = vs.take i ++ [x] := take_snoc ex
      refine ⟨rfl, .ref wa, rfl, x, rfl, .ref wa, x, n, ts, rfl, hW.tk (Same.tk s1), Kn.same65 s1 (at' x (List.mem_of_getElem? ex)), _, rfl, ?_⟩
      rw [etk, List.filter_append]
      cases px : plB n x with
      | true =>
        rw [show List.filter (fun x => !plB n x) [x] = [] from List.filter_cons_of_neg (by rw [px]; decide), List.append_nil]
        exact ⟨hZ, s1⟩
      | false =>
        rw [show List.filter (fun x => !plB n x) [x] = [x] from List.filter_cons_of_pos (by rw [px]; rfl)]
        have lf := List.length_filter_le (fun x => !plB n x) (vs.take i)
        rw [List.length_take] at lf
        exact ⟨x, rfl, _, hZ, small1000 (by omega), upd_same, Same.mut s1 nZ⟩
    · rintro H1 ⟨hZ, s1⟩
      rw [List.take_length] at hZ
      refine ⟨by show 0 ≤ sizeLine; decide, fun p0 np0 => ?_⟩
      have s0 := same_new (o := .lst []) np0
      have s10 := s1.trans s0
      refine ⟨Z, p0, _, rfl, rfl, SqL.of (s0 _ _ hZ), SqL.of upd_same, _, rfl, ?_⟩
      by_cases em : (vs.filter fun x => !plB n x) = []
      rotate_left
      · rw [show (vs.filter fun x => !plB n x).isEmpty = false from by cases e : (vs.filter fun x => !plB n x) <;> simp_all]
        refine qf (fun ⟨xs, e, cw⟩ => ?_) _ s10
        obtain ⟨x, hx⟩ := List.exists_mem_of_ne_nil _ em
        obtain ⟨h1, h2⟩ := List.mem_filter.mp hx
        rw [e] at h1
        obtain ⟨z, hz, rfl⟩ := List.mem_map.mp h1
        have := cw.rg z hz
        have e2 : plB n (.int z) = (decide (0 ≤ z) && decide (z < (n : Int))) := rfl
        rw [e2, decide_eq_true this.1, decide_eq_true this.2] at h2
        cases h2
      rw [show (vs.filter fun x => !plB n x).isEmpty = true from by rw [em]; rfl]
      have hall : ∀ x ∈ vs, plB n x = true := fun x hx => by
        cases px : plB n x with
        | true => rfl
        | false =>
          have : x ∈ (vs.filter fun x => !plB n x) := List.mem_filter.mpr ⟨hx, by rw [px]; rfl⟩
          rw [em] at this
          cases this
      obtain ⟨xs, rfl, rg⟩ : ∃ xs : List Int, vs = xs.map V.int ∧ ∀ x ∈ xs, 0 ≤ x ∧ x < (n : Int) := by
        clear em hZ hpa e1' e1 h1 at' lv qf q
        induction vs with
        | nil => exact ⟨[], rfl, fun x hx => by cases hx⟩
        | cons v vs ih =>
          obtain ⟨z, rfl, z0, z1⟩ := plB_int (hall v (by simp))
          obtain ⟨xs, rfl, h⟩ := ih fun x hx => hall x (List.mem_cons_of_mem _ hx)
          exact ⟨z :: xs, rfl, fun x hx => by
            rcases List.mem_cons.mp hx with e | e
            · rw [e]; exact ⟨z0, z1⟩
            · exact h x e⟩
      rw [List.length_map] at lv
      generalize upd H1 p0 (.lst []) = H2 at s0 s10
      have hpa2 := s10 _ _ hpa
      refine ⟨.ref pa, rfl, pa, _, rfl, .inr (SqT.of hpa2), .int k, rfl, k, 1, rfl, rfl, rfl, _, rfl, ?_⟩
      rw [List.length_map]
      by_cases lk : (xs.length : Int) = k + 1
      rotate_left
      · rw [show decide (V.int ((xs.length : Nat) : Int) = V.int (k + 1)) = false from decide_eq_false (fun z => lk (by injection z))]
        exact qf (fun ⟨ys, e, cw⟩ => lk (by
          have := congrArg List.length e
          rw [List.length_map, List.length_map] at this
          have := cw.len
          omega)) _ s10
      rw [show decide (V.int ((xs.length : Nat) : Int) = V.int (k + 1)) = true from decide_eq_true (by rw [lk])]
      refine ⟨.ref pa, rfl, pa, _, rfl, .inr (SqT.of hpa2), fun La nLa => ?_⟩
      have sL := same_new (o := .lst (xs.map V.int)) nLa
      refine ⟨.ref pa, rfl, pa, xs, rfl, SqT.of (sL _ _ hpa2), by omega, fun ks Lb rk mk nLb => ?_⟩
      have sb := same_new (o := .lst (ks.map V.int)) nLb
      have hLa : (upd (upd H2 La (.lst (xs.map V.int))) Lb (.lst (ks.map V.int))) La = some (.lst (xs.map V.int)) := sb _ _ upd_same
      refine ⟨listD xs, listD ks, .lst (SqL.of hLa) (dp_ints _), .lst (SqL.of upd_same) (dp_ints _), shaped_listD _, shaped_listD _, _, rfl, ?_⟩
      rw [eqv_listD]
      have s3 := s10.trans (sL.trans sb)
      generalize upd (upd H2 La (.lst (xs.map V.int))) Lb (.lst (ks.map V.int)) = H3 at s3
      by_cases ek : xs = ks
      rotate_left
      · rw [decide_eq_false ek]
        exact qf (fun ⟨ys, e, cw⟩ => ek (by
          have e : xs = ys := map_int_inj e
          subst e
          exact rising_ext cw.rise rk fun z => (mk z).symm)) _ s3
      rw [decide_eq_true ek]
      subst ek
      clear mk sL sb hLa
      refine ⟨.ref wa, rfl, by show 1 ≤ sizeLine; decide, fun e ne => ?_⟩
      have se := same_new (o := .tup [.str "friend"]) ne
      refine ⟨.ref wa, e, n, ts, false, rfl, hW.tk (Same.tk (s3.trans se)), ok, upd_same, fun L g H4 s4 hL lab _ => ?_⟩
      rw [kin_frs] at lab
      have s04 := (s3.trans se).trans s4
      clear se ne
      refine ⟨.ref wa, rfl, wa, _, 1, .ref wb, rfl, rfl, SqT.of (s04 _ _ hwa), rfl, wb, rfl, ⟨_, SqT.of (s04 _ _ hwb)⟩, fun Z nZ => ?_⟩
      refine lc_it (walk_tup (xs := us)) (fun i H' => PrL H' Z (((ts.take i).filter (·.foe)).map fun t => (g t.one, g t.other)) ∧ Same H4 H') ⟨⟨[], upd_same, .nil⟩, same_new nZ⟩ (fun i H' _ h => SqT.of ((s04.trans h.2) _ _ hwb)) ?_ ?_
      · rintro i x1 H5 H6 hi ⟨hZ, s5⟩ ⟨rfl, ex⟩
        obtain ⟨t, et, c, rfl, hc⟩ := Paired.at hp ex
        have okt := ok.ok t (List.mem_of_getElem? et)
        have hc3 := (s04.trans s5) _ _ hc
        have etk : ts.take (i + 1) = ts.take i ++ [t] := take_snoc et
        have ek : decide (V.str (kindS t.foe) = V.str "foe") = t.foe := by cases t.foe <;> decide +kernel
        refine ⟨c, _, rfl, SqT.of hc3, rfl, _, _, rfl, _, _, rfl, _, _, rfl, rfl, rfl, _, rfl, rfl, _, rfl, ?_⟩
        rw [ek, etk, List.filter_append, List.map_append]
        cases hf : t.foe with
        | false =>
          rw [show List.filter (fun t : Tie => t.foe) [t] = [] from List.filter_cons_of_neg (by rw [hf]; decide)]
          rw [List.map_nil, List.append_nil]
          exact ⟨hZ, s5⟩
        | true =>
          rw [show List.filter (fun t : Tie => t.foe) [t] = [t] from List.filter_cons_of_pos hf]
          have hL6 := s5 _ _ hL
          refine ⟨.ref L, rfl, .int t.one, rfl, L, _, t.one, _, rfl, rfl, SqL.of hL6, lf_at g okt.1 okt.2.1, .ref L, rfl, .int t.other, rfl, L, _, t.other, _, rfl, rfl, SqL.of hL6, lf_at g okt.2.2.1 okt.2.2.2.1, by show 2 ≤ sizeLine; decide, fun r nr => ?_⟩
          have sr := same_new (o := .tup [.int (g t.one), .int (g t.other)]) nr
          obtain ⟨bs, hb1, hb2⟩ := id hZ
          have lb := Paired.length hb2
          have lf := List.length_filter_le (fun t : Tie => t.foe) (ts.take i)
          rw [List.length_take] at lf
          rw [List.length_map] at lb
          refine ⟨_, sr _ _ hb1, by rw [List.length_map]; exact small1000 (by omega), hZ.snoc sr (p := (g t.one, g t.other)) upd_same (b := r) fun cs hcs => ?_, Same.mut (s5.trans sr) nZ⟩
          rw [sr _ _ hb1] at hcs
          injection hcs with hcs
          injection hcs with hcs
          rw [hcs, List.map_append]
          rfl
      · rintro H5 ⟨hZ, s5⟩
        rw [lu, List.take_length] at hZ
        have s05 := s04.trans s5
        have hL5 := s5 _ _ hL
        have hpa5 := s05 _ _ hpa
        have inP : ∀ u v : Int, (u, v) ∈ ((ts.filter (·.foe)).map fun t => (g t.one, g t.other)) ↔ ∃ t ∈ ts, t.foe = true ∧ g t.one = u ∧ g t.other = v := fun u v => by
          rw [List.mem_map]
          constructor
          · rintro ⟨t, ht, e⟩
            obtain ⟨h1, h2⟩ := List.mem_filter.mp ht
            injection e with e1 e2
            exact ⟨t, h1, h2, e1, e2⟩
          · rintro ⟨t, h1, h2, e1, e2⟩
            exact ⟨t, List.mem_filter.mpr ⟨h1, h2⟩, by rw [e1, e2]⟩
        have metP : ∀ p q : Int, (0 ≤ p ∧ p < (n : Int)) → (0 ≤ q ∧ q < (n : Int)) → (((g p, g q) ∈ ((ts.filter (·.foe)).map fun t => (g t.one, g t.other)) ∨ (g q, g p) ∈ ((ts.filter (·.foe)).map fun t => (g t.one, g t.other))) ↔ Met ts p q) := fun p q hp hq => by
          rw [inP, inP]
          constructor
          · rintro (⟨t, h1, h2, e1, e2⟩ | ⟨t, h1, h2, e1, e2⟩)
            · have o := ok.ok t h1
              exact ⟨t, h1, h2, .inl ⟨(lab.iff hp ⟨o.1, o.2.1⟩).mp e1.symm, (lab.iff hq ⟨o.2.2.1, o.2.2.2.1⟩).mp e2.symm⟩⟩
            · have o := ok.ok t h1
              exact ⟨t, h1, h2, .inr ⟨(lab.iff hq ⟨o.1, o.2.1⟩).mp e1.symm, (lab.iff hp ⟨o.2.2.1, o.2.2.2.1⟩).mp e2.symm⟩⟩
          · rintro ⟨t, h1, h2, ⟨e1, e2⟩ | ⟨e1, e2⟩⟩
            · have o := ok.ok t h1
              exact .inl ⟨t, h1, h2, ((lab.iff hp ⟨o.1, o.2.1⟩).mpr e1).symm, ((lab.iff hq ⟨o.2.2.1, o.2.2.2.1⟩).mpr e2).symm⟩
            · have o := ok.ok t h1
              exact .inr ⟨t, h1, h2, ((lab.iff hq ⟨o.1, o.2.1⟩).mpr e1).symm, ((lab.iff hp ⟨o.2.2.1, o.2.2.2.1⟩).mpr e2).symm⟩
        refine ⟨.ref pa, rfl, pa, _, rfl, .inr (SqT.of hpa5), _, rfl, by omega, by rw [List.length_map]; omega, ?_⟩
        rw [Int.toNat_natCast, List.length_map]
        refine for_range (lo := 0) (n := xs.length) (fun i σ' H' => ∃ (y6 y8 y9 : Option V), σ' = [some (.ref wa), some (.int k), some (.ref pa), none, some (.ref L), some (.ref Z), y6, none, y8, y9] ∧ (∀ (a b : Nat) (p q : Int), b < i → a < b → xs[a]? = some p → xs[b]? = some q → ¬ FR ts p q ∧ Met ts p q) ∧ Same H5 H') ⟨_, _, _, rfl, fun a b p q z => (by omega), Same.refl _⟩ ?_ ?_
        · rintro i σ' H6 hi ⟨y6, y8, y9, rfl, seen, s6⟩
          rw [show (0 : Int) + (i : Nat) = i from by omega]
          obtain ⟨p, ep⟩ : ∃ p, xs[i]? = some p := ⟨_, List.getElem?_eq_getElem hi⟩
          have hp' := rg p (List.mem_of_getElem? ep)
          refine ⟨.ref pa, rfl, .int i, rfl, i, rfl, pa, _, rfl, s6 _ _ hpa5, fun r H7 s7 hr7 => ?_⟩
          rw [cut_take (by rw [List.length_map]; omega), ← List.map_take] at hr7
          refine ⟨r, rfl, ⟨_, SqT.of hr7⟩, ?_⟩
          refine for_tup (xs := (xs.take i).map V.int) (fun j σ' H' => ∃ (y6 y9 : Option V), σ' = [some (.ref wa), some (.int k), some (.ref pa), none, some (.ref L), some (.ref Z), y6, none, some (.int i), y9] ∧ (∀ (a : Nat) (q : Int), a < j → xs[a]? = some q → ¬ FR ts q p ∧ Met ts q p) ∧ Same H7 H') ⟨_, _, rfl, fun a q z => (by omega), Same.refl _⟩ (fun j σ' H' _ h => by
            obtain ⟨_, _, _, _, s⟩ := h
            exact SqT.of (s _ _ hr7)) ?_ ?_
          · rintro j x σ' H8 ex ⟨y6, y9, rfl, seen2, s8⟩
            rw [List.getElem?_map] at ex
            obtain ⟨q, eq', rfl⟩ := Option.map_eq_some_iff.mp ex
            rw [List.getElem?_take] at eq'
            split at eq'
            rotate_left
            · cases eq'
            rename_i hji
            have hq' := rg q (List.mem_of_getElem? eq')
            have s58 := (s6.trans s7).trans s8
            have hL8 := s58 _ _ hL5
            refine ⟨.ref L, rfl, .ref pa, rfl, .int i, rfl, pa, _, i, .int p, rfl, rfl, SqT.of (s58 _ _ hpa5), atI_of (by omega) (by rw [List.getElem?_map, show ((i : Int)).toNat = i from by omega, ep]; rfl), L, _, p, _, rfl, rfl, SqL.of hL8, lf_at g hp'.1 hp'.2, .ref L, rfl, .int q, rfl, L, _, q, _, rfl, rfl, SqL.of hL8, lf_at g hq'.1 hq'.2, by show 2 ≤ sizeLine; decide, fun h0 nh => ?_⟩
            have sh := same_new (o := .tup [.int (g p), .int (g q)]) nh
            have hh0 := upd_same (H := H8) (a := h0) (o := .tup [.int (g p), .int (g q)])
            generalize upd H8 h0 (.tup [.int (g p), .int (g q)]) = H9 at sh hh0
            have s59 := s58.trans sh
            have no : ¬ (¬ FR ts q p ∧ Met ts q p) → ∀ H', Same H H' → Q (.bl false) H' := fun bad => qf fun ⟨ys, e, cw⟩ => bad (by
              have e := map_int_inj e
              subst e
              obtain ⟨l1, e1⟩ := List.getElem?_eq_some_iff.mp eq'
              obtain ⟨l2, e2⟩ := List.getElem?_eq_some_iff.mp ep
              have := List.pairwise_iff_getElem.mp cw.met j i l1 l2 hji
              rw [e1, e2] at this
              exact this)
            refine ⟨.ref h0, rfl, h0, _, 0, .int (g p), rfl, rfl, SqT.of hh0, rfl, .ref h0, rfl, h0, _, 1, .int (g q), rfl, rfl, SqT.of hh0, rfl, rfl, _, rfl, ?_⟩
            by_cases gpq : g p = g q
            · rw [show decide (V.int (g p) = V.int (g q)) = true from decide_eq_true (by rw [gpq])]
              exact no (fun z => z.1 ((lab.iff hq' hp').mp gpq.symm)) _ (s05.trans s59)
            · rw [show decide (V.int (g p) = V.int (g q)) = false from decide_eq_false (fun z => gpq (by injection z))]
              have nfr : ¬ FR ts q p := fun z => gpq ((lab.iff hq' hp').mpr z).symm
              obtain ⟨ds, d1, d2, d3⟩ := (hZ.same s59).dp (K := K)
              refine ⟨.ref h0, rfl, .ref Z, rfl, intsD [g p, g q], ds, .tup (SqT.of hh0) (dp_ints [g p, g q]), d1, shaped_intsD _, d2, _, rfl, ?_⟩
              rw [d3]
              have mP := metP p q hp' hq'
              have go : Met ts q p → ∀ H', Same H7 H' → ∃ (z6 z9 : Option V), [some (.ref wa), some (.int k), some (.ref pa), none, some (.ref L), some (.ref Z), some (.int q), none, some (.int i), some (.ref h0)] = [some (.ref wa), some (.int k), some (.ref pa), none, some (.ref L), some (.ref Z), z6, none, some (.int i), z9] ∧ (∀ (a : Nat) (q : Int), a < j + 1 → xs[a]? = some q → ¬ FR ts q p ∧ Met ts q p) ∧ Same H7 H' := fun m H' s => ⟨_, _, rfl, fun a u ha hu => by
                by_cases e : a = j
                · subst e
                  rw [eq'] at hu
                  cases hu
                  exact ⟨nfr, m⟩
                · exact seen2 a u (by omega) hu, s⟩
              by_cases m1 : (g p, g q) ∈ ((ts.filter (·.foe)).map fun t => (g t.one, g t.other))
              · rw [decide_eq_true m1]
                exact go ((mP.mp (.inl m1)).symm) _ (s8.trans sh)
              · rw [decide_eq_false m1]
                refine ⟨.ref h0, rfl, h0, _, rfl, SqT.of hh0, fun h9 nh9 => ?_⟩
                have s9 := same_new (o := .tup [V.int (g p), V.int (g q)].reverse) nh9
                obtain ⟨ds2, c1, c2, c3⟩ := (hZ.same (s59.trans s9)).dp (K := K)
                refine ⟨.ref Z, rfl, intsD [g q, g p], ds2, .tup (SqT.of upd_same) (dp_ints [g q, g p]), c1, shaped_intsD _, c2, _, rfl, ?_⟩
                rw [c3]
                by_cases m2 : (g q, g p) ∈ ((ts.filter (·.foe)).map fun t => (g t.one, g t.other))
                · rw [decide_eq_true m2]
                  exact go ((mP.mp (.inr m2)).symm) _ ((s8.trans sh).trans s9)
                · rw [decide_eq_false m2]
                  exact no (fun z => (mP.mpr z.2.symm).elim m1 m2) _ ((s05.trans s59).trans s9)
          · rintro σ' H8 ⟨y6, y9, rfl, seen2, s8⟩
            refine ⟨_, _, _, rfl, fun a b p1 q1 hb hab h1 h2 => ?_, (s6.trans s7).trans s8⟩
            by_cases e : b = i
            · subst e
              rw [ep] at h2
              cases h2
              exact seen2 a p1 (by rw [List.length_map, List.length_take]; omega) h1
            · exact seen a b p1 q1 (by omega) hab h1 h2
        · rintro σ' H6 ⟨y6, y8, y9, rfl, seen, s6⟩
          have := q H6 (s05.trans s6)
          have cw : Crw k n ts xs := ⟨rk, rg, lk, List.pairwise_iff_getElem.mpr fun a b la lb' hab => seen a b _ _ lb' hab (List.getElem?_eq_getElem la) (List.getElem?_eq_getElem lb')⟩
          have ct : CrQ k n ts (some (xs.map V.int)) := ⟨xs, rfl, cw⟩
          rw [crQ_t ct] at this
          exact this
end
/-! ### t == () -/
def rEqTE (K : PySem.W.Frag) : R2 := fun x y H Q => ∃ (a b : Addr) (xs : List V), x = .ref a ∧ y = .ref b ∧ SqT K H a xs ∧ SqT K H b [] ∧ Q (.bl xs.isEmpty) H
theorem op_eqTE {X : Cx} (hu : X.A.units < cLine) : OpR X (compareOp .Eq) (rEqTE X.K) := by
  intro pins s σ H x y v u Q I rx ry h
  obtain ⟨a, b, xs, rfl, rfl, ha, hb, q⟩ := h
  obtain rfl : v = Value.ref a := rx
  obtain rfl : u = Value.ref b := ry
  obtain ⟨its, r1, p1, _⟩ := I.tuple ha
  obtain ⟨its2, r2, p2, _⟩ := I.tuple hb
  cases r2
  refine SeqAt.eq_tupleAt (e := fun _ => true) p1 p2 hu (fun j _ h2 => absurd h2 (by simp)) ?_
  have e : ((List.range (min its.toArray.size ([] : List Value).toArray.size)).all (fun _ => true) && its.toArray.size == ([] : List Value).toArray.size) = xs.isEmpty := by
    have hl := r1.length
    cases xs with
    | nil =>
      have : its = [] := List.length_eq_zero_iff.mp (by rw [← hl]; rfl)
      rw [this]
      rfl
    | cons z zs =>
      cases its with
      | nil => simp at hl
      | cons w ws => simp
  exact ⟨.bl xs.isEmpty, H, I, by rw [e]; rfl, q⟩
/-! ### a thing of any kind against a text -/
section
open PySem.SeqAt PySem.MeetsSeq
open PySem.AutoSeq1 (wpAny_loadPart')
variable {A : PySem.Around} {s : Shared}
theorem str_eq_declines_dictP (b : Str) (u : Tok) (l : Addr) (o : Obj) : Meets (Builtin.«str.__eq__» ⟨[.str b u, .ref l], []⟩) (fun _ R s => s.heap.get? l = some o ∧ o.cls = .type "dict" ∧ (∃ es ep, o.data = .dict es ep) ∧ R (.ok (.ret .notImplemented)) s) :=
  .of_wp fun prog w A R s h => by
    obtain ⟨hp, g, d, tk, os⟩ := s
    obtain ⟨hl, hc, ⟨es, ep, hd⟩, h⟩ := h
    obtain ⟨cls, dd, data, sl⟩ := o
    simp only at hc hd
    subst hc hd
    wp_walk using wpAny_loadPart' hl, wpAny_load hl
    exact ⟨_, rfl, h⟩
theorem dict_eq_declines_strP (l : Addr) (o : Obj) (b : Str) (u : Tok) : Meets (Builtin.«dict.__eq__» ⟨[.ref l, .str b u], []⟩) (fun _ R s => s.heap.get? l = some o ∧ o.cls = .type "dict" ∧ (∃ es ep, o.data = .dict es ep) ∧ R (.ok (.ret .notImplemented)) s) :=
  .of_wp fun prog w A R s h => by
    obtain ⟨hp, g, d, tk, os⟩ := s
    obtain ⟨hl, hc, ⟨es, ep, hd⟩, h⟩ := h
    obtain ⟨cls, dd, data, sl⟩ := o
    simp only at hc hd
    subst hc hd
    have f1 := F.sub_str_dict
    wp_walk using wpAny_loadPart' hl
    exact ⟨_, rfl, h⟩
theorem rc_dict_str {l : Addr} {o : Obj} {es : Array DictEntry} {ep : Nat} (b : Str) (u : Tok) (ho : s.heap.get? l = some o) (hc : o.cls = .type "dict") (hd : o.data = .dict es ep) (hu : A.units < cLine) : RcAt A s (.ref l) (.str b u) false := fun prog w E Q h => by
  exact rc_eq_decline_or (k := false) ⟨_, ho, hc⟩ (typeIs_str s b u) (by decide) F.sub_str_dict F.slot_dict_eq F.slot_str_eq_refl
    (fun _ hq => call_meets F.slot_dict_eq ⟨_, ho, hc⟩ F.entry_dict_eq (F.args_dict_eq_2 _ _) (dict_eq_declines_strP l o b u) ⟨ho, hc, ⟨_, _, hd⟩, hq⟩)
    (fun _ hq => call_meets F.slot_str_eq_refl (typeIs_str s b u) F.entry_str_eq (F.args_str_eq_2 _ _) (str_eq_declines_dictP b u l o) ⟨ho, hc, ⟨_, _, hd⟩, hq⟩)
    (fun _ hq => wpAny_of_eq (rfl : isSame (.ref l) (.str b u) = pure false) hq) (.inr hu) h
end
def rEqAS : R2 := fun x y H Q => ∃ b, y = .str b ∧ Kn H x ∧ Q (.bl (decide (x = .str b))) H
theorem op_eqAS {X : Cx} (hu : X.A.units < cLine) : OpR X (compareOp .Eq) rEqAS := by
  intro pins s σ H x y v u Q I rx ry want
  obtain ⟨b, rfl, hk, q⟩ := want
  obtain ⟨k, rfl⟩ := ry
  cases x with
  | non =>
    cases rx
    exact SeqAt.RcAt.none_str b k _ _ _ _ ⟨.bl false, H, I, rfl, q⟩
  | bl a =>
    cases rx
    exact SeqAt.RcAt.bool_str a b k _ _ _ _ ⟨.bl false, H, I, rfl, q⟩
  | int a =>
    obtain ⟨t, rfl⟩ := rx
    exact SeqAt.RcAt.int_str a t b k _ _ _ _ ⟨.bl false, H, I, rfl, q⟩
  | str a =>
    obtain ⟨t, rfl⟩ := rx
    refine SeqAt.RcAt.str_str a t b k _ _ _ _ ⟨.bl (a == b), H, I, rfl, ?_⟩
    have e : decide (V.str a = V.str b) = (a == b) := by
      rw [Bool.eq_iff_iff, decide_eq_true_iff, beq_iff_eq]
      exact ⟨fun h => V.str.inj h, fun h => by rw [h]⟩
    rw [← e]
    exact q
  | ref a =>
    obtain rfl : v = Value.ref a := rx
    have q : Q (.bl false) H := q
    rcases hk with ⟨xs, h⟩ | ⟨xs, h⟩ | ⟨xs, h⟩
    · obtain ⟨its, r1, p1, _⟩ := I.list (.inl (.inl h))
      exact SeqAt.RcAt.list_str b k p1.isList hu _ _ _ _ ⟨.bl false, H, I, rfl, q⟩
    · obtain ⟨its, rv, tup, _⟩ := I.tuple (.inl (.inl h))
      exact SeqAt.RcAt.tuple_str b k tup hu _ _ _ _ ⟨.bl false, H, I, rfl, q⟩
    · obtain ⟨hz, hne, vs, kv, o2, es, ep, ho2, ed, hd2, ko, pr, nd⟩ := I.hok a _ h
      exact rc_dict_str b k ho2 ed.1 hd2 hu _ _ _ _ ⟨.bl false, H, I, rfl, q⟩
  | _ => exact hk.elim
/-! ### papers of any kind -/
inductive QT
  | bad
  | crowd (o : Option (List V))
  | clash (a b : V)
  | case (a b : V) (t u : QT)
def BadV (H : Hp) (v : V) : Prop := (Kn H v ∧ isT H v = false) ∨ ∃ a xs, v = .ref a ∧ H a = some (.tup xs) ∧ (xs = [] ∨ ∃ (w : V) (rest : List V), xs = w :: rest ∧ Kn H w ∧ ¬ (w = .str "crowd" ∧ rest.length = 1) ∧ ¬ (w = .str "clash" ∧ rest.length = 2) ∧ ¬ (w = .str "case" ∧ rest.length = 4))
def QTV (H : Hp) : V → QT → Prop
  | v, .bad => BadV H v
  | v, .crowd o => ∃ a c, v = .ref a ∧ H a = some (.tup [.str "crowd", c]) ∧ CrV H c o
  | v, .clash a b => ∃ c, v = .ref c ∧ H c = some (.tup [.str "clash", a, b]) ∧ Kn H a ∧ Kn H b
  | v, .case a b t u => ∃ c x y, v = .ref c ∧ H c = some (.tup [.str "case", a, b, x, y]) ∧ Kn H a ∧ Kn H b ∧ QTV H x t ∧ QTV H y u
def QOk (k : Int) (n : Nat) : List Tie → QT → Prop
  | _, .bad => False
  | ts, .crowd o => CrQ k n ts o
  | ts, .clash a b => ClQ n ts a b
  | ts, .case a b t u => ∃ x y : Int, a = .int x ∧ b = .int y ∧ (Pl2 n x y ∧ x ≠ y) ∧ QOk k n (ts ++ [frT x y]) t ∧ QOk k n (ts ++ [foT x y]) u
def QT.dep : QT → Nat
  | .case _ _ t u => 1 + max t.dep u.dep
  | _ => 0
def QT.size : QT → Nat
  | .case _ _ t u => 1 + t.size + u.size
  | _ => 1
theorem isT_same {H H' : Hp} (s : Same H H') {v : V} (h : Kn H v) : isT H' v = isT H v := by
  cases v with
  | ref a =>
    unfold isT
    rcases h with ⟨xs, h⟩ | ⟨xs, h⟩ | ⟨xs, h⟩
    · simp only [h, s _ _ h]
    · simp only [h, s _ _ h]
    · simp only [h, s _ _ h]
  | _ => rfl
theorem CrV.same {H H' : Hp} (s : Same H H') {c : V} : ∀ {o : Option (List V)}, CrV H c o → CrV H' c o
  | none, ⟨h1, h2⟩ => ⟨h1.same65 s, by rw [isT_same s h1]; exact h2⟩
  | some _, ⟨a, e, h1, h2, h3⟩ => ⟨a, e, s _ _ h1, fun x hx => (h2 x hx).same65 s, h3⟩
theorem BadV.same {H H' : Hp} (s : Same H H') {v : V} (h : BadV H v) : BadV H' v := by
  rcases h with ⟨h1, h2⟩ | ⟨a, xs, e, h1, h2⟩
  · exact .inl ⟨h1.same65 s, by rw [isT_same s h1]; exact h2⟩
  · refine .inr ⟨a, xs, e, s _ _ h1, h2.imp id ?_⟩
    rintro ⟨w, rest, e, k, n⟩
    exact ⟨w, rest, e, k.same65 s, n⟩
theorem QTV.same {H H' : Hp} (s : Same H H') : ∀ {t : QT} {v : V}, QTV H v t → QTV H' v t
  | .bad, v, h => BadV.same s h
  | .crowd o, v, ⟨a, c, e, h1, h2⟩ => ⟨a, c, e, s _ _ h1, h2.same s⟩
  | .clash a b, v, ⟨c, e, h, h1, h2⟩ => ⟨c, e, s _ _ h, h1.same65 s, h2.same65 s⟩
  | .case a b t u, v, ⟨c, x, y, e, h, ha, hb, h1, h2⟩ => ⟨c, x, y, e, s _ _ h, ha.same65 s, hb.same65 s, QTV.same s h1, QTV.same s h2⟩
open Classical in
noncomputable def qOk (k : Int) (n : Nat) (ts : List Tie) (t : QT) : Bool := decide (QOk k n ts t)
open Classical in
theorem qOk_t {k : Int} {n : Nat} {ts : List Tie} {t : QT} (h : QOk k n ts t) : qOk k n ts t = true := by
  unfold qOk
  exact decide_eq_true h
open Classical in
theorem qOk_f {k : Int} {n : Nat} {ts : List Tie} {t : QT} (h : ¬ QOk k n ts t) : qOk k n ts t = false := by
  unfold qOk
  exact decide_eq_false h
def NT.q : NT → QT
  | .crowd xs => .crowd (some (xs.map V.int))
  | .clash a b => .clash (.int a) (.int b)
  | .case a b t u => .case (.int a) (.int b) t.q u.q
theorem NT.q_dep : ∀ t : NT, t.q.dep = t.dep
  | .crowd _ => rfl
  | .clash _ _ => rfl
  | .case _ _ t u => by
    show 1 + max t.q.dep u.q.dep = 1 + max t.dep u.dep
    rw [NT.q_dep t, NT.q_dep u]
theorem NoneOk.q {k : Int} {n : Nat} : ∀ {t : NT} {ts : List Tie}, NoneOk k n ts t → QOk k n ts t.q
  | .crowd xs, ts, h => ⟨xs, rfl, h⟩
  | .clash a b, ts, h => ⟨a, b, rfl, rfl, h⟩
  | .case a b t u, ts, ⟨h1, h2, h3⟩ => ⟨a, b, rfl, rfl, h1, NoneOk.q h2, NoneOk.q h3⟩
theorem NTV.q {H : Hp} {k : Int} {n : Nat} (n40 : n ≤ 40) : ∀ {t : NT} {v : V} {ts : List Tie}, NTV H v t → NoneOk k n ts t → QTV H v t.q
  | .crowd xs, v, ts, ⟨a, c, e, h1, h2⟩, o => ⟨a, .ref c, e, h1, c, rfl, h2, fun x hx => by
      obtain ⟨z, _, rfl⟩ := List.mem_map.mp hx
      trivial, by
      have := sub_len65 (ks := xs) (ns := rng n) (rise_nd o.rise) fun x hx => mem_rng.mpr (o.rg x hx)
      rw [rng_length] at this
      rw [List.length_map]
      omega⟩
  | .clash a b, v, ts, ⟨c, e, h⟩, o => ⟨c, e, h, trivial, trivial⟩
  | .case a b t u, v, ts, ⟨c, x, y, e, h, h1, h2⟩, ⟨_, o1, o2⟩ => ⟨c, x, y, e, h, trivial, trivial, NTV.q n40 h1 o1, NTV.q n40 h2 o2⟩
/-- what waits in the work list: a web and a paper -/
def WaitP (H0 H : Hp) (n : Nat) (r : Addr) (p : List Tie × QT) : Prop := ∃ wv pv, H r = some (.tup [wv, pv]) ∧ WebAt H wv n p.1 ∧ QTV H0 pv p.2
theorem WaitP.tk {H0 H H' : Hp} {n : Nat} {r : Addr} {p : List Tie × QT} (k : Tk H H') (h : WaitP H0 H n r p) : WaitP H0 H' n r p := by
  obtain ⟨wv, pv, h1, h2, h3⟩ := h
  exact ⟨wv, pv, k _ _ h1, h2.tk k, h3⟩
structure Wts (n : Nat) (D : Nat) (Ws : List (List Tie × QT)) : Prop where
  dep : ∀ i p, Ws[i]? = some p → i + p.2.dep ≤ D ∧ p.1.length + p.2.dep ≤ 300
  ok : ∀ p ∈ Ws, ∀ t ∈ p.1, TieOk n t
theorem Wts.less {n D : Nat} {Ws : List (List Tie × QT)} {p : List Tie × QT} (h : Wts n D (Ws ++ [p])) : Wts n D Ws :=
  ⟨fun i q e => h.dep i q (by rw [List.getElem?_append_left (List.getElem?_eq_some_iff.mp e).1]; exact e), fun q hq => h.ok q (List.mem_append_left _ hq)⟩
theorem Wts.last {n D : Nat} {Ws : List (List Tie × QT)} {p : List Tie × QT} (h : Wts n D (Ws ++ [p])) : Ws.length + p.2.dep ≤ D ∧ p.1.length + p.2.dep ≤ 300 :=
  h.dep Ws.length p (by rw [List.getElem?_append_right (Nat.le_refl _), Nat.sub_self]; rfl)
theorem Wts.more {n D : Nat} {Ws : List (List Tie × QT)} {ts : List Tie} {x y : Int} {a b : V} {t u : QT} (h : Wts n D (Ws ++ [(ts, .case a b t u)])) (pl : Pl2 n x y ∧ x ≠ y) : Wts n D (Ws ++ [(ts ++ [frT x y], t)] ++ [(ts ++ [foT x y], u)]) := by
  have l := h.last
  have l : Ws.length + (1 + max t.dep u.dep) ≤ D ∧ ts.length + (1 + max t.dep u.dep) ≤ 300 := l
  have m1 : t.dep ≤ max t.dep u.dep := Nat.le_max_left _ _
  have m2 : u.dep ≤ max t.dep u.dep := Nat.le_max_right _ _
  have okx : ∀ f : Bool, TieOk n ⟨x, y, f⟩ := fun f => ⟨pl.1.1.1, pl.1.1.2, pl.1.2.1, pl.1.2.2, pl.2⟩
  refine ⟨fun i p e => ?_, fun p hp z hz => ?_⟩
  · rcases Nat.lt_trichotomy i (Ws.length + 1) with c | c | c
    · rw [List.getElem?_append_left (by rw [List.length_append]; exact c)] at e
      by_cases c2 : i < Ws.length
      · rw [List.getElem?_append_left c2] at e
        exact h.less.dep i p e
      · have e3 : i = Ws.length := by omega
        subst e3
        rw [List.getElem?_append_right (Nat.le_refl _), Nat.sub_self] at e
        cases e
        show Ws.length + t.dep ≤ D ∧ (ts ++ [frT x y]).length + t.dep ≤ 300
        rw [List.length_append, List.length_singleton]
        omega
    · subst c
      rw [List.getElem?_append_right (by rw [List.length_append]; exact Nat.le_refl _), show Ws.length + 1 - (Ws ++ [(ts ++ [frT x y], t)]).length = 0 from by rw [List.length_append, List.length_singleton]; omega] at e
      cases e
      show Ws.length + 1 + u.dep ≤ D ∧ (ts ++ [foT x y]).length + u.dep ≤ 300
      rw [List.length_append, List.length_singleton]
      omega
    · have := (List.getElem?_eq_some_iff.mp e).1
      rw [List.length_append, List.length_append, List.length_singleton, List.length_singleton] at this
      omega
  · have hts : ∀ t ∈ ts, TieOk n t := h.ok (ts, .case a b t u) (by simp)
    rcases List.mem_append.mp hp with hp | hp
    · rcases List.mem_append.mp hp with hp | hp
      · exact h.less.ok p hp z hz
      · rw [List.mem_singleton.mp hp] at hz
        rcases List.mem_append.mp hz with e | e
        · exact hts z e
        · rw [List.mem_singleton.mp e]
          exact okx false
    · rw [List.mem_singleton.mp hp] at hz
      rcases List.mem_append.mp hz with e | e
      · exact hts z e
      · rw [List.mem_singleton.mp e]
        exact okx true
def szW (Ws : List (List Tie × QT)) : Nat := (Ws.map fun p => p.2.size).sum
theorem szW_snoc (Ws : List (List Tie × QT)) (p : List Tie × QT) : szW (Ws ++ [p]) = szW Ws + p.2.size := by
  unfold szW
  rw [List.map_append, List.sum_append]
  simp
theorem QT.size_pos : ∀ t : QT, 0 < t.size
  | .bad => Nat.one_pos
  | .crowd _ => Nat.one_pos
  | .clash _ _ => Nat.one_pos
  | .case _ _ t u => by
    show 0 < 1 + t.size + u.size
    omega
def AllOk (k : Int) (n : Nat) (Ws : List (List Tie × QT)) : Prop := ∀ p ∈ Ws, QOk k n p.1 p.2
theorem allOk_snoc {k : Int} {n : Nat} {Ws : List (List Tie × QT)} {p : List Tie × QT} : AllOk k n (Ws ++ [p]) ↔ AllOk k n Ws ∧ QOk k n p.1 p.2 := by
  constructor
  · intro h
    exact ⟨fun q hq => h q (List.mem_append_left _ hq), h p (by simp)⟩
  · rintro ⟨h1, h2⟩ q hq
    rcases List.mem_append.mp hq with z | z
    · exact h1 q z
    · rw [List.mem_singleton.mp z]; exact h2
open Classical in
theorem crQ_o {k : Int} {n : Nat} {ts : List Tie} {o : Option (List V)} (h : crQ k n ts o = true) : QOk k n ts (.crowd o) := by
  unfold crQ at h
  exact of_decide_eq_true h
open Classical in
theorem clQ_o {n : Nat} {ts : List Tie} {a b : V} {k : Int} (h : clQ n ts a b = true) : QOk k n ts (.clash a b) := by
  unfold clQ at h
  exact of_decide_eq_true h
section
variable {P : Program} {w : World} {K : PySem.W.Frag} {mg : Str → Option Value} {base : Heap}
def spLNone : Sp := fun vs H Q _ => ∃ (v : V) (k : Int) (x : V) (n : Nat) (ts : List Tie) (t : QT), vs = [v, .int k, x] ∧ WebAt H v n ts ∧ (1 ≤ n ∧ n ≤ 40) ∧ (∀ t ∈ ts, TieOk n t) ∧ QTV H x t ∧ ts.length + t.dep ≤ 300 ∧ ∀ H', Same H H' → Q (.bl (qOk k n ts t)) H'
set_option maxHeartbeats 4000000 in
theorem ok_l_none {f : Addr} {fd : FuncData} (F : Fun K "_law_none" "_law_none" s_l_none f fd) (M : Free mg) (D_l_crowd : Df P w K mg base 2 "_law_crowd" ["_law_web", "_law_k", "_law_places"] spLCrowd) (D_l_clash : Df P w K mg base 2 "_law_clash" ["_law_web", "_law_one", "_law_other"] spLClash) (D_l_is_place : Df P w K mg base 1 "_law_is_place" ["_law_web", "_law_thing"] spIsPl) : FnOk P w K mg base CX0 3 f fd ["_law_web", "_law_k", "_law_thing"] spLNone := by
  obtain ⟨f_l_crowd, fd_l_crowd, G_l_crowd, g_l_crowd, k_l_crowd, b_l_crowd⟩ := D_l_crowd
  obtain ⟨f_l_clash, fd_l_clash, G_l_clash, g_l_clash, k_l_clash, b_l_clash⟩ := D_l_clash
  obtain ⟨f_l_is_place, fd_l_is_place, G_l_is_place, g_l_is_place, k_l_is_place, b_l_is_place⟩ := D_l_is_place
  refine F.ok sc_l_none (fun vs H Q E h => ?_) (fun cdv A outer s H vs Q E hr h => ?_)
  · obtain ⟨v, k, x, n, ts, t, rfl, _⟩ := h
    rfl
  · obtain ⟨v, k, x, n, ts, t, rfl, hW, n40, okt, hT, hd, q⟩ := h
    refine ⟨_, (pss_cons (ps_set (i := 3) sc_l_none.nd rfl (.inl rfl) (pe_lst (pa_cons (pe_tup (pa_cons (pv 0) (pa_cons (pv 2) pa_nil))) pa_nil)))
      (pss_cons (ps_while PassesOwn.never (pt_cmpR (op_neE hr.units0) (pv 3) (pe_lst pa_nil) (nomark _))
        (pss_cons (ps_asg (pe_bm0 PySem.F.plainAttrs_list PySem.F.slot_list_pop PySem.F.type_list_pop mt_pop (pv 3)) (pg_tup rfl (pgs_cons (pg_name (i := 4) sc_l_none.nd rfl (.inl rfl)) (pgs_cons (pg_name (i := 5) sc_l_none.nd rfl (.inl rfl)) pgs_nil))))
        (pss_cons (ps_if (PW.pt (pw_or (pt_not (pt_val (pe_callB call_isi (by rfl) M.isinstance (by decide +kernel) (pa_cons (pv 5) (pa_cons (pe_bltn (v := .ty "tuple") (by rfl) M.tuple (by decide +kernel) rfl) pa_nil))))) (pw_or1 (pt_cmpR  (op_eqTE hr.units0) (pv 5) (pe_tup pa_nil) (nomark _)))))
          (pss_one (ps_ret pe_bl))
          pss_nil)
        (pss_one (ps_if (PW.pt (pw_and (pt_cmpR (op_eqAS hr.units0) (pe_ix ix_tup (pv 5) pe_int (fun _ _ => rfl)) pe_str (nomark _)) (pw_and1 (pt_cmpR op_eq (pe_callB call_len_seq (by rfl) M.len PySem.boot_len (pa_cons (pv 5) pa_nil)) pe_int (nomark _)))))
          (pss_one (ps_if (pt_not (pt_val (pe_call G_l_crowd (hr.mono (by decide)) (by rfl) g_l_crowd k_l_crowd b_l_crowd .nil pass0 (pa_cons (pv 4) (pa_cons (pv 1) (pa_cons (pe_ix ix_tup (pv 5) pe_int (fun _ _ => rfl)) pa_nil))))))
            (pss_one (ps_ret pe_bl))
            pss_nil))
          (pss_one (ps_if (PW.pt (pw_and (pt_cmpR (op_eqAS hr.units0) (pe_ix ix_tup (pv 5) pe_int (fun _ _ => rfl)) pe_str (nomark _)) (pw_and1 (pt_cmpR op_eq (pe_callB call_len_seq (by rfl) M.len PySem.boot_len (pa_cons (pv 5) pa_nil)) pe_int (nomark _)))))
            (pss_one (ps_if (pt_not (pt_val (pe_call G_l_clash (hr.mono (by decide)) (by rfl) g_l_clash k_l_clash b_l_clash .nil pass0 (pa_cons (pv 4) (pa_cons (pe_ix ix_tup (pv 5) pe_int (fun _ _ => rfl)) (pa_cons (pe_ix ix_tup (pv 5) pe_int (fun _ _ => rfl)) pa_nil))))))
              (pss_one (ps_ret pe_bl))
              pss_nil))
            (pss_one (ps_if (PW.pt (pw_and (pt_cmpR (op_eqAS hr.units0) (pe_ix ix_tup (pv 5) pe_int (fun _ _ => rfl)) pe_str (nomark _)) (pw_and1 (pt_cmpR op_eq (pe_callB call_len_seq (by rfl) M.len PySem.boot_len (pa_cons (pv 5) pa_nil)) pe_int (nomark _)))))
              (pss_cons (ps_asg (pe_slice sl_tupU (pv 5) (po_some pe_int) (po_some pe_int)) (pg_tup rfl (pgs_cons (pg_name (i := 6) sc_l_none.nd rfl (.inl rfl)) (pgs_cons (pg_name (i := 7) sc_l_none.nd rfl (.inl rfl)) pgs_nil))))
              (pss_cons (ps_if (PW.pt (pw_or (pt_not (pt_val (pe_call G_l_is_place (hr.mono (by decide)) (by rfl) g_l_is_place k_l_is_place b_l_is_place .nil pass0 (pa_cons (pv 0) (pa_cons (pv 6) pa_nil))))) (pw_or (pt_not (pt_val (pe_call G_l_is_place (hr.mono (by decide)) (by rfl) g_l_is_place k_l_is_place b_l_is_place .nil pass0 (pa_cons (pv 0) (pa_cons (pv 7) pa_nil))))) (pw_or1 (pt_cmpR op_eq (pv 6) (pv 7) (nomark _))))))
                (pss_one (ps_ret pe_bl))
                pss_nil)
              (pss_cons (ps_expr (pe_bm PySem.F.plainAttrs_list PySem.F.slot_list_append PySem.F.type_list_append mt_append (pv 3) (pa_cons (pe_tup (pa_cons (pe_tup (pa_cons (pe_ix ix_tup (pv 0) pe_int (fun _ _ => rfl)) (pa_cons (pe_op op_catU (pe_ix ix_tup (pv 4) pe_int (fun _ _ => rfl)) (pe_tup (pa_cons (pe_tup (pa_cons (pv 6) (pa_cons (pv 7) (pa_cons pe_str pa_nil)))) pa_nil))) pa_nil))) (pa_cons (pe_ix ix_tup (pv 5) pe_int (fun _ _ => rfl)) pa_nil))) pa_nil)))
              (pss_one (ps_expr (pe_bm PySem.F.plainAttrs_list PySem.F.slot_list_append PySem.F.type_list_append mt_append (pv 3) (pa_cons (pe_tup (pa_cons (pe_tup (pa_cons (pe_ix ix_tup (pv 0) pe_int (fun _ _ => rfl)) (pa_cons (pe_op op_catU (pe_ix ix_tup (pv 4) pe_int (fun _ _ => rfl)) (pe_tup (pa_cons (pe_tup (pa_cons (pv 6) (pa_cons (pv 7) (pa_cons pe_str pa_nil)))) pa_nil))) pa_nil))) (pa_cons (pe_ix ix_tup (pv 5) pe_int (fun _ _ => rfl)) pa_nil))) pa_nil)))))))
              (pss_one (ps_ret pe_bl)))))))))))
      (pss_one (ps_ret pe_bl)))), ?_⟩
    obtain ⟨wa, wb, us, rfl, hwa, hwb, hp⟩ := id hW
    have dt : t.dep ≤ 300 := by omega
    have qf : ¬ QOk k n ts t → ∀ H', Same H H' → Q (.bl false) H' := fun z H' s => by
      have := q H' s
      rw [qOk_f z] at this
      exact this
    refine ⟨.ref wa, rfl, x, rfl, by show 2 ≤ sizeLine; decide, fun R0 nR0 => ?_⟩
    have s0 := same_new (o := .tup [.ref wa, x]) nR0
    refine ⟨by show 1 ≤ sizeLine; decide, fun L nL => ?_⟩
    have sL := same_new (o := .lst [.ref R0]) nL
    have s1 := s0.trans sL
    have nLH : H L = none := s0.free nL
    have hR0 : (upd (upd H R0 (.tup [.ref wa, x])) L (.lst [.ref R0])) R0 = some (.tup [.ref wa, x]) := sL _ _ upd_same
    have hL0 : (upd (upd H R0 (.tup [.ref wa, x])) L (.lst [.ref R0])) L = some (.lst [.ref R0]) := upd_same
    generalize upd (upd H R0 (.tup [.ref wa, x])) L (.lst [.ref R0]) = H1 at s1 hR0 hL0
    refine ⟨fun m σ' H' => ∃ (y4 y5 y6 y7 : Option V) (Ws : List (List Tie × QT)) (rs : List Addr), σ' = [some (.ref wa), some (.int k), some x, some (.ref L), y4, y5, y6, y7] ∧ H' L = some (.lst (rs.map V.ref)) ∧ Paired (WaitP H H' n) rs Ws ∧ Wts n 300 Ws ∧ (AllOk k n Ws ↔ QOk k n ts t) ∧ m = szW Ws ∧ Same H H', ⟨_, none, none, none, none, [(ts, t)], [R0], rfl, hL0, .cons ⟨.ref wa, x, hR0, hW.tk (Same.tk s1), hT⟩ .nil, ⟨fun i p e => ?_, fun p hp => ?_⟩, ⟨fun h => h (ts, t) (by simp), fun h p hp => ?_⟩, rfl, s1⟩, ?_⟩
    · cases i with
      | zero =>
        cases e
        exact ⟨by show 0 + t.dep ≤ 300; omega, hd⟩
      | succ i => cases e
    · rw [List.mem_singleton.mp hp]
      exact okt
    · rw [List.mem_singleton.mp hp]
      exact h
    rintro m σ' H2 ⟨y4, y5, y6, y7, Ws, rs, rfl, hL, hWs, wts, iff, rfl, s2⟩
    refine ⟨.ref L, rfl, Nat.zero_le _, fun Z nZ => ⟨L, Z, _, rfl, rfl, SqL.of (same_new nZ _ _ hL), SqL.of upd_same, _, rfl, ?_⟩⟩
    have sZ := same_new (o := .lst []) nZ
    have hL3 := sZ _ _ hL
    have hWs3 := Paired.mono (fun r p h => WaitP.tk (Same.tk sZ) h) hWs
    have s3 := s2.trans sZ
    generalize upd H2 Z (.lst []) = H3 at sZ hL3 hWs3 s3
    clear hL hWs s2 sZ
    by_cases en : Ws = []
    · subst en
      cases hWs3
      exact (q _ s3 : Q _ _) |> fun h => by
        rw [qOk_t (iff.mp fun p hp => by cases hp)] at h
        exact h
    obtain ⟨Ws0, ⟨us', t'⟩, rfl⟩ : ∃ W0 p, Ws = W0 ++ [p] := ⟨Ws.dropLast, Ws.getLast en, (List.dropLast_concat_getLast en).symm⟩
    obtain ⟨rs0, r, rfl, hWs0, wv, pv, hr3, hwv, hpv⟩ := Paired.unsnoc hWs3
    have lrs := Paired.length hWs0
    have wl := wts.last
    have wl : Ws0.length + t'.dep ≤ 300 ∧ us'.length + t'.dep ≤ 300 := wl
    have okus : ∀ t ∈ us', TieOk n t := wts.ok (us', t') (by simp)
    have weL : WebL n us' := ⟨by omega, by omega, by omega, okus⟩
    rw [show ((rs0 ++ [r]).map V.ref).isEmpty = false from by simp]
    have qf' : ¬ QOk k n us' t' → ∀ H', Same H H' → Q (.bl false) H' := fun z => qf fun y => z (allOk_snoc.mp (iff.mpr y)).2
    refine ⟨_, fun σ' H' h => h, ?_⟩
    refine ⟨.ref L, rfl, .inl ⟨rfl, _, SqL.of hL3⟩, L, _, .ref r, rfl, rfl, hL3, by rw [List.map_append, List.length_append]; show (rs0.map V.ref ++ [V.ref r])[(rs0.map V.ref).length + 1 - 1]? = _; rw [Nat.add_sub_cancel, List.getElem?_append_right (Nat.le_refl _), Nat.sub_self]; rfl, ?_⟩
    rw [show ((rs0 ++ [r]).map V.ref).dropLast = rs0.map V.ref from by rw [List.map_append]; exact List.dropLast_concat]
    have tL := tk_lst (ys := rs0.map V.ref) hL3
    have hr4 := tL _ _ hr3
    have hwv4 := hwv.tk tL
    have hWs4 := Paired.mono (fun r p h => WaitP.tk tL h) hWs0
    have s4 : Same H (upd H3 L (.lst (rs0.map V.ref))) := Same.mut s3 nLH
    have hL4 := upd_same (H := H3) (a := L) (o := .lst (rs0.map V.ref))
    generalize upd H3 L (.lst (rs0.map V.ref)) = H4 at hr4 hwv4 hWs4 s4 hL4
    clear tL hL3 hr3 hwv hWs3 hWs0 s3
    refine ⟨r, _, rfl, SqT.of hr4, rfl, _, _, rfl, _, _, rfl, rfl, ?_⟩
    have go : QOk k n us' t' → t'.size = 1 → ∀ (v4 v5 v6 v7 : Option V) (H' : Hp), Same H4 H' → ∃ m', m' < szW (Ws0 ++ [(us', t')]) ∧ ∃ (y4 y5 y6 y7 : Option V) (Ws : List (List Tie × QT)) (rs : List Addr), [some (.ref wa), some (.int k), some x, some (.ref L), v4, v5, v6, v7] = [some (.ref wa), some (.int k), some x, some (.ref L), y4, y5, y6, y7] ∧ H' L = some (.lst (rs.map V.ref)) ∧ Paired (WaitP H H' n) rs Ws ∧ Wts n 300 Ws ∧ (AllOk k n Ws ↔ QOk k n ts t) ∧ m' = szW Ws ∧ Same H H' := fun o sz v4 v5 v6 v7 H' s => ⟨szW Ws0, by rw [szW_snoc, sz]; omega, _, _, _, _, Ws0, rs0, rfl, s _ _ hL4, Paired.mono (fun r p h => WaitP.tk (Same.tk s) h) hWs4, wts.less, ⟨fun h => iff.mp (allOk_snoc.mpr ⟨h, o⟩), fun h => (allOk_snoc.mp (iff.mpr h)).1⟩, rfl, s4.trans s⟩
    obtain ⟨wa', wb', us2, rfl, hwa', hwb', hp'⟩ := id hwv4
    cases t' with
    | bad =>
      have hb : BadV H4 pv := BadV.same s4 hpv
      rcases hb with ⟨kb, tb⟩ | ⟨pa, xs, rfl, hpa, hx⟩
      · obtain ⟨t1, h1, e1⟩ := kn_tup (K := K) kb
        refine ⟨pv, rfl, pv, _, t1, _, _, rfl, .ty "tuple", h1, e1, _, rfl, ?_⟩
        rw [tb]
        exact qf' id _ s4
      · obtain ⟨t1, h1, e1⟩ := kn_tup (K := K) (H := H4) (v := .ref pa) (.inr (.inl ⟨xs, hpa⟩))
        rw [show isT H4 (.ref pa) = true from by unfold isT; simp only [hpa]] at e1
        refine ⟨.ref pa, rfl, .ref pa, _, t1, _, _, rfl, .ty "tuple", h1, e1, _, rfl, ?_⟩
        refine ⟨.ref pa, rfl, by show 0 ≤ sizeLine; decide, fun z nz => ⟨pa, z, xs, rfl, rfl, SqT.of (same_new nz _ _ hpa), SqT.of upd_same, _, rfl, ?_⟩⟩
        have sz := same_new (o := .tup []) nz
        have s5 := s4.trans sz
        have hpa5 := sz _ _ hpa
        generalize upd H4 z (.tup []) = H5 at sz s5 hpa5
        rcases hx with rfl | ⟨w', rest, rfl, kw, n1, n2, n3⟩
        · exact qf' id _ s5
        · have ne : ∀ {a : Str}, w' ≠ V.str a → decide (w' = V.str a) = false := fun e => decide_eq_false e
          have ln : ∀ {m : Nat}, rest.length ≠ m → decide (V.int (((w' :: rest).length : Nat) : Int) = V.int ((m + 1 : Nat) : Int)) = false := fun {m} e => decide_eq_false (fun z => e (by
            injection z with z
            rw [List.length_cons] at z
            omega))
          refine ⟨.ref pa, rfl, pa, _, 0, w', rfl, rfl, SqT.of hpa5, atI_of (by decide) rfl, _, rfl, Kn.same65 sz kw, _, rfl, ?_⟩
          by_cases w1 : w' = V.str "crowd"
          · have l1 : rest.length ≠ 1 := fun z => n1 ⟨w1, z⟩
            subst w1
            rw [show decide (V.str "crowd" = V.str "crowd") = true from decide_eq_true rfl]
            refine ⟨.ref pa, rfl, pa, _, rfl, .inr (SqT.of hpa5), rfl, _, rfl, ?_⟩
            rw [show decide (V.int (((V.str "crowd" :: rest).length : Nat) : Int) = V.int 2) = false from ln l1]
            refine ⟨.ref pa, rfl, pa, _, 0, .str "crowd", rfl, rfl, SqT.of hpa5, atI_of (by decide) rfl, _, rfl, trivial, _, rfl, ?_⟩
            rw [show decide (V.str "crowd" = V.str "clash") = false from by decide +kernel]
            refine ⟨.ref pa, rfl, pa, _, 0, .str "crowd", rfl, rfl, SqT.of hpa5, atI_of (by decide) rfl, _, rfl, trivial, _, rfl, ?_⟩
            rw [show decide (V.str "crowd" = V.str "case") = false from by decide +kernel]
            exact qf' id _ s5
          rw [show decide (w' = V.str "crowd") = false from ne w1]
          refine ⟨.ref pa, rfl, pa, _, 0, w', rfl, rfl, SqT.of hpa5, atI_of (by decide) rfl, _, rfl, Kn.same65 sz kw, _, rfl, ?_⟩
          by_cases w2 : w' = V.str "clash"
          · have l1 : rest.length ≠ 2 := fun z => n2 ⟨w2, z⟩
            subst w2
            rw [show decide (V.str "clash" = V.str "clash") = true from decide_eq_true rfl]
            refine ⟨.ref pa, rfl, pa, _, rfl, .inr (SqT.of hpa5), rfl, _, rfl, ?_⟩
            rw [show decide (V.int (((V.str "clash" :: rest).length : Nat) : Int) = V.int 3) = false from ln l1]
            refine ⟨.ref pa, rfl, pa, _, 0, .str "clash", rfl, rfl, SqT.of hpa5, atI_of (by decide) rfl, _, rfl, trivial, _, rfl, ?_⟩
            rw [show decide (V.str "clash" = V.str "case") = false from by decide +kernel]
            exact qf' id _ s5
          rw [show decide (w' = V.str "clash") = false from ne w2]
          refine ⟨.ref pa, rfl, pa, _, 0, w', rfl, rfl, SqT.of hpa5, atI_of (by decide) rfl, _, rfl, Kn.same65 sz kw, _, rfl, ?_⟩
          by_cases w3 : w' = V.str "case"
          · have l1 : rest.length ≠ 4 := fun z => n3 ⟨w3, z⟩
            subst w3
            rw [show decide (V.str "case" = V.str "case") = true from decide_eq_true rfl]
            refine ⟨.ref pa, rfl, pa, _, rfl, .inr (SqT.of hpa5), rfl, _, rfl, ?_⟩
            rw [show decide (V.int (((V.str "case" :: rest).length : Nat) : Int) = V.int 5) = false from ln l1]
            exact qf' id _ s5
          rw [show decide (w' = V.str "case") = false from ne w3]
          exact qf' id _ s5
    | crowd o =>
      obtain ⟨pa, c, rfl, hpa, hc⟩ := QTV.same s4 hpv
      obtain ⟨t1, h1, e1⟩ := kn_tup (K := K) (H := H4) (v := .ref pa) (.inr (.inl ⟨_, hpa⟩))
      rw [show isT H4 (.ref pa) = true from by unfold isT; simp only [hpa]] at e1
      refine ⟨.ref pa, rfl, .ref pa, _, t1, _, _, rfl, .ty "tuple", h1, e1, _, rfl, ?_⟩
      refine ⟨.ref pa, rfl, by show 0 ≤ sizeLine; decide, fun z nz => ⟨pa, z, _, rfl, rfl, SqT.of (same_new nz _ _ hpa), SqT.of upd_same, _, rfl, ?_⟩⟩
      have sz := same_new (o := .tup []) nz
      have hpa5 := sz _ _ hpa
      have hwv5 := hwv4.tk (Same.tk sz)
      generalize upd H4 z (.tup []) = H5 at sz hpa5 hwv5
      refine ⟨.ref pa, rfl, pa, _, 0, .str "crowd", rfl, rfl, SqT.of hpa5, rfl, _, rfl, trivial, _, rfl, ?_⟩
      rw [show decide (V.str "crowd" = V.str "crowd") = true from decide_eq_true rfl]
      refine ⟨.ref pa, rfl, pa, _, rfl, .inr (SqT.of hpa5), rfl, _, rfl, ?_⟩
      rw [show decide (V.int (([V.str "crowd", c].length : Nat) : Int) = V.int 2) = true from decide_eq_true rfl]
      refine ⟨.ref wa', rfl, .int k, rfl, .ref pa, rfl, pa, _, 1, c, rfl, rfl, SqT.of hpa5, rfl, .ref wa', k, c, n, us', o, rfl, hwv5, weL, hc.same sz, fun H6 s6 => ⟨_, rfl, ?_⟩⟩
      cases hq : crQ k n us' o with
      | true =>
        exact go (crQ_o hq) rfl _ _ _ _ _ (sz.trans s6)
      | false =>
        refine qf' (fun h => ?_) _ ((s4.trans sz).trans s6)
        rw [crQ_t h] at hq
        cases hq
    | clash a b =>
      obtain ⟨pa, rfl, hpa, ha, hb⟩ := QTV.same s4 hpv
      obtain ⟨t1, h1, e1⟩ := kn_tup (K := K) (H := H4) (v := .ref pa) (.inr (.inl ⟨_, hpa⟩))
      rw [show isT H4 (.ref pa) = true from by unfold isT; simp only [hpa]] at e1
      refine ⟨.ref pa, rfl, .ref pa, _, t1, _, _, rfl, .ty "tuple", h1, e1, _, rfl, ?_⟩
      refine ⟨.ref pa, rfl, by show 0 ≤ sizeLine; decide, fun z nz => ⟨pa, z, _, rfl, rfl, SqT.of (same_new nz _ _ hpa), SqT.of upd_same, _, rfl, ?_⟩⟩
      have sz := same_new (o := .tup []) nz
      have hpa5 := sz _ _ hpa
      have hwv5 := hwv4.tk (Same.tk sz)
      generalize upd H4 z (.tup []) = H5 at sz hpa5 hwv5
      refine ⟨.ref pa, rfl, pa, _, 0, .str "clash", rfl, rfl, SqT.of hpa5, rfl, _, rfl, trivial, _, rfl, ?_⟩
      rw [show decide (V.str "clash" = V.str "crowd") = false from by decide +kernel]
      refine ⟨.ref pa, rfl, pa, _, 0, .str "clash", rfl, rfl, SqT.of hpa5, rfl, _, rfl, trivial, _, rfl, ?_⟩
      rw [show decide (V.str "clash" = V.str "clash") = true from decide_eq_true rfl]
      refine ⟨.ref pa, rfl, pa, _, rfl, .inr (SqT.of hpa5), rfl, _, rfl, ?_⟩
      rw [show decide (V.int (([V.str "clash", a, b].length : Nat) : Int) = V.int 3) = true from decide_eq_true rfl]
      refine ⟨.ref wa', rfl, .ref pa, rfl, pa, _, 1, a, rfl, rfl, SqT.of hpa5, rfl, .ref pa, rfl, pa, _, 2, b, rfl, rfl, SqT.of hpa5, rfl, .ref wa', a, b, n, us', rfl, hwv5, weL, ha.same65 sz, hb.same65 sz, fun H6 s6 => ⟨_, rfl, ?_⟩⟩
      cases hq : clQ n us' a b with
      | true =>
        exact go (clQ_o hq) rfl _ _ _ _ _ (sz.trans s6)
      | false =>
        refine qf' (fun h => ?_) _ ((s4.trans sz).trans s6)
        rw [clQ_t h] at hq
        cases hq
    | case a b t0 u0 =>
      obtain ⟨pa, x3, x4, rfl, hpaH, ha, hb, ht0, hu0⟩ := (show QTV H pv (.case a b t0 u0) from hpv)
      have hpa := s4 _ _ hpaH
      obtain ⟨t1, h1, e1⟩ := kn_tup (K := K) (H := H4) (v := .ref pa) (.inr (.inl ⟨_, hpa⟩))
      rw [show isT H4 (.ref pa) = true from by unfold isT; simp only [hpa]] at e1
      refine ⟨.ref pa, rfl, .ref pa, _, t1, _, _, rfl, .ty "tuple", h1, e1, _, rfl, ?_⟩
      refine ⟨.ref pa, rfl, by show 0 ≤ sizeLine; decide, fun z nz => ⟨pa, z, _, rfl, rfl, SqT.of (same_new nz _ _ hpa), SqT.of upd_same, _, rfl, ?_⟩⟩
      have sz := same_new (o := .tup []) nz
      have hpa5 := sz _ _ hpa
      have hwv5 := hwv4.tk (Same.tk sz)
      generalize upd H4 z (.tup []) = H5 at sz hpa5 hwv5
      refine ⟨.ref pa, rfl, pa, _, 0, .str "case", rfl, rfl, SqT.of hpa5, rfl, _, rfl, trivial, _, rfl, ?_⟩
      rw [show decide (V.str "case" = V.str "crowd") = false from by decide +kernel]
      refine ⟨.ref pa, rfl, pa, _, 0, .str "case", rfl, rfl, SqT.of hpa5, rfl, _, rfl, trivial, _, rfl, ?_⟩
      rw [show decide (V.str "case" = V.str "clash") = false from by decide +kernel]
      refine ⟨.ref pa, rfl, pa, _, 0, .str "case", rfl, rfl, SqT.of hpa5, rfl, _, rfl, trivial, _, rfl, ?_⟩
      rw [show decide (V.str "case" = V.str "case") = true from decide_eq_true rfl]
      refine ⟨.ref pa, rfl, pa, _, rfl, .inr (SqT.of hpa5), rfl, _, rfl, ?_⟩
      rw [show decide (V.int (([V.str "case", a, b, x3, x4].length : Nat) : Int) = V.int 5) = true from decide_eq_true rfl]
      refine ⟨.ref pa, rfl, 1, rfl, 3, rfl, pa, _, rfl, hpa5, fun r6 H6 s6 hr6 => ?_⟩
      have hr6 : H6 r6 = some (.tup [a, b]) := hr6
      refine ⟨r6, _, rfl, SqT.of hr6, rfl, _, _, rfl, _, _, rfl, rfl, ?_⟩
      have s46 := sz.trans s6
      have s06 := s4.trans s46
      have nQ : (∀ x y : Int, a = .int x → b = .int y → Pl2 n x y → x ≠ y → False) → ¬ QOk k n us' (.case a b t0 u0) := fun h ⟨x, y, e1, e2, h1, _⟩ => h x y e1 e2 h1.1 h1.2
      refine ⟨.ref wa, rfl, a, rfl, .ref wa, a, n, ts, rfl, hW.tk (Same.tk s06), ha.same65 s06, _, rfl, ?_⟩
      cases pA : plB n a with
      | false =>
        refine qf' (nQ fun x y e1 e2 h1 h2 => ?_) _ s06
        rw [e1] at pA
        have pA : (decide (0 ≤ x) && decide (x < (n : Int))) = false := pA
        rw [decide_eq_true h1.1.1, decide_eq_true h1.1.2] at pA
        cases pA
      | true =>
      refine ⟨.ref wa, rfl, b, rfl, .ref wa, b, n, ts, rfl, hW.tk (Same.tk s06), hb.same65 s06, _, rfl, ?_⟩
      cases pB : plB n b with
      | false =>
        refine qf' (nQ fun x y e1 e2 h1 h2 => ?_) _ s06
        rw [e2] at pB
        have pB : (decide (0 ≤ y) && decide (y < (n : Int))) = false := pB
        rw [decide_eq_true h1.2.1, decide_eq_true h1.2.2] at pB
        cases pB
      | true =>
      obtain ⟨x, rfl, x0, x1⟩ := plB_int pA
      obtain ⟨y, rfl, y0, y1⟩ := plB_int pB
      refine ⟨.int x, rfl, .int y, rfl, rfl, _, rfl, ?_⟩
      by_cases exy : x = y
      · rw [show decide (V.int x = V.int y) = true from decide_eq_true (by rw [exy])]
        exact qf' (nQ fun x' y' e1 e2 h1 h2 => h2 (by injection e1 with e1; injection e2 with e2; rw [← e1, ← e2, exy])) _ s06
      rw [show decide (V.int x = V.int y) = false from decide_eq_false (fun z => exy (by injection z))]
      have pl : Pl2 n x y ∧ x ≠ y := ⟨⟨⟨x0, x1⟩, ⟨y0, y1⟩⟩, exy⟩
      have luv := Paired.length hp'
      have luv : us2.length = us'.length := luv
      have hL6 := s46 _ _ hL4
      have hpa6 := s6 _ _ hpa5
      have hwa6 := s46 _ _ hwa'
      have hwb6 := s46 _ _ hwb'
      have hp6 := ties_tk (Same.tk s46) hp'
      have hWs6 := Paired.mono (fun r p h => WaitP.tk (Same.tk s46) h) hWs4
      have hwaH6 := s06 _ _ hwa
      clear hpa hwv5 sz hpa5 s6 hr6 hwv4 hwa' hwb' hp' hWs4 hL4 go s46 hr4
      -- the case that they are friends
      refine ⟨.ref L, rfl, .inl ⟨rfl, _, SqL.of hL6⟩, .ref wa, rfl, wa, _, 0, .int n, rfl, rfl, SqT.of hwaH6, rfl, .ref wa', rfl, wa', _, 1, .ref wb', rfl, rfl, SqT.of hwa6, rfl, .int x, rfl, .int y, rfl, by show 3 ≤ sizeLine; decide, fun T1 nT1 => ?_⟩
      refine ⟨by show 1 ≤ sizeLine; decide, fun T2 nT2 => ?_⟩
      have c1 := same_new (o := .tup [.int x, .int y, .str "friend"]) nT1
      have c2 := same_new (o := .tup [.ref T1]) nT2
      have hT1 := c2 _ _ (upd_same (H := H6) (a := T1) (o := .tup [.int x, .int y, .str "friend"]))
      refine ⟨wb', T2, us2, _, rfl, rfl, (c1.trans c2) _ _ hwb6, upd_same, by rw [luv]; show us'.length + 1 ≤ _; omega, fun r7 H7 s7 hr7 => ?_⟩
      refine ⟨by show 2 ≤ sizeLine; decide, fun W1 nW1 => ?_⟩
      have c3 := same_new (o := .tup [.int n, .ref r7]) nW1
      have c13 := ((c1.trans c2).trans s7).trans c3
      refine ⟨.ref pa, rfl, pa, _, 3, x3, rfl, rfl, SqT.of (c13 _ _ hpa6), rfl, by show 2 ≤ sizeLine; decide, fun R1 nR1 => ?_⟩
      have c4 := same_new (o := .tup [.ref W1, x3]) nR1
      have c14 := c13.trans c4
      have hwF : WebAt (upd (upd H7 W1 (.tup [.int n, .ref r7])) R1 (.tup [.ref W1, x3])) (.ref W1) n (us' ++ [frT x y]) := ⟨W1, r7, us2 ++ [.ref T1], rfl, c4 _ _ upd_same, (c3.trans c4) _ _ hr7, Paired.snoc65 (ties_tk (Same.tk c14) hp6) ⟨T1, rfl, ((s7.trans c3).trans c4) _ _ hT1⟩⟩
      have hR1 := upd_same (H := upd H7 W1 (.tup [.int n, .ref r7])) (a := R1) (o := .tup [.ref W1, x3])
      have hL7 := c14 _ _ hL6
      generalize upd (upd H7 W1 (.tup [.int n, .ref r7])) R1 (.tup [.ref W1, x3]) = H8 at c14 hwF hR1 hL7
      have hpa8 := c14 _ _ hpa6
      have hwa8 := c14 _ _ hwa6
      have hwb8 := c14 _ _ hwb6
      have hp8 := ties_tk (Same.tk c14) hp6
      have hWs8 := Paired.mono (fun r p h => WaitP.tk (Same.tk c14) h) hWs6
      have hwaH8 := c14 _ _ hwaH6
      have s08 := s06.trans c14
      clear c1 c2 c3 c4 c13 s7 hr7 nW1 nR1 nT1 nT2 hT1 hL6 hpa6 hwa6 hwb6 hp6 hWs6 hwaH6
      refine ⟨L, _, .ref R1, rfl, rfl, hL7, by rw [List.length_map]; exact small1000 (by omega), ?_⟩
      have tL := tk_lst (ys := rs0.map V.ref ++ [V.ref R1]) hL7
      have hL9 := upd_same (H := H8) (a := L) (o := .lst (rs0.map V.ref ++ [V.ref R1]))
      have s09 : Same H (upd H8 L (.lst (rs0.map V.ref ++ [V.ref R1]))) := Same.mut s08 nLH
      generalize upd H8 L (.lst (rs0.map V.ref ++ [V.ref R1])) = H9 at tL hL9 s09
      have hpa9 := tL _ _ hpa8
      have hwa9 := tL _ _ hwa8
      have hwb9 := tL _ _ hwb8
      have hp9 := ties_tk tL hp8
      have hwF9 := hwF.tk tL
      have hWs9 := Paired.mono (fun r p h => WaitP.tk tL h) hWs8
      have hwaH9 := tL _ _ hwaH8
      have hR19 := tL _ _ hR1
      clear tL hpa8 hwa8 hwb8 hp8 hwF hWs8 hwaH8 hR1 hL7 c14
      -- the case that they are foes
      refine ⟨.ref L, rfl, .inl ⟨rfl, _, SqL.of hL9⟩, .ref wa, rfl, wa, _, 0, .int n, rfl, rfl, SqT.of hwaH9, rfl, .ref wa', rfl, wa', _, 1, .ref wb', rfl, rfl, SqT.of hwa9, rfl, .int x, rfl, .int y, rfl, by show 3 ≤ sizeLine; decide, fun T1 nT1 => ?_⟩
      refine ⟨by show 1 ≤ sizeLine; decide, fun T2 nT2 => ?_⟩
      have c1 := same_new (o := .tup [.int x, .int y, .str "foe"]) nT1
      have c2 := same_new (o := .tup [.ref T1]) nT2
      have hT1 := c2 _ _ (upd_same (H := H9) (a := T1) (o := .tup [.int x, .int y, .str "foe"]))
      refine ⟨wb', T2, us2, _, rfl, rfl, (c1.trans c2) _ _ hwb9, upd_same, by rw [luv]; show us'.length + 1 ≤ _; omega, fun r7 H7 s7 hr7 => ?_⟩
      refine ⟨by show 2 ≤ sizeLine; decide, fun W2 nW1 => ?_⟩
      have c3 := same_new (o := .tup [.int n, .ref r7]) nW1
      have c13 := ((c1.trans c2).trans s7).trans c3
      refine ⟨.ref pa, rfl, pa, _, 4, x4, rfl, rfl, SqT.of (c13 _ _ hpa9), rfl, by show 2 ≤ sizeLine; decide, fun R2 nR1 => ?_⟩
      have c4 := same_new (o := .tup [.ref W2, x4]) nR1
      have c14 := c13.trans c4
      have hwG : WebAt (upd (upd H7 W2 (.tup [.int n, .ref r7])) R2 (.tup [.ref W2, x4])) (.ref W2) n (us' ++ [foT x y]) := ⟨W2, r7, us2 ++ [.ref T1], rfl, c4 _ _ upd_same, (c3.trans c4) _ _ hr7, Paired.snoc65 (ties_tk (Same.tk c14) hp9) ⟨T1, rfl, ((s7.trans c3).trans c4) _ _ hT1⟩⟩
      have hR2 := upd_same (H := upd H7 W2 (.tup [.int n, .ref r7])) (a := R2) (o := .tup [.ref W2, x4])
      have hL7 := c14 _ _ hL9
      generalize upd (upd H7 W2 (.tup [.int n, .ref r7])) R2 (.tup [.ref W2, x4]) = H8 at c14 hwG hR2 hL7
      refine ⟨L, _, .ref R2, rfl, rfl, hL7, by rw [List.length_append, List.length_map]; exact small1000 (by show rs0.length + 1 ≤ 1000; omega), ?_⟩
      have tL := tk_lst (ys := (rs0.map V.ref ++ [V.ref R1]) ++ [V.ref R2]) hL7
      have tt : Tk H9 _ := (Same.tk c14).trans tL
      refine ⟨szW (Ws0 ++ [(us' ++ [frT x y], t0)] ++ [(us' ++ [foT x y], u0)]), by rw [szW_snoc, szW_snoc, szW_snoc]; show szW Ws0 + t0.size + u0.size < szW Ws0 + (1 + t0.size + u0.size); omega, _, _, _, _, _, rs0 ++ [R1] ++ [R2], rfl, by rw [upd_same, List.map_append, List.map_append]; rfl, ?_, wts.more pl, ?_, rfl, Same.mut (s09.trans c14) nLH⟩
      · exact Paired.snoc65 (Paired.snoc65 (Paired.mono (fun r p h => WaitP.tk tt h) hWs9) ⟨.ref W1, x3, tt _ _ hR19, hwF9.tk tt, ht0⟩) ⟨.ref W2, x4, tL _ _ hR2, hwG.tk tL, hu0⟩
      · rw [← iff, allOk_snoc, allOk_snoc, allOk_snoc, and_assoc]
        refine and_congr Iff.rfl ⟨fun h => ⟨x, y, rfl, rfl, pl, h.1, h.2⟩, fun ⟨x', y', e1, e2, _, h1, h2⟩ => ?_⟩
        injection e1 with e1
        injection e2 with e2
        subst e1
        subst e2
        exact ⟨h1, h2⟩
end
/-! ### sorted(t), a tuple of fewer than 64 ints -/
def rSortT (K : PySem.W.Frag) : List V → Hp → VK → Prop := fun vs H Q => ∃ (a : Addr) (ns : List Int), vs = [V.ref a] ∧ SqT K H a (ns.map V.int) ∧ ns.length < 64 ∧
  ∀ (ys : List Int) (p : Addr), ys.Perm ns → ys.Pairwise (· ≤ ·) → H p = none → Q (.ref p) (upd H p (.lst (ys.map V.int)))
theorem cr_sortT {X : Cx} (hc : X.calm = true) : CallR X (.builtin "sorted") (rSortT X.K) := by
  intro pins s σ H vs us Q I rel want
  obtain ⟨a, ns, ex, hq, few, q⟩ := want
  subst ex
  obtain ⟨u, eu, rx⟩ := vals1 rel
  subst eu
  obtain rfl : u = Value.ref a := rx
  obtain ⟨its, rv, tup, small⟩ := I.tuple hq
  have len : its.length = ns.length := by rw [← rv.length, List.length_map]
  refine Calls.call_function_entry PyProof.Rows.kind_sorted PyProof.Rows.plain_sorted PyProof.Rows.entry_sorted (PyProof.Rows.args_sorted1 _) ?_
  unfold Builtin.«sorted»
  refine wpAny_bind (m := checkCount "sorted" 1 1 _) (wpAny_pure ?_)
  obtain ⟨o, ho, hcls, m, hd⟩ := tup
  refine wpAny_bind (wpAny_collect_seq a (.inr rfl) ho hcls hd (fun h' kp => ?_) (by rw [List.size_toArray, len, sizeLine_eq]; omega))
  have hS : IntsAre its.toArray.toList ns := by simpa using rv.ints
  have J : Inv X pins σ H { s with heap := h' } := I.kept (t' := s.toks) kp
  have hal : its.toArray.toList.length = ns.length := by simpa using len
  refine wpAny_bind (wpAny_newList ?_ (by rw [hal, sizeLine_eq]; omega))
  have new : (h'.push (seqObj "list" its.toArray.toList.toArray 0)).get? h'.objs.size = some (seqObj "list" its.toArray.toList.toArray 0) := Heap.get?_push_size _ rfl
  show wpAny _ _ _ _ _ { s with heap := h'.push (seqObj "list" its.toArray.toList.toArray 0) }
  refine wpAny_bind (wpAny_holding (wpAny_call_entry PyProof.Rows.slot_list_sort ⟨_, new, rfl⟩ PyProof.Rows.entry_list_sort
    (PyProof.Rows.list_sort_tree (s := { s with heap := h'.push (seqObj "list" its.toArray.toList.toArray 0) }) new hS (by rw [hal]; exact few) fun out ys o1 o2 o3 => ⟨_, rfl, ?_⟩) (PyProof.Rows.args_list_sort _)))
  obtain ⟨e', he'⟩ := PyProof.Rows.sortedHeap_at (vs := its.toArray.toList) (out := out) new
  have fits : (ys.map V.int).length ≤ sizeLine := by
    rw [List.length_map, o2.length_eq, sizeLine_eq]
    omega
  refine wpAny_pure ⟨_, rfl, .ref h'.objs.size, upd H h'.objs.size (.lst (ys.map V.int)), J.laid (t' := s.toks) (fun b u e => ?_) (Nat.le_refl _)
    (show ObjOk X.prog X.w _ _ _ (.lst (ys.map V.int)) from ⟨fits, out.toList, e', vals_of_ints o1, by rw [Array.toArray_toList]; exact he'⟩), rfl, q ys _ o2 o3 (J.hok.fresh (Nat.le_refl _))⟩
  have lb : b < h'.objs.size := Heap.lt_size e
  rw [PyProof.Rows.sortedHeap_old (Nat.ne_of_lt lb) (by rw [size_push']; exact Nat.lt_succ_of_lt lb)]
  exact Heap.get?_push_of_some _ e
/-! ### what is due: foes of heads as a dict of pairs, heads by parts -/
def kP (ps : List (Int × Int)) : List (List Key × V) := ps.map fun p => ([Sum.inl p.1, Sum.inl p.2], V.bl true)
def insP (ps : List (Int × Int)) (p : Int × Int) : List (Int × Int) := if p ∈ ps then ps else ps ++ [p]
theorem insP_mem {ps : List (Int × Int)} {p q : Int × Int} : q ∈ insP ps p ↔ q ∈ ps ∨ q = p := by
  unfold insP
  split
  · rename_i h
    exact ⟨.inl, fun z => z.elim id fun e => by rw [e]; exact h⟩
  · rw [List.mem_append, List.mem_singleton]
theorem insP_len {ps : List (Int × Int)} {p : Int × Int} : (insP ps p).length ≤ ps.length + 1 := by
  unfold insP
  split
  · omega
  · rw [List.length_append]
    exact Nat.le_refl _
theorem kP_len (ps : List (Int × Int)) : (kP ps).length = ps.length := List.length_map _
theorem kP_val {a b : Int} : ∀ {ps : List (Int × Int)}, valV (kP ps) [Sum.inl a, Sum.inl b] = if (a, b) ∈ ps then some (.bl true) else none
  | [] => by rw [if_neg (by simp)]; rfl
  | (c, d) :: ps => by
    show valV (([Sum.inl c, Sum.inl d], V.bl true) :: kP ps) [Sum.inl a, Sum.inl b] = _
    by_cases e : (c, d) = (a, b)
    · injection e with e1 e2
      rw [valV_pos (by rw [e1, e2]), if_pos (by rw [e1, e2]; simp)]
    · rw [valV_neg (by
        intro z
        injection z with z1 z2
        injection z2 with z2 _
        injection z1 with z1
        injection z2 with z2
        exact e (by rw [z1, z2])), kP_val]
      have : ((a, b) ∈ (c, d) :: ps) ↔ (a, b) ∈ ps := by
        rw [List.mem_cons]
        exact ⟨fun h => h.resolve_left fun z => e z.symm, .inr⟩
      by_cases hx : (a, b) ∈ ps
      · rw [if_pos hx, if_pos (this.mpr hx)]
      · rw [if_neg hx, if_neg (fun z => hx (this.mp z))]
theorem kP_put {ps : List (Int × Int)} {a b : Int} : putK (kP ps) [Sum.inl a, Sum.inl b] (.bl true) = kP (insP ps (a, b)) := by
  unfold insP
  split
  · rename_i h
    unfold putK
    have : (kP ps).any (fun kv => decide (kv.1 = [Sum.inl a, Sum.inl b])) = true := by
      rw [List.any_eq_true]
      exact ⟨([Sum.inl a, Sum.inl b], V.bl true), List.mem_map.mpr ⟨(a, b), h, rfl⟩, by simp⟩
    rw [if_pos this]
    unfold kP
    rw [List.map_map]
    refine List.map_congr_left fun p _ => ?_
    by_cases e : ([Sum.inl p.1, Sum.inl p.2] : List Key) = [Sum.inl a, Sum.inl b]
    · simp [e]
    · simp [e]
  · rename_i h
    unfold putK
    have : (kP ps).any (fun kv => decide (kv.1 = [Sum.inl a, Sum.inl b])) ≠ true := fun z => by
      rw [List.any_eq_true] at z
      obtain ⟨kv, h1, h2⟩ := z
      obtain ⟨p, hp, rfl⟩ := List.mem_map.mp h1
      have h2 := of_decide_eq_true h2
      injection h2 with e1 e2
      injection e2 with e2 _
      injection e1 with e1
      injection e2 with e2
      exact h (by rw [← e1, ← e2]; exact hp)
    rw [if_neg this]
    unfold kP
    rw [List.map_append]
    rfl
def FDT (H : Hp) (F : Addr) (ts : List Tie) : Prop := ∃ ps, H F = some (.dT (kP ps)) ∧ ps.length ≤ 240 ∧ ∀ p : Int × Int, p ∈ ps ↔ HMet ts ts p.1 p.2
def RowsAt (H : Hp) (R : Addr) (ts : List Tie) (n : Nat) : Prop := ∃ as : List Addr, H R = some (.lst (as.map V.ref)) ∧ Paired (fun a P => H a = some (.lst ((hsP ts P).map V.int))) as (partsTo ts n n)
def DueV (H : Hp) (p : Addr) (n : Nat) (ts : List Tie) : Prop := ∃ (word : Str) (R F : Addr), H p = some (.tup [.str word, .ref R, .ref F]) ∧ FDT H F ts ∧ ((Clash ts ∧ word = "ring") ∨ (¬ Clash ts ∧ GreatS ts n ∧ word = "many") ∨ (¬ Clash ts ∧ ¬ GreatS ts n ∧ word = "rows" ∧ RowsAt H R ts n))
theorem FDT.same {H H' : Hp} {F : Addr} {ts : List Tie} (h : FDT H F ts) (s : Same H H') : FDT H' F ts := by
  obtain ⟨ps, h1, h2⟩ := h
  exact ⟨ps, s _ _ h1, h2⟩
theorem RowsAt.same {H H' : Hp} {R : Addr} {ts : List Tie} {n : Nat} (h : RowsAt H R ts n) (s : Same H H') : RowsAt H' R ts n := by
  obtain ⟨as, h1, h2⟩ := h
  exact ⟨as, s _ _ h1, Paired.mono (fun _ _ q => s _ _ q) h2⟩
theorem FDT.kt {Ps : List Addr} {H H' : Hp} {F : Addr} {ts : List Tie} (h : FDT H F ts) (k : Kt Ps H H') (t : Tabs Ps H) : FDT H' F ts := by
  obtain ⟨ps, h1, h2⟩ := h
  exact ⟨ps, k.keep F _ (t.out h1 fun _ z => by cases z) h1, h2⟩
theorem RowsAt.kt {Ps : List Addr} {H H' : Hp} {R : Addr} {ts : List Tie} {n : Nat} (h : RowsAt H R ts n) (k : Kt Ps H H') (t : Tabs Ps H) : RowsAt H' R ts n := by
  obtain ⟨as, h1, h2⟩ := h
  exact ⟨as, k.lst t h1, Paired.mono (fun _ _ q => k.lst t q) h2⟩
open Classical in
/-- the leaders below i, and the heads below i in a leader's part -/
noncomputable def ldrs (ts : List Tie) (i : Nat) : List Int := (rng i).filter fun m => decide (leader ts m)
noncomputable def rowN (ts : List Tie) (g : Int → Int) (i : Nat) (m : Int) : List Int := (rng i).filter fun x => isHd ts x && decide (g x = m)
theorem rowN_len (ts : List Tie) (g : Int → Int) (i : Nat) (m : Int) : (rowN ts g i m).length ≤ i := by
  have := List.length_filter_le (fun x => isHd ts x && decide (g x = m)) (rng i)
  rwa [rng_length] at this
section
variable {n : Nat} {ts : List Tie} {g : Int → Int}
theorem leader_hd (ok : ∀ t ∈ ts, TieOk n t) {m : Int} (hm : 0 ≤ m ∧ m < (n : Int)) (lm : leader ts m) : hd ts m = m := by
  have h1 := hd_le ok hm
  have h2 := lm _ (hd_spec ok hm).2.2.all.symm
  omega
theorem rowN_end (ok : ∀ t ∈ ts, TieOk n t) (lab : LabT ts n g) {m : Int} (hm : 0 ≤ m ∧ m < (n : Int)) (lm : leader ts m) : rowN ts g n m = hsP ts (partOf ts n m) := by
  apply rising_ext ((rng_rising _).filter _) ((part_rising ts n m).filter _)
  intro x
  show x ∈ rowN ts g n m ↔ x ∈ hsP ts (partOf ts n m)
  unfold rowN
  rw [List.mem_filter, hsP_mem, Bool.and_eq_true, decide_eq_true_iff, mem_rng]
  have gm : g m = m := by
    have h1 := lab.le m hm.1 hm.2
    have h2 := lm _ (lab.rch m hm.1 hm.2).symm
    omega
  constructor
  · rintro ⟨hx, h1, h2⟩
    refine ⟨⟨hx, ?_⟩, of_decide_eq_true h1⟩
    exact (lab.iff hm hx).mp (by rw [gm, h2])
  · rintro ⟨⟨hx, h1⟩, h2⟩
    refine ⟨hx, decide_eq_true h2, ?_⟩
    rw [← gm]
    exact ((lab.iff hm hx).mpr h1).symm
open Classical in
theorem ldrs_snoc (ts : List Tie) (i : Nat) : ldrs ts (i + 1) = ldrs ts i ++ (if leader ts (i : Int) then [(i : Int)] else []) := by
  unfold ldrs
  rw [rng_succ, List.filter_append]
  congr 1
  by_cases h : leader ts (i : Int)
  · simp [h]
  · simp [h]
theorem rowN_snoc (ts : List Tie) (g : Int → Int) (i : Nat) (m : Int) : rowN ts g (i + 1) m = rowN ts g i m ++ (if isHd ts (i : Int) = true ∧ g (i : Int) = m then [(i : Int)] else []) := by
  unfold rowN
  rw [rng_succ, List.filter_append]
  congr 1
  by_cases h : isHd ts (i : Int) = true ∧ g (i : Int) = m
  · rw [if_pos h, List.filter_cons_of_pos (by rw [h.1, decide_eq_true h.2]; rfl)]
    rfl
  · rw [if_neg h, List.filter_cons_of_neg (by
      intro z
      rw [Bool.and_eq_true, decide_eq_true_iff] at z
      exact h z)]
    rfl
open Classical in
theorem ldrs_mem {i : Nat} {m : Int} : m ∈ ldrs ts i ↔ (0 ≤ m ∧ m < (i : Int)) ∧ leader ts m := by
  unfold ldrs
  rw [List.mem_filter, mem_rng, decide_eq_true_iff]
end
/-- the dict of rows -/
structure RD (H0 H : Hp) (R : Addr) (ts : List Tie) (g : Int → Int) (i : Nat) (A : Int → Addr) : Prop where
  at' : H R = some (.dK (kF (ldrs ts i) fun m => .ref (A m)))
  each : ∀ m ∈ ldrs ts i, H (A m) = some (.lst ((rowN ts g i m).map V.int))
  inj : ∀ m ∈ ldrs ts i, ∀ q ∈ ldrs ts i, A m = A q → m = q
  new : ∀ m ∈ ldrs ts i, H0 (A m) = none
theorem clash_hmet {n : Nat} {ts : List Tie} (ok : ∀ t ∈ ts, TieOk n t) : Clash ts ↔ ∃ a, HMet ts ts a a := by
  constructor
  · rintro ⟨t, ht, hf, r⟩
    have o := ok t ht
    have e := (hd_iff ok (x := t.one) (y := t.other) ⟨o.1, o.2.1⟩ ⟨o.2.2.1, o.2.2.2.1⟩).mpr r
    exact ⟨hd ts t.one, t, ht, hf, .inl ⟨rfl, e.symm⟩⟩
  · rintro ⟨a, t, ht, hf, e⟩
    have o := ok t ht
    refine ⟨t, ht, hf, (hd_iff ok ⟨o.1, o.2.1⟩ ⟨o.2.2.1, o.2.2.2.1⟩).mp ?_⟩
    rcases e with ⟨e1, e2⟩ | ⟨e1, e2⟩ <;> rw [e1, e2]
open Classical in
theorem ldrs_len (ts : List Tie) (i : Nat) : (ldrs ts i).length ≤ i := by
  unfold ldrs
  have := List.length_filter_le (fun m => decide (leader ts m)) (rng i)
  rwa [rng_length] at this
open Classical in
theorem partsTo_ldrs (ts : List Tie) (n : Nat) : partsTo ts n n = (ldrs ts n).map (partOf ts n) := by
  unfold partsTo ldrs
  rfl
theorem paired_map65 {α β γ : Type} {F : β → γ → Prop} {f : α → β} {g : α → γ} : ∀ {l : List α}, (∀ m ∈ l, F (f m) (g m)) → Paired F (l.map f) (l.map g)
  | [], _ => .nil
  | a :: l, h => .cons (h a (by simp)) (paired_map65 fun m hm => h m (List.mem_cons_of_mem _ hm))
theorem kP_at {ps : List (Int × Int)} {i : Nat} {k : List Key} {v : V} (h : (kP ps)[i]? = some (k, v)) : ∃ p, ps[i]? = some p ∧ k = [Sum.inl p.1, Sum.inl p.2] := by
  unfold kP at h
  rw [List.getElem?_map] at h
  obtain ⟨p, e, z⟩ := Option.map_eq_some_iff.mp h
  injection z with z1 z2
  exact ⟨p, e, z1.symm⟩
theorem kp_new65 {d c x : Addr} {H0 H H' : Hp} {o : HO} (k : Kp d c H H') (hd : H0 d ≠ none) (hc : H0 c ≠ none) (n : H0 x = none) (h : H x = some o) : H' x = some o :=
  k x o (fun e => hd (by rw [← e]; exact n)) (fun e => hc (by rw [← e]; exact n)) h
theorem FDT.kp {d c F : Addr} {H0 H H' : Hp} {ts : List Tie} (h : FDT H F ts) (k : Kp d c H H') (hd : H0 d ≠ none) (hc : H0 c ≠ none) (n : H0 F = none) : FDT H' F ts := by
  obtain ⟨ps, h1, h2⟩ := h
  exact ⟨ps, kp_new65 k hd hc n h1, h2⟩
/-! ### a generator expression with two clauses -/
theorem compTurn_gen2_out (elt t0 i0 t1 i1 : Expr) (ifs1 : List Expr) (scope : Scope) (pos : Pos) (it acc : Value) (env : Env) :
    compTurn (.GeneratorExp elt [⟨t0, i0, [], 0⟩, ⟨t1, i1, ifs1, 0⟩] scope pos) 0 it acc env = (do
      standAt i0.pos
      match ← pyNext it with
      | none => pure (.done .next)
      | some v =>
        letOwnedTupleGo t0 it v
        assign t0 env v
        let mut ok := true
        for c in ([] : List Expr) do
          if ok then ok ← isTrue c env (eval c env)
        if ok then
          let x ← eval i1 env
          standAt i1.pos
          let x ← foldedSetIterable i1 env x
          let _ ← runOwn (.compStart (.GeneratorExp elt [⟨t0, i0, [], 0⟩, ⟨t1, i1, ifs1, 0⟩] scope pos) 1 (← holding [x] (pyIter x)) acc env) env
        again (.compLoop (.GeneratorExp elt [⟨t0, i0, [], 0⟩, ⟨t1, i1, ifs1, 0⟩] scope pos) 0 it acc env)) := by rfl
theorem compTurn_gen2_in (elt t0 i0 t1 i1 : Expr) (ifs1 : List Expr) (scope : Scope) (pos : Pos) (it acc : Value) (env : Env) :
    compTurn (.GeneratorExp elt [⟨t0, i0, [], 0⟩, ⟨t1, i1, ifs1, 0⟩] scope pos) 1 it acc env = (do
      standAt i1.pos
      match ← pyNext it with
      | none => pure (.done .next)
      | some v =>
        letOwnedTupleGo t1 it v
        assign t1 env v
        let mut ok := true
        for c in ifs1 do
          if ok then ok ← isTrue c env (eval c env)
        if ok then
          (do let v ← eval elt env; standAt elt.pos; let _ ← yieldOut env v)
        again (.compLoop (.GeneratorExp elt [⟨t0, i0, [], 0⟩, ⟨t1, i1, ifs1, 0⟩] scope pos) 1 it acc env)) := by rfl
/-- the inner loop's around is the outer one's -/
theorem over_nest {A : PySem.Around} {elt : Expr} {gs : List Comprehension} {scope : Scope} {pos p : Pos} {it it1 acc acc1 : Value} {env : Env} {k : Result → Sem PySem.Fin} {g : Bool} {l kp : List Value} :
    A.over (.compLoop (.GeneratorExp elt gs scope pos) 1 it1 acc1 env) [.ret k none g l (.compLoop (.GeneratorExp elt gs scope pos) 0 it acc env) p kp] = A.over (.compLoop (.GeneratorExp elt gs scope pos) 0 it acc env) [] := by
  unfold Around.over
  simp [marksOver, Frame.marks, markOver, Frame.where_, frameCount, envsOf, guardsOf, unitsOf, Code.envs, Code.guards, Code.isFrame, Code.env?, Code.isGuard, Code.weight, Code.frames, Code.isCreation, Code.isCaller, Code.cUnits, pushEnvs, pushGuards]
theorem over_nestS {A : PySem.Around} {elt : Expr} {gs : List Comprehension} {scope : Scope} {pos p : Pos} {it it1 acc acc1 : Value} {env : Env} {k : Result → Sem PySem.Fin} {g : Bool} {l kp : List Value} :
    A.over (.compStart (.GeneratorExp elt gs scope pos) 1 it1 acc1 env) [.ret k none g l (.compLoop (.GeneratorExp elt gs scope pos) 0 it acc env) p kp] = A.over (.compLoop (.GeneratorExp elt gs scope pos) 0 it acc env) [] := by
  unfold Around.over
  simp [marksOver, Frame.marks, markOver, Frame.where_, frameCount, envsOf, guardsOf, unitsOf, Code.envs, Code.guards, Code.isFrame, Code.env?, Code.isGuard, Code.weight, Code.frames, Code.isCreation, Code.isCaller, Code.cUnits, pushEnvs, pushGuards]
/-- a code run within a generator's segment -/
theorem seg_runOwn {M : Model} {A : PySem.Around} {R : GenEnd} {Y : Protocol} {n : Nat} {s₀ : Shared} {c c' : Code} {fs : List Frame} {s : Shared} {β : Type} {env : Env} {K : Flow → Sem β} {K' : β → Sem PySem.Fin} {H' : Value → Sem PySem.Fin} {gd lv}
    (h : ∀ (p : Pos) (k : Result → Sem PySem.Fin) (g : Bool) (l : List Value), g = gd false → (∀ f, k (.ok f) = (K f).wrap K' H' gd lv) → Seg M A R Y n s₀ c' (M.den c') (.ret k none g l c p [] :: fs) s) :
    Seg M A R Y n s₀ c ((runOwn c' env >>= K).wrap K' H' gd lv) fs s := by
  rw [Sem.bind_eq_wrap', Sem.wrap_wrap]
  unfold runOwn run
  exact seg_call fun p => h p _ _ _ rfl fun f => rfl
theorem eval_GeneratorExp2 (elt target iter t1 i1 : Expr) (ifs ifs1 : List Expr) (scope : Scope) (pos : Pos) (env : Env) (hco : scope.isCoroutine = false) (hs : ∀ x, genexprIterable false [⟨target, iter, ifs, 0⟩, ⟨t1, i1, ifs1, 0⟩] env x = pure x) :
    eval (.GeneratorExp elt [⟨target, iter, ifs, 0⟩, ⟨t1, i1, ifs1, 0⟩] scope pos) env = (do
      let x ← eval iter env
      standAt iter.pos
      let x ← genexprIterable false [⟨target, iter, ifs, 0⟩, ⟨t1, i1, ifs1, 0⟩] env x
      let it ← holding [x] (pyIter x)
      enterFrame
      let cl ← closureFor scope env
      let code ← genexprCode env pos (env.qual ++ "<genexpr>") scope
      let bi ← builtinsFor env.globals env.builtins
      let cenv ← newFunctionEnv scope env.globals cl [(".0", it)] (env.qual ++ "<genexpr>.") none code none bi
      newGenerator (.compStart (.GeneratorExp elt [⟨target, iter, ifs, 0⟩, ⟨t1, i1, ifs1, 0⟩] scope pos) 0 it .none cenv) "<genexpr>" (env.qual ++ "<genexpr>")) := by
  rw [arm_eval_GeneratorExp]
  simp only [hco, Bool.false_eq_true, if_false]
  rfl
theorem wpAny_GeneratorExp_make2 {M : Model} {A : PySem.Around} {E : Value → Shared → Prop} {s : Shared} {env : Env} {elt target iter t1 i1 : Expr} {ifs ifs1 : List Expr} {scope : Scope} {cl : List (Str × Addr)} {pos : Pos} {Q : Value → Shared → Prop}
    (hco : scope.isCoroutine = false) (hclos : closureFor scope env = pure cl) (hcell : ∀ y ∈ scope.names, y.2 ≠ .cell) (h0 : scope.names.lookup (".0" : Str) = some NameKind.local) (hkind : scope.kind = .function)
    (hroom : A.depth < recursionLimit)
    (h : wpAny M A (eval iter env) (fun xv s₁ => wpAny M A (pyIter xv) (fun it s₂ => s₂.heap.NoLimit ∧
      wpAny M A (genexprCode env pos (env.qual ++ "<genexpr>") scope) (fun code s₃ => wpAny M A (builtinsFor env.globals env.builtins) (fun bi s₄ =>
        ∀ h', h'.Ns s₄.heap.objs.size (fun y => if y = ".0" then some it else none) → Heap.SameBut s₄.heap.objs.size (s₄.heap.push { cls := .type "frame", data := .dict #[] }) h' →
          Q (.ref h'.objs.size) { s₄ with
            gens := s₄.gens.push (.fresh (.compStart (.GeneratorExp elt [⟨target, iter, ifs, 0⟩, ⟨t1, i1, ifs1, 0⟩] scope pos) 0 it .none (genEnv scope cl s₄.heap.objs.size code bi env))),
            toks := s₄.toks + 1 + 1 + 1,
            heap := h'.push { cls := .type "generator", data := .fields #[.int s₄.gens.size 0, .str "<genexpr>" (s₄.toks + 1), .str (env.qual ++ "<genexpr>") (s₄.toks + 1 + 1)] } }) E s₃) E s₂) E s₁) E s)
    (hs : ∀ x, genexprIterable false [⟨target, iter, ifs, 0⟩, ⟨t1, i1, ifs1, 0⟩] env x = pure x) :
    wpAny M A (eval (.GeneratorExp elt [⟨target, iter, ifs, 0⟩, ⟨t1, i1, ifs1, 0⟩] scope pos) env) Q E s := by
  rw [eval_GeneratorExp2 _ _ _ _ _ _ _ _ _ _ hco hs, hclos]
  refine wpAny_bind (wpAny_mono h (fun xv s₁ h₁ => ?_) fun _ _ e => e)
  refine wpAny_bind (wpAny_standAt ?_)
  refine wpAny_bind (wpAny_of_eq (hs xv) ?_)
  refine wpAny_bind (wpAny_holding (wpAny_mono h₁ (fun it s₂ h₂ => ?_) fun _ _ e => e))
  refine wpAny_bind (wpAny_enterFrame h₂.1 hroom ?_)
  refine wpAny_bind (wpAny_pure ?_)
  refine wpAny_bind (wpAny_mono h₂.2 (fun code s₃ h₃ => ?_) fun _ _ e => e)
  refine wpAny_bind (wpAny_mono h₃ (fun bi s₄ h₄ => ?_) fun _ _ e => e)
  have hbinds : ∀ y ∈ ([((".0" : Str), it)] : List (Str × Value)), scope.names.lookup y.1 = some NameKind.local := by
    intro y hy
    rcases List.mem_cons.mp hy with rfl | hy
    · exact h0
    · cases hy
  refine wpAny_bind (wpAny_newFunctionEnv hcell hbinds (fun h' hn' hs' => ?_) hkind)
  have e : (fun y : Str => ([((".0" : Str), it)] : List (Str × Value)).reverse.lookup y) = fun y : Str => if y = (".0" : Str) then some it else none := by
    funext y
    by_cases hy : y = ".0"
    · subst hy; simp
    · have : (y == (".0" : Str)) = false := by simpa using hy
      simp [List.lookup, this, hy]
  rw [e] at hn'
  simp only [newGenerator, newFields]
  refine wpAny_bind (wpAny_newGen (wpAny_bind (wpAny_mkText (wpAny_bind (wpAny_mkText (wpAny_newObj_type ?_ (by size_fits)))))))
  exact h₄ h' hn' hs'
/-! ### all(elt for target in iter) -/
/-- the reading: W by the turn and a measure, V within it; P: the def's table, which may grow -/
def tAll2 (P : Addr) (wi : TI) (g : TG) (wi1 : TI) (g1 : TG) (tt1 : TT) (te : TE) (vs vs1 : List Nat) : TE := fun σ H Q => wi σ H fun J H1 => GxR.TabG H1 P ∧ ∃ W : Nat → Nat → Hp → Prop, (∀ H2, GxR.Tabbed P H1 H2 → ∃ m, W 0 m H2) ∧ ∀ i m H, W i m H →
  (J.stop i H ∧ Q (.bl true) H) ∨ (J.go i H ∧ ∀ x H', J.yld i H x H' → g x (wipe σ vs) H' fun σ2 H2 => wipe σ2 vs = wipe σ vs ∧
    wi1 σ2 H2 fun J1 H3 => ∃ V : Nat → Nat → Hp → Prop, (∃ k, k < m ∧ V 0 k H3) ∧ ∀ j k H, V j k H →
      (J1.stop j H ∧ ∃ m', m' ≤ k ∧ W (i + 1) m' H) ∨ (J1.go j H ∧ ∃ Nx : Hp → Prop, (∀ H', Nx H' → ∃ k', k' < k ∧ V (j + 1) k' H') ∧ ∀ x H', J1.yld j H x H' → g1 x (wipe σ2 vs1) H' fun σ3 H5 => wipe σ3 vs1 = wipe σ2 vs1 ∧
        tt1 σ3 H5 fun b H6 => if b = true then te σ3 H6 fun y H7 => ∃ b, y = .bl b ∧ if b = true then Nx H7 else Q (.bl false) H7 else Nx H6))
section
variable {X : Cx}
set_option maxHeartbeats 4000000 in
theorem pe_all2 {k : Nat} {c P : Addr} {elt tg iter tg1 iter1 : Expr} {ifs1 : List Expr} {scope : Scope} {own : List (Str × Nat)} {vs1 : List Nat} {p pos gpos : Pos} {wi wi1 : TI} {g g1 : TG} {tt1 : TT} {te : TE}
    (hr : Room (k + 1) X.A) (TB : GxR.TabB X.base X.mg c P) (hcode : X.env.code = .ref c) (hc : X.calm = true) (hN : X.N.Nodup) (hG : Gl X "all") (hM : X.mg "all" = none) (hi : PI X tg iter wi) (ok : BlkOk X.N X.env.scope scope own) (gk : GnOk scope) (hdN : (".0" : Str) ∉ X.N)
    (hg : ∀ (s : Shared) (H : Hp) (A' : PySem.Around) (C : Addr) (cl : List (Str × Addr)) (code : Value) (fp : List Addr), PG (gX X s H A' (genEnv scope cl C code builtinsNs X.env) fp) tg g)
    (he : ∀ (s : Shared) (H : Hp) (A' : PySem.Around) (C : Addr) (cl : List (Str × Addr)) (code : Value) (fp : List Addr), Room k A' → PE (gX X s H A' (genEnv scope cl C code builtinsNs X.env) fp) elt te)
    (hv : ∀ i ∈ vs1, i ∈ own.map (·.2))
    (hi1 : ∀ (s : Shared) (H : Hp) (A' : PySem.Around) (C : Addr) (cl : List (Str × Addr)) (code : Value) (fp : List Addr), Room k A' → PI (gX X s H A' (genEnv scope cl C code builtinsNs X.env) fp) tg1 iter1 wi1)
    (hg1 : ∀ (s : Shared) (H : Hp) (A' : PySem.Around) (C : Addr) (cl : List (Str × Addr)) (code : Value) (fp : List Addr), PG (gX X s H A' (genEnv scope cl C code builtinsNs X.env) fp) tg1 g1)
    (ht1 : ∀ (s : Shared) (H : Hp) (A' : PySem.Around) (C : Addr) (cl : List (Str × Addr)) (code : Value) (fp : List Addr), Room k A' → PTs (gX X s H A' (genEnv scope cl C code builtinsNs X.env) fp) ifs1 tt1)
    (hs1 : ∀ env x, foldedSetIterable iter1 env x = pure x := by intro _ _; rfl)
    (hs : ∀ v, genexprIterable false [⟨tg, iter, [], 0⟩, ⟨tg1, iter1, ifs1, 0⟩] X.env v = pure v := by intro _; rfl)
    (hst : starEach [.GeneratorExp elt [⟨tg, iter, [], 0⟩, ⟨tg1, iter1, ifs1, 0⟩] scope gpos] X.env = (false, eval (.GeneratorExp elt [⟨tg, iter, [], 0⟩, ⟨tg1, iter1, ifs1, 0⟩] scope gpos) X.env) :: starEach [] X.env := by rfl) :
    PE X (.Call (.Name "all" p) [.GeneratorExp elt [⟨tg, iter, [], 0⟩, ⟨tg1, iter1, ifs1, 0⟩] scope gpos] [] pos) (tAll2 P wi g wi1 g1 tt1 te (own.map (·.2)) vs1) := by
  refine ⟨fun pins s σ H Q I h => ?_⟩
  have hh : X.A.handled = none := hr.hd
  refine wpAny_Call_Name_kw (ld_blt I hG hM PyProof.Rows.boot_all ?_)
  refine PyProof.Rows.callWith_builtin1 ?_ hst (by rfl)
  rw [hst]
  show wpAny _ _ (spliced ((false, eval (.GeneratorExp elt [⟨tg, iter, [], 0⟩, ⟨tg1, iter1, ifs1, 0⟩] scope gpos) X.env) :: backTo pos (starEach [] X.env))) _ _ s
  have hfree : ∀ y ∈ scope.names, y.2 = .free → ∃ c, X.env.cells.lookup y.1 = some c := fun y hy e =>
    (ok.free y hy e).elim (fun k => I.ok.has _ (.inl k)) fun k => I.ok.has _ (.inr k)
  refine Calls.spliced_cons (wpAny_GeneratorExp_make2 gk.co (closure_ok hfree) gk.nocell gk.dot ok.kind (by have := hr.dp; omega) (thn (hi.run pins s σ H _ I h) fun xv s1 hx => thn hx fun itv s2 h2 => ?_) hs)
  obtain ⟨it, fp, tn, J, H2, e, I2, T, st2, f2, ⟨ps, hP, ht⟩, W, w0, turn⟩ := h2
  subst e
  refine ⟨I2.nolimit, ?_⟩
  have hPs : s2.heap.get? P = some { cls := .none, data := .fields ps } := I2.hok P _ hP
  have cd : PySem.W.CodeHd s2.heap c P := TB.code.keeps fun b u e => I2.bk b u e
  have sz2 : ∀ b ∈ fp, b < s2.heap.objs.size := fun b hb => by
    obtain ⟨o, e, _⟩ := T.obj _ _ st2 b hb
    exact Heap.lt_size e
  have nfP : ∀ b ∈ fp, b ≠ P := fun b hb z => by
    have q := (f2 b hb).1
    rw [z, hP] at q
    cases q
  -- behind the table
  have cont : ∀ (code : Value) (h3 : Heap) (tk : Nat) (more : Array Value), s2.heap.objs.size ≤ h3.objs.size → (∀ b o, b ≠ P → s2.heap.get? b = some o → h3.get? b = some o) → h3.get? P = some { cls := .none, data := .fields (ps ++ more) } → TriplesOk (ps ++ more).toList →
      wpAny (model X.prog X.w) X.A (builtinsFor X.env.globals X.env.builtins) (fun bi s4 => ∀ h', h'.Ns s4.heap.objs.size (fun y => if y = ".0" then some (.ref it) else none) → Heap.SameBut s4.heap.objs.size (s4.heap.push { cls := .type "frame", data := .dict #[] }) h' →
        wpAny (model X.prog X.w) X.A (spliced (backTo pos (starEach [] X.env))) (fun vs s5 => wpAny (model X.prog X.w) X.A (call (.builtin "all") (.ref h'.objs.size :: vs)) (EP X pins σ Q) X.xe s5) X.xe { s4 with
            gens := s4.gens.push (.fresh (.compStart (.GeneratorExp elt [⟨tg, iter, [], 0⟩, ⟨tg1, iter1, ifs1, 0⟩] scope gpos) 0 (.ref it) .none (genEnv scope (cloFrom X.env.cells scope.names []) s4.heap.objs.size code bi X.env))), toks := s4.toks + 1 + 1 + 1,
            heap := h'.push { cls := .type "generator", data := .fields #[.int s4.gens.size 0, .str "<genexpr>" (s4.toks + 1), .str (X.env.qual ++ "<genexpr>") (s4.toks + 1 + 1)] } }) X.xe { s2 with heap := h3, toks := tk } := by
    intro code h3 tk more hle3 hk3 hP3 ht3
    have I3 : Inv X pins σ (upd H2 P (.tbl (ps ++ more))) { s2 with heap := h3, gens := s2.gens, drawn := s2.drawn, toks := tk } := GxR.inv_tab I2 hP hk3 hP3 I2.bare
    have tab3 : GxR.Tabbed P H2 (upd H2 P (.tbl (ps ++ more))) := ⟨⟨_, upd_same, ht3⟩, fun b hb => upd_ne hb⟩
    have st3 : tn 0 h3 := T.keep _ _ _ st2 fun b hb o e => hk3 b o (nfP b hb) e
    have f3 : ∀ b ∈ fp, FpOk X pins (upd H2 P (.tbl (ps ++ more))) b := fun b hb => ⟨by rw [upd_ne (nfP b hb)]; exact (f2 b hb).1, (f2 b hb).2⟩
    generalize upd H2 P (.tbl (ps ++ more)) = H3 at I3 tab3 f3
    obtain ⟨m0, hw0⟩ := w0 H3 tab3
    have sz3 : ∀ b ∈ fp, b < h3.objs.size := fun b hb => Nat.lt_of_lt_of_le (sz2 b hb) hle3
    have hs3 : ({ s2 with heap := h3, gens := s2.gens, drawn := s2.drawn, toks := tk } : Shared) = { s2 with heap := h3, toks := tk } := rfl
    rw [hs3] at I3
    generalize hsh : ({ s2 with heap := h3, toks := tk } : Shared) = s3 at I3 ⊢
    have eh : h3 = s3.heap := by rw [← hsh]
    rw [eh] at st3 sz3
    clear hsh hs3 eh hP3 hk3 hle3
    obtain ⟨bm, ob, e1, e2, e3, e4, e5, e6, e7, e8⟩ := TB.bm
    refine wpAny_builtinsFor (m := X.mg) (by rw [I3.ok.glob]; exact I3.mod.glob.keeps I3.bk) e1 e2 (I3.bk _ _ e5) e6 e7 e8 ?_
    intro h' hn' hs'
    refine Calls.spliced_nil ?_
    have hsz : h'.objs.size = s3.heap.objs.size + 1 := by rw [hs'.1, Heap.size_push]
    generalize hgo : ({ cls := .type "generator", data := .fields #[.int s3.gens.size 0, .str "<genexpr>" (s3.toks + 1), .str (X.env.qual ++ "<genexpr>") (s3.toks + 1 + 1)] } : Obj) = go
    have kp5 : ∀ b o, s3.heap.get? b = some o → (h'.push go).get? b = some o := fun b o e => Heap.get?_push_of_some _ (hs'.extBut b o (Nat.ne_of_lt (Heap.lt_size e)) (Heap.get?_push_of_some _ e))
    generalize hce : genEnv scope (cloFrom X.env.cells scope.names []) s3.heap.objs.size code builtinsNs X.env = ce
    have hhA : (X.A.in1.in1.over (.compLoop (.GeneratorExp elt [⟨tg, iter, [], 0⟩, ⟨tg1, iter1, ifs1, 0⟩] scope gpos) 0 (.ref it) .none ce) []).handled = none := hh
    have hFr : (X.A.in1.in1.over (.compLoop (.GeneratorExp elt [⟨tg, iter, [], 0⟩, ⟨tg1, iter1, ifs1, 0⟩] scope gpos) 0 (.ref it) .none ce) []).frames = some (ce :: X.stack) := by
      show pushEnvs [ce] (pushEnvs [] X.A.frames) = _
      rw [I3.ok.frames]
      rfl
    have hRm : Room k (X.A.in1.in1.over (.compLoop (.GeneratorExp elt [⟨tg, iter, [], 0⟩, ⟨tg1, iter1, ifs1, 0⟩] scope gpos) 0 (.ref it) .none ce) []) := by
      have z1 := hr.dp
      have z2 := hr.un
      refine ⟨hhA, ?_, ?_⟩
      · show X.A.depth + 0 + 1 + 3 * k + 5 < recursionLimit
        omega
      · show X.A.units + 1 + 1 + 0 + 3 + 16 * k + 200 < cLine
        omega
    generalize hAg : X.A.in1.in1.over (.compLoop (.GeneratorExp elt [⟨tg, iter, [], 0⟩, ⟨tg1, iter1, ifs1, 0⟩] scope gpos) 0 (.ref it) .none ce) [] = Ag at hhA hFr hRm
    have I5 : Inv (gX X s3 H3 Ag ce fp) [(h'.objs.size, go)] (wipe σ (own.map (·.2))) H3 { s3 with heap := h'.push go, gens := s3.gens.push (.fresh (.compStart (.GeneratorExp elt [⟨tg, iter, [], 0⟩, ⟨tg1, iter1, ifs1, 0⟩] scope gpos) 0 (.ref it) .none ce)), toks := s3.toks + 1 + 1 + 1 } := by
      have q := gen_start (code := code) (A' := Ag) (h5 := h'.push go) (g5 := s3.gens.push (.fresh (.compStart (.GeneratorExp elt [⟨tg, iter, [], 0⟩, ⟨tg1, iter1, ifs1, 0⟩] scope gpos) 0 (.ref it) .none ce))) (t5 := s3.toks + 1 + 1 + 1) (go := go) I3 ok gk hN (fun b hb => ⟨f3 b hb, sz3 b hb⟩) hhA (by rw [hce]; exact hFr) kp5 (hn'.push _)
        (fun x hx => if_neg hx) hdN (I3.bare.push rfl) (a := h'.objs.size) (by omega) (Heap.get?_push_size _ (by rw [← hgo]; rfl)) (by rw [← hgo]; intro v z; cases z)
      rw [hce] at q
      exact q
    have st5 : tn 0 (h'.push go) := T.keep _ _ _ st3 fun b _ o e => kp5 b o e
    have nfp : ∀ b ∈ fp, H3 b = none := fun b hb => (f3 b hb).1
    have pg := hg s3 H3 Ag s3.heap.objs.size (cloFrom X.env.cells scope.names []) code fp
    have pi1 := hi1 s3 H3 Ag s3.heap.objs.size (cloFrom X.env.cells scope.names []) code fp hRm
    have pg1 := hg1 s3 H3 Ag s3.heap.objs.size (cloFrom X.env.cells scope.names []) code fp
    have pt1 := ht1 s3 H3 Ag s3.heap.objs.size (cloFrom X.env.cells scope.names []) code fp hRm
    have pe := he s3 H3 Ag s3.heap.objs.size (cloFrom X.env.cells scope.names []) code fp hRm
    rw [hce] at pg pe pi1 pg1 pt1
    have cCo : ce.scope.isCoroutine = false := by rw [← hce]; exact gk.co
    clear hn' hs' kp5 w0 hce
    -- back in the def's context
    have back : ∀ {σ' : L2.St} {H' : Hp} {s' : Shared} {pl : List (Addr × Obj)}, Inv (gX X s3 H3 Ag ce fp) pl σ' H' s' → Inv X pins σ H' s' := fun {σ' H' s' pl} J => I3.call' (ch := fp) J.os J.base J.hok J.bare fun b hb =>
      ⟨(f3 b hb).2.2.2.1, (f3 b hb).2.1, (f3 b hb).2.2.2.2.1, (f3 b hb).2.2.2.2.2⟩
    have stat : ∀ {σ' : L2.St} {H' : Hp} {s' : Shared}, Inv (gX X s3 H3 Ag ce fp) [(h'.objs.size, go)] σ' H' s' → (∀ b ∈ fp, H' b = none) → ∀ b ∈ fp, FpOk (gX X s3 H3 Ag ce fp) [(h'.objs.size, go)] H' b := fun {σ' H' s'} J hn b hb =>
      ⟨hn b hb, (J.ok.exf b hb).1, J.ok.exfs b hb, .inl hb, fun x c e => (J.ok.exf b hb).2 x c e, fun p hp => by
        have hp : p = (h'.objs.size, go) := by simpa using hp
        rw [hp]
        exact Nat.ne_of_gt (Nat.lt_trans (sz3 b hb) (by rw [hsz]; exact Nat.lt_succ_self _))⟩
    have gen : ∀ {σ' : L2.St} {H' : Hp} {s' : Shared} {pl : List (Addr × Obj)}, (h'.objs.size, go) ∈ pl → Inv (gX X s3 H3 Ag ce fp) pl σ' H' s' → s'.heap.IsGen h'.objs.size s3.gens.size := fun {σ' H' s' pl} hm J => by
      have q := (J.pin (h'.objs.size, go) (List.mem_append_right _ hm)).1
      exact ⟨go, _, _, q, by rw [← hgo], by rw [← hgo], by rw [← hgo]⟩
    -- the turns
    have loop : ∀ (m n i : Nat) (s₀ s : Shared) (H : Hp), m < n → W i m H → Inv (gX X s3 H3 Ag ce fp) [(h'.objs.size, go)] (wipe σ (own.map (·.2))) H s → tn i s.heap → (∀ b ∈ fp, H b = none) → s3.gens.size + 1 ≤ s.gens.size →
        Seg (model X.prog X.w) X.A.in1.in1 (fun n s₀ r s₁ => r = .ok .next ∧ gR (fun s => ∃ H', Inv X pins σ H' s ∧ Q (.bl true) H') n s₀ s₁) (gY s3.gens.size h'.objs.size false fun s => ∃ H', Inv X pins σ H' s ∧ Q (.bl false) H') n s₀
          (.compLoop (.GeneratorExp elt [⟨tg, iter, [], 0⟩, ⟨tg1, iter1, ifs1, 0⟩] scope gpos) 0 (.ref it) .none ce) ((model X.prog X.w).den (.compLoop (.GeneratorExp elt [⟨tg, iter, [], 0⟩, ⟨tg1, iter1, ifs1, 0⟩] scope gpos) 0 (.ref it) .none ce)) [] s := by
      intro m
      induction m using Nat.strongRecOn with
      | ind m ih =>
        intro n i s₀ s H hmn w J st nf hz
        show Seg (model X.prog X.w) _ _ _ n s₀ _ ((compTurn (.GeneratorExp elt [⟨tg, iter, [], 0⟩, ⟨tg1, iter1, ifs1, 0⟩] scope gpos) 0 (.ref it) .none ce).onRaise (leaving ce)) [] s
        rw [compTurn_gen2_out]
        rw [Sem.onRaise_eq_wrap]
        refine seg_bind_wrap (wpAny_standAt (seg_bind_wrap ?_))
        rw [hAg]
        rcases turn i m H w with ⟨stp, qq⟩ | ⟨go', step⟩
        · refine thnF (T.done (gX X s3 H3 Ag ce fp) rfl rfl rfl hc i _ s _ H (fun _ _ => False) J (stat J nf) st stp) fun r s6 ⟨hr6, J6⟩ => ?_
          subst hr6
          exact seg_end (.ok .next) ⟨rfl, J6.bare, H, back J6, qq⟩
        · refine GenW.wpAny_gsz hz (thnF (T.item (gX X s3 H3 Ag ce fp) rfl rfl rfl hc i _ s _ H (fun _ _ => False) J (stat J nf) st go') fun r s6 ⟨u, hr6, h6⟩ hz6 => ?_)
          subst hr6
          refine seg_bind_wrap ?_
          rw [hAg]
          refine GenW.wpAny_gsz hz6 (thnF h6 fun _ s7 ⟨x, H7, J7, r7, y7, st7, n7⟩ hz7 => ?_)
          have J7' := J7.pinned (stat J7 n7) (T.obj _ _ st7)
          refine seg_bind_wrap ?_
          rw [hAg]
          refine GenW.wpAny_gsz hz7 (thnF (pg.run _ s7 _ H7 x u _ J7' r7 (step x H7 y7)) fun _ s8 ⟨σ8, H8, J8, hw8, q8⟩ hz8 => ?_)
          simp only [List.forIn_nil]
          refine seg_bind_wrap (wpAny_pure ?_)
          simp only [if_true]
          refine seg_bind_wrap ?_
          rw [hAg]
          refine GenW.wpAny_gsz hz8 (thnF (pi1.run _ s8 σ8 H8 _ J8 q8) fun xv s9 hx hz9 => ?_)
          refine seg_bind_wrap (wpAny_standAt (seg_bind_wrap (wpAny_of_eq (hs1 ce xv) (seg_bind_wrap ?_))))
          rw [hAg]
          refine wpAny_holding (GenW.wpAny_gsz hz9 (thnF hx fun itv s10 h10 hz10 => ?_))
          obtain ⟨it1, fp1, tn1, J1, H10, e1, I10, T1, st10, f10, V, ⟨k0, hk0, v0⟩, turn1⟩ := h10
          subst e1
          refine seg_runOwn fun pp kk gg ll hgg hkk => ?_
          obtain rfl : gg = false := hgg
          have hl8 : (wipe σ (own.map (·.2))).length = σ8.length := by rw [← hw8, wipe_length]
          have hk8 : ∀ (j : Nat) v, (wipe σ (own.map (·.2)))[j]? = some (some v) → (wipe σ8 vs1)[j]? = some (some v) := fun j v e => by
            rw [← hw8] at e
            obtain ⟨e1, e2⟩ := wipe_some e
            rw [wipe_out fun z => e2 (hv j z)]
            exact e1
          have stat1 : ∀ {H' : Hp}, (∀ b ∈ fp1, H' b = none) → ∀ b ∈ fp1, FpOk (gX X s3 H3 Ag ce fp) ([(h'.objs.size, go)] ++ pinsAt fp s7.heap) H' b := fun hn b hb => ⟨hn b hb, (f10 b hb).2⟩
          have hy : ∀ v, yieldOut ce v = yieldValue v := fun v => by simp only [yieldOut, cCo, Bool.false_eq_true, if_false]
          -- the inner turns
          have loop1 : ∀ (k n' j : Nat) (s₀ s : Shared) (H : Hp), k < m → k < n' → V j k H → Inv (gX X s3 H3 Ag ce fp) ([(h'.objs.size, go)] ++ pinsAt fp s7.heap) (wipe σ8 vs1) H s → tn1 j s.heap → (∀ b ∈ fp1, H b = none) → s3.gens.size + 1 ≤ s.gens.size →
              Seg (model X.prog X.w) X.A.in1.in1 (fun n s₀ r s₁ => r = .ok .next ∧ gR (fun s => ∃ H', Inv X pins σ H' s ∧ Q (.bl true) H') n s₀ s₁) (gY s3.gens.size h'.objs.size false fun s => ∃ H', Inv X pins σ H' s ∧ Q (.bl false) H') n' s₀
                (.compLoop (.GeneratorExp elt [⟨tg, iter, [], 0⟩, ⟨tg1, iter1, ifs1, 0⟩] scope gpos) 1 (.ref it1) .none ce) ((model X.prog X.w).den (.compLoop (.GeneratorExp elt [⟨tg, iter, [], 0⟩, ⟨tg1, iter1, ifs1, 0⟩] scope gpos) 1 (.ref it1) .none ce)) [.ret kk none false ll (.compLoop (.GeneratorExp elt [⟨tg, iter, [], 0⟩, ⟨tg1, iter1, ifs1, 0⟩] scope gpos) 0 (.ref it) .none ce) pp []] s := by
            intro k
            induction k using Nat.strongRecOn with
            | ind k ihk =>
              intro n' j s₀ s H hkm hkn v J st nf hz
              show Seg (model X.prog X.w) _ _ _ n' s₀ _ ((compTurn (.GeneratorExp elt [⟨tg, iter, [], 0⟩, ⟨tg1, iter1, ifs1, 0⟩] scope gpos) 1 (.ref it1) .none ce).onRaise (fun x => do noteFrame x ce; theTreesLotGoes x)) _ s
              rw [compTurn_gen2_in]
              rw [Sem.onRaise_eq_wrap]
              refine seg_bind_wrap (wpAny_standAt (seg_bind_wrap ?_))
              rw [over_nest, hAg]
              -- from any later slots and heap, back to a turn
              have weak1 : ∀ {σ9 : L2.St} {s' : Shared} {H' : Hp} {pl : List (Addr × Obj)}, Inv (gX X s3 H3 Ag ce fp) (([(h'.objs.size, go)] ++ pinsAt fp s7.heap) ++ pl) σ9 H' s' → wipe σ9 vs1 = wipe σ8 vs1 → Inv (gX X s3 H3 Ag ce fp) ([(h'.objs.size, go)] ++ pinsAt fp s7.heap) (wipe σ8 vs1) H' s' := fun {σ9 s' H' pl} K e =>
                K.unpinned.weak (by rw [← e, wipe_length]) (fun j v q => by rw [← e] at q; exact (wipe_some q).1)
              rcases turn1 j k H v with ⟨stp, m', hm', w'⟩ | ⟨go1, Nx1, hNx1, step1⟩
              · refine GenW.wpAny_gsz hz (thnF (T1.done (gX X s3 H3 Ag ce fp) rfl rfl rfl hc j _ s (wipe σ8 vs1) H (fun _ _ => False) J (stat1 nf) st stp) fun r s13 ⟨hr, J13⟩ hz13 => ?_)
                subst hr
                refine seg_leaf (.ok .next) ?_
                rw [hkk]
                have pin' : ∀ b ∈ fp, ∀ o, s7.heap.get? b = some o → s13.heap.get? b = some o ∧ H b = none := fun b hb o e =>
                  let z := J13.pin (b, o) (List.mem_append_right _ (List.mem_append_right _ (mem_pinsAt hb e)))
                  ⟨z.1, z.2.1⟩
                refine seg_again rfl (ih m' (Nat.lt_of_le_of_lt hm' hkm) n' (i + 1) s₀ s13 H (Nat.lt_of_le_of_lt hm' hkn) w' (J13.unpinned.weak (hl8.trans (wipe_length σ8 vs1).symm) hk8) (T.keep _ _ _ st7 fun b hb o e => (pin' b hb o e).1) (fun b hb => ?_) hz13)
                obtain ⟨o, e, _⟩ := T.obj _ _ st7 b hb
                exact (pin' b hb o e).2
              · refine GenW.wpAny_gsz hz (thnF (T1.item (gX X s3 H3 Ag ce fp) rfl rfl rfl hc j _ s (wipe σ8 vs1) H (fun _ _ => False) J (stat1 nf) st go1) fun r s13 ⟨u1, hr, h13⟩ hz13 => ?_)
                subst hr
                refine seg_bind_wrap ?_
                rw [over_nest, hAg]
                refine GenW.wpAny_gsz hz13 (thnF h13 fun _ s14 ⟨x1, H14, J14, r14, y14, st14, n14⟩ hz14 => ?_)
                have J14' := J14.pinned (stat1 n14) (T1.obj _ _ st14)
                refine seg_bind_wrap ?_
                rw [over_nest, hAg]
                refine GenW.wpAny_gsz hz14 (thnF (pg1.run _ s14 (wipe σ8 vs1) H14 x1 u1 _ J14' r14 (step1 x1 H14 y14)) fun _ s15 ⟨σ15, H15, J15, hw15, q15⟩ hz15 => ?_)
                refine seg_bind_wrap ?_
                rw [over_nest, hAg]
                refine GenW.wpAny_gsz hz15 (thnF (pt1.run _ s15 σ15 H15 _ J15 q15) fun b1 s16 ⟨H16, J16, q16⟩ hz16 => ?_)
                have next : ∀ (n'' : Nat) (s₀' s' s'' : Shared) (H' : Hp), k ≤ n'' → Inv (gX X s3 H3 Ag ce fp) (([(h'.objs.size, go)] ++ pinsAt fp s7.heap) ++ pinsAt fp1 s14.heap) σ15 H' s' → s3.gens.size + 1 ≤ s'.gens.size → Rs s' s'' → Nx1 H' →
                    Seg (model X.prog X.w) X.A.in1.in1 (fun n s₀ r s₁ => r = .ok .next ∧ gR (fun s => ∃ H', Inv X pins σ H' s ∧ Q (.bl true) H') n s₀ s₁) (gY s3.gens.size h'.objs.size false fun s => ∃ H', Inv X pins σ H' s ∧ Q (.bl false) H') n'' s₀'
                      (.compLoop (.GeneratorExp elt [⟨tg, iter, [], 0⟩, ⟨tg1, iter1, ifs1, 0⟩] scope gpos) 1 (.ref it1) .none ce) ((model X.prog X.w).den (.compLoop (.GeneratorExp elt [⟨tg, iter, [], 0⟩, ⟨tg1, iter1, ifs1, 0⟩] scope gpos) 1 (.ref it1) .none ce)) [.ret kk none false ll (.compLoop (.GeneratorExp elt [⟨tg, iter, [], 0⟩, ⟨tg1, iter1, ifs1, 0⟩] scope gpos) 0 (.ref it) .none ce) pp []] s'' := fun n'' s₀' s' s'' H' hle K hz' r nx => by
                  obtain ⟨k', hk', v'⟩ := hNx1 H' nx
                  have pin' : ∀ b ∈ fp1, ∀ o, s14.heap.get? b = some o → s'.heap.get? b = some o ∧ H' b = none := fun b hb o e =>
                    let z := K.pin (b, o) (List.mem_append_right _ (List.mem_append_right _ (mem_pinsAt hb e)))
                    ⟨z.1, z.2.1⟩
                  refine ihk k' hk' n'' (j + 1) s₀' s'' H' (Nat.lt_trans hk' hkm) (Nat.lt_of_lt_of_le hk' hle) v' (r.inv (weak1 K hw15)) ?_ (fun b hb => ?_) (Nat.le_trans hz' r.size)
                  · rw [r.heap]
                    exact T1.keep _ _ _ st14 fun b hb o e => (pin' b hb o e).1
                  · obtain ⟨o, e, _⟩ := T1.obj _ _ st14 b hb
                    exact (pin' b hb o e).2
                cases b1 with
                | false =>
                  simp only [Bool.false_eq_true, if_false] at q16 ⊢
                  exact seg_again rfl (next n' s₀ s16 s16 H16 (Nat.le_of_lt hkn) J16 hz16 ⟨rfl, rfl, J16.bare, Nat.le_refl _⟩ q16)
                | true =>
                  simp only [if_true] at q16 ⊢
                  simp only [hy]
                  rw [Sem.bind_eq_wrap', Sem.bind_eq_wrap']
                  rw [Sem.wrap_wrap, Sem.wrap_wrap]
                  refine seg_wrap ?_
                  rw [over_nest, hAg]
                  refine GenW.wpAny_gsz hz16 (thnF (pe.run _ s16 σ15 H16 _ J16 q16) fun z s17 ⟨yv, H17, J17, r17, b, eb, qb⟩ hz17 => ?_)
                  subst eb
                  obtain rfl : z = Value.bool b := r17
                  obtain ⟨n'', rfl⟩ : ∃ n'', n' = n'' + 1 := ⟨n' - 1, by omega⟩
                  refine seg_at (seg_yield rfl rfl rfl ⟨b, rfl, gen (by simp) J17, J17.nolimit, J17.bare, hz17, fun e => ?_, fun e s' r => ?_⟩)
                  · subst e
                    exact ⟨H17, back J17, qb⟩
                  · have e : b = true := by
                      cases b with
                      | true => rfl
                      | false => exact absurd rfl e
                    subst e
                    rw [if_pos rfl] at qb
                    exact seg_again rfl (next n'' s' s17 s' H17 (by omega) J17 hz17 r qb)
          have lp := loop1 k0 n 0 s₀ s10 H10 hk0 (Nat.lt_trans hk0 hmn) v0 (I10.weak (wipe_length _ _) (fun j v e => (wipe_some e).1)) st10 (fun b hb => (f10 b hb).1) hz10
          show Seg (model X.prog X.w) _ _ _ _ _ _ ((compStart (.GeneratorExp elt [⟨tg, iter, [], 0⟩, ⟨tg1, iter1, ifs1, 0⟩] scope gpos) 1 (.ref it1) .none ce).onRaise (fun x => do noteFrame x ce; standAt theWindowsPlace)) _ _
          unfold compStart
          rw [Sem.onRaise_eq_wrap]
          show Seg (model X.prog X.w) _ _ _ _ _ _ ((ask >>= _).wrap _ _ _ _) _ _
          refine seg_bind_wrap (wpAny_askSetting ?_)
          split
          · exact seg_again rfl lp
          · refine seg_bind_wrap (wpAny_rule ?_)
            show Seg (model X.prog X.w) _ _ _ _ _ _ ((standAt iter1.pos >>= _).wrap _ _ _ _) _ _
            exact seg_bind_wrap (wpAny_standAt (seg_bind_wrap (T1.self _ 0 s10 _ _ st10 (seg_again rfl lp))))
    have mono : ∀ (b : Bool) (s s' : Shared), (∃ H', Inv X pins σ H' s ∧ Q (.bl b) H') → s'.os = s.os → AllBare s'.gens → (∀ b o, s.heap.get? b = some o → s'.heap.get? b = some o) → ∃ H', Inv X pins σ H' s' ∧ Q (.bl b) H' := fun b s s' ⟨H', J, q⟩ h1 h2 h3 =>
      ⟨H', inv_gens (J.kept (t' := s'.toks) h3) rfl h1 h2, q⟩
    generalize hs5 : ({ s3 with heap := h'.push go, gens := s3.gens.push (.fresh (.compStart (.GeneratorExp elt [⟨tg, iter, [], 0⟩, ⟨tg1, iter1, ifs1, 0⟩] scope gpos) 0 (.ref it) .none ce)), toks := s3.toks + 1 + 1 + 1 } : Shared) = s5 at I5
    have hg5 : s5.gens[s3.gens.size]? = some (.fresh (.compStart (.GeneratorExp elt [⟨tg, iter, [], 0⟩, ⟨tg1, iter1, ifs1, 0⟩] scope gpos) 0 (.ref it) .none ce)) := by
      rw [← hs5]
      exact Array.getElem?_push_size ..
    have hz5 : s3.gens.size + 1 ≤ s5.gens.size := by
      rw [← hs5]
      exact Nat.le_of_eq (Array.size_push ..).symm
    have ht5 : tn 0 s5.heap := by rw [← hs5]; exact st5
    have wt : Waits X.prog X.w X.A.in1 s3.gens.size h'.objs.size false (fun s => ∃ H', Inv X pins σ H' s ∧ Q (.bl true) H') (fun s => ∃ H', Inv X pins σ H' s ∧ Q (.bl false) H') (m0 + 1) s5 := by
      refine ⟨gen (by simp) I5, I5.nolimit, I5.bare, _, hg5, fun s' r => ⟨rfl, ?_⟩⟩
      have lp := loop m0 (m0 + 1) 0 s' s' H3 (Nat.lt_succ_self _) hw0 (r.inv I5) (by rw [r.heap]; exact ht5) nfp (Nat.le_trans hz5 r.size)
      show Seg (model X.prog X.w) _ _ _ _ s' _ ((compStart (.GeneratorExp elt [⟨tg, iter, [], 0⟩, ⟨tg1, iter1, ifs1, 0⟩] scope gpos) 0 (.ref it) .none ce).onRaise (leaving ce)) [] s'
      unfold compStart
      rw [Sem.onRaise_eq_wrap]
      show Seg (model X.prog X.w) _ _ _ _ s' _ ((ask >>= _).wrap _ _ _ _) [] s'
      refine seg_bind_wrap (wpAny_askSetting ?_)
      have ts : tn 0 s'.heap := by rw [r.heap]; exact ht5
      split
      · exact seg_again rfl lp
      · first
          | exact seg_bind_wrap (wpAny_rule (seg_bind_wrap (wpAny_standAt (seg_bind_wrap (T.self _ 0 s' _ _ ts (seg_again rfl lp))))))
          | (refine seg_bind_wrap (wpAny_rule ?_); show Seg (model X.prog X.w) _ _ _ _ s' _ ((standAt iter.pos >>= _).wrap _ _ _ _) [] s'; exact seg_bind_wrap (wpAny_standAt (seg_bind_wrap (T.self _ 0 s' _ _ ts (seg_again rfl lp)))))
    refine call_function_tree PySem.F.kind_all PySem.F.plain_all PySem.F.entry_all (PySem.F.args_all1 _) ?_
    unfold Builtin.«all»
    refine wpAny_bind (m := oneArg "all" _) (wpAny_pure ?_)
    refine wpAny_bind (wpAny_pyIter_gen (gen (by simp) I5) ?_)
    refine wpAny_pure ⟨plainId_quiet PySem.F.plain_all_loop _, codeAny_mono (all_loop hh hr.depth (mono true) (mono false) (m0 + 1) s5 wt) fun r s' hq => ?_⟩
    rcases hq with ⟨rfl, H', J, q⟩ | ⟨rfl, H', J, q⟩
    · exact ⟨.bl true, H', J, rfl, q⟩
    · exact ⟨.bl false, H', J, rfl, q⟩
  cases hf : codeAmong gpos ps.toList with
  | none =>
    refine wpAny_genexprCodeX hcode (cd.code hPs ht) (cd.tab hPs) hf fun c' h' tk hx hge hlt hco' _ htab' _ => ?_
    obtain ⟨o1, vs, f1, tf, fl, tg1, inF, tx, tt, op, _, _, _, _, _, _, _, _, _, htr, _⟩ := hco'
    exact cont _ h' tk _ (Nat.le_trans hge (Nat.le_of_lt hlt)) (fun b o hb e => hx b o hb e) htab'.2 htr
  | some cv =>
    refine wpAny_genexprCode_hit hcode (cd.code hPs ht) hf ?_
    have := cont cv s2.heap s2.toks #[] (Nat.le_refl _) (fun _ _ _ e => e) (by rw [hPs]; simp) (by simpa using ht)
    exact this
end
/-! ### zip of three tuples of one length -/
def ItZ (K : PySem.W.Frag) (a b c : Addr) : It where
  go := fun i H => ∃ (xs ys zs : List V), (SqT K H a xs ∧ SqT K H b ys ∧ SqT K H c zs) ∧ i < xs.length ∧ ys.length = xs.length ∧ zs.length = xs.length
  yld := fun i H v H' => ∃ T x y z, v = .ref T ∧ H T = none ∧ H' = upd H T (.tup [x, y, z]) ∧ (∀ xs, SqT K H a xs → xs[i]? = some x) ∧ (∀ ys, SqT K H b ys → ys[i]? = some y) ∧ ∀ zs, SqT K H c zs → zs[i]? = some z
  stop := fun i H => ∃ (xs ys zs : List V), (SqT K H a xs ∧ SqT K H b ys ∧ SqT K H c zs) ∧ xs.length = i ∧ ys.length = i ∧ zs.length = i
theorem turn_zip3 {P : Program} {w : World} {K : PySem.W.Frag} {elts : List Expr} {kk : Nat} {tpos : Pos} {a b c z TI TO i1 i2 i3 : Addr} (S : ZipSep3 z TI TO i1 i2 i3 [i1, a] [i2, b] [i3, c]) (n1 : a ≠ i1) (n2 : b ≠ i2) (n3 : c ≠ i3) :
    Turn P w K (.Tuple elts kk tpos) (ItZ K a b c) [z, TI, TO, i1, i2, i3] z (fun i h => IsZip h z TI TO .none ∧ IsTupOf3 h TI (.ref i1) (.ref i2) (.ref i3) ∧ (∃ a1 a2 a3, IsTupOf3 h TO a1 a2 a3) ∧ h.IsTupleIter i1 a i ∧ h.IsTupleIter i2 b i ∧ h.IsTupleIter i3 c i) where
  mem := List.mem_cons_self
  obj := by
    rintro i h ⟨hz, hTI, ⟨a1, a2, a3, hTO⟩, ⟨o1, e1, _, d1⟩, ⟨o2, e2, _, d2⟩, ⟨o3, e3, _, d3⟩⟩ q hq
    simp only [List.mem_cons, List.not_mem_nil, or_false] at hq
    rcases hq with rfl | rfl | rfl | rfl | rfl | rfl
    · exact ⟨_, hz, fun v y => nomatch y⟩
    · exact ⟨_, hTI, fun v y => nomatch y⟩
    · exact ⟨_, hTO, fun v y => nomatch y⟩
    · exact ⟨o1, e1, fun v y => by rw [d1] at y; cases y⟩
    · exact ⟨o2, e2, fun v y => by rw [d2] at y; cases y⟩
    · exact ⟨o3, e3, fun v y => by rw [d3] at y; cases y⟩
  keep := by
    rintro i h h' ⟨hz, hTI, ⟨a1, a2, a3, hTO⟩, t1, t2, t3⟩ kp
    exact ⟨kp z (by simp) _ hz, kp TI (by simp) _ hTI, ⟨a1, a2, a3, kp TO (by simp) _ hTO⟩, t1.at fun o q => kp i1 (by simp) o q, t2.at fun o q => kp i2 (by simp) o q, t3.at fun o q => kp i3 (by simp) o q⟩
  item := by
    intro X hP hw hK hc i pins s σ H E I hf st hg
    subst hP hw hK
    obtain ⟨hz, hTI, hTO, t1, t2, t3⟩ := st
    obtain ⟨xs, ys, zs, ⟨qx, qy, qz⟩, hi, ly, lz⟩ := hg
    obtain ⟨us, ru, tu, _⟩ := I.tuple qx
    obtain ⟨vs, rv, tv, _⟩ := I.tuple qy
    obtain ⟨ws, rw', tw, _⟩ := I.tuple qz
    have lu := ru.length
    have lv := rv.length
    have lw := rw'.length
    obtain ⟨u, hu, eu⟩ := ru.get (List.getElem?_eq_getElem hi)
    obtain ⟨v, hv, ev⟩ := rv.get (List.getElem?_eq_getElem (show i < ys.length by omega))
    obtain ⟨w', hw, ew⟩ := rw'.get (List.getElem?_eq_getElem (show i < zs.length by omega))
    have W := WalksT.zipD3 (A := X.A) S (Draws.tuple (prog := X.prog) (w := X.w) (A := X.A.in1) (I.ok.hd hc) i1 a n1 us.toArray) (Draws.tuple (prog := X.prog) (w := X.w) (A := X.A.in1) (I.ok.hd hc) i2 b n2 vs.toArray) (Draws.tuple (prog := X.prog) (w := X.w) (A := X.A.in1) (I.ok.hd hc) i3 c n3 ws.toArray)
    refine W.item i s _ _ (by simp only [List.size_toArray]; omega) ⟨hz, hTI, hTO, ⟨t1, tu⟩, ⟨t2, tv⟩, ⟨t3, tw⟩⟩ fun T vals h' tk hp newT isT mid kp => ?_
    obtain ⟨y1, y2, y3, p1, p2, p3, rfl⟩ := hp
    have apart := W.apart i T h' mid
    obtain rfl : u = y1 := Option.some.inj (((by simpa using hu) : us.toArray[i]? = some u).symm.trans p1)
    obtain rfl : v = y2 := Option.some.inj (((by simpa using hv) : vs.toArray[i]? = some v).symm.trans p2)
    obtain rfl : w' = y3 := Option.some.inj (((by simpa using hw) : ws.toArray[i]? = some w').symm.trans p3)
    refine ⟨_, rfl, W.go elts kk tpos i T { s with heap := h', toks := tk } _ _ mid fun h2 st2 kp2 => ?_⟩
    obtain ⟨g1, g2, g3, ⟨g4, _⟩, ⟨g5, _⟩, ⟨g6, _⟩⟩ := st2
    have objT : ObjOk X.prog X.w (upd H T (.tup [xs[i], ys[i], zs[i]])) h2 T (.tup [xs[i], ys[i], zs[i]]) := by
      obtain ⟨ot, et, ct, nt, dt⟩ := isT
      exact ⟨by show 3 ≤ sizeLine; decide, [u, v, w'], .cons eu (.cons ev (.cons ew .nil)), ⟨ot, kp2 _ _ apart et, ct, nt, dt⟩⟩
    have J : Inv X pins σ (upd H T (.tup [xs[i], ys[i], zs[i]])) { s with heap := h2, toks := tk } := I.turnedNew (ch := [z, TI, TO, i1, i2, i3]) (fun q ob hq e => by
      simp only [List.mem_cons, List.not_mem_nil, or_false, not_or] at hq
      have nw : q ∉ [z, TO, i1, i2, i3] := by simp [hq]
      exact kp2 q ob nw (kp q ob nw e)) hf newT objT
    refine ⟨.ref T, _, J, rfl, ⟨T, _, _, _, rfl, I.hok.fresh newT, rfl, fun l hl => by rw [I.tuple_inj hl qx]; exact List.getElem?_eq_getElem hi, fun l hl => by rw [I.tuple_inj hl qy]; exact List.getElem?_eq_getElem _, fun l hl => by rw [I.tuple_inj hl qz]; exact List.getElem?_eq_getElem _⟩, ⟨g1, g2, g3, g4, g5, g6⟩, fun q hq => ?_⟩
    have lq : q < s.heap.objs.size := by
      obtain ⟨_, _, ⟨a1, a2, a3, hTO⟩⟩ := (⟨hz, hTI, hTO⟩ : _ ∧ _ ∧ _)
      obtain ⟨o1, e1, _⟩ := t1
      obtain ⟨o2, e2, _⟩ := t2
      obtain ⟨o3, e3, _⟩ := t3
      simp only [List.mem_cons, List.not_mem_nil, or_false] at hq
      rcases hq with rfl | rfl | rfl | rfl | rfl | rfl
      · exact Heap.lt_size hz
      · exact Heap.lt_size hTI
      · exact Heap.lt_size hTO
      · exact Heap.lt_size e1
      · exact Heap.lt_size e2
      · exact Heap.lt_size e3
    rw [upd_ne (Nat.ne_of_lt (Nat.lt_of_lt_of_le lq newT))]
    exact (hf q hq).1
  done := by
    intro X hP hw hK hc i pins s σ H E I hf st hg
    subst hP hw hK
    obtain ⟨hz, hTI, hTO, t1, t2, t3⟩ := st
    obtain ⟨xs, ys, zs, ⟨qx, qy, qz⟩, lx, ly, lz⟩ := hg
    obtain ⟨us, ru, tu, _⟩ := I.tuple qx
    obtain ⟨vs, rv, tv, _⟩ := I.tuple qy
    obtain ⟨ws, rw', tw, _⟩ := I.tuple qz
    have lu := ru.length
    have lv := rv.length
    have lw := rw'.length
    have W := WalksT.zipD3 (A := X.A) S (Draws.tuple (prog := X.prog) (w := X.w) (A := X.A.in1) (I.ok.hd hc) i1 a n1 us.toArray) (Draws.tuple (prog := X.prog) (w := X.w) (A := X.A.in1) (I.ok.hd hc) i2 b n2 vs.toArray) (Draws.tuple (prog := X.prog) (w := X.w) (A := X.A.in1) (I.ok.hd hc) i3 c n3 ws.toArray)
    have en : min (min us.toArray.size vs.toArray.size) ws.toArray.size = i := by simp only [List.size_toArray]; omega
    refine W.done s _ _ ?_ fun h' tk kp => ⟨rfl, ?_⟩
    · rw [en]
      exact ⟨hz, hTI, hTO, ⟨t1, tu⟩, ⟨t2, tv⟩, ⟨t3, tw⟩⟩
    · refine I.turnedL (ch := [z, TI, TO, i1, i2, i3]) (fun q ob hq e => ?_) hf
      simp only [List.mem_cons, List.not_mem_nil, or_false, not_or] at hq
      exact kp q ob (by simp [hq]) e
  self := by
    rintro A i s Q E ⟨hz, _⟩ h
    exact wpAny_pyIter_zip hz h
def iZip3 (K : PySem.W.Frag) (ta : TA) : TI := fun σ H R => ta σ H fun vs H1 => ∃ a b c xs ys zs, vs = [.ref a, .ref b, .ref c] ∧ SqT K H1 a xs ∧ SqT K H1 b ys ∧ SqT K H1 c zs ∧ R (ItZ K a b c) H1
theorem pi_zip3 {X : Cx} {e e2 e3 : Expr} {ta : TA} {p pos tpos : Pos} {elts : List Expr} {kk : Nat} (hg : Gl X "zip") (hm : X.mg "zip" = none) (ha : PA X [e, e2, e3] ta) (hs : starEach [e, e2, e3] X.env = (false, eval e X.env) :: starEach [e2, e3] X.env := by rfl)
    (hpl : (backTo pos (starEach [e2, e3] X.env)).any (·.1) = false := by rfl) : PI X (.Tuple elts kk tpos) (.Call (.Name "zip" p) [e, e2, e3] [] pos) (iZip3 X.K ta) := by
  refine ⟨fun pins s σ H R I want => Call_ (ld_blt I hg hm PyProof.Rows.boot_zip (PyProof.Rows.callWith_type1 (thn (ha.run pos pins s σ H _ I want) fun us s1 got => ?_) hs hpl))⟩
  obtain ⟨vs, H1, J, rel, a, b, c, xs, ys, zs, ex, qa, qb, qc, q⟩ := got
  subst ex
  cases rel with
  | cons r1 rel =>
    cases rel with
    | cons r2 rel =>
      cases rel with
      | cons r3 rel =>
        cases rel
        cases r1
        cases r2
        cases r3
        obtain ⟨u1, _, t1, _⟩ := J.tuple qa
        obtain ⟨u2, _, t2, _⟩ := J.tuple qb
        obtain ⟨u3, _, t3, _⟩ := J.tuple qc
        have la : a < s1.heap.objs.size := let ⟨_, y, _⟩ := t1; Heap.lt_size y
        have lb : b < s1.heap.objs.size := let ⟨_, y, _⟩ := t2; Heap.lt_size y
        have lc : c < s1.heap.objs.size := let ⟨_, y, _⟩ := t3; Heap.lt_size y
        refine zip_begins3 (begins_tuple a u1.toArray) (begins_tuple b u2.toArray) (begins_tuple c u3.toArray) t1 t2 t3 fun h' hz hTI hTO g1 g2 g3 _ kp => wpAny_pyIter_zip hz ?_
        have J2 : Inv X pins σ H1 { s1 with heap := h' } := J.kept (t' := s1.toks) kp
        have S := zip_sep3 (N := s1.heap.objs.size) (fp1 := [a]) (fp2 := [b]) (fp3 := [c]) (fun y hy => by rw [List.mem_singleton.mp hy]; exact la) (fun y hy => by rw [List.mem_singleton.mp hy]; exact lb) (fun y hy => by rw [List.mem_singleton.mp hy]; exact lc)
        refine ⟨s1.heap.objs.size + 5, [s1.heap.objs.size + 5, s1.heap.objs.size + 3, s1.heap.objs.size + 4, s1.heap.objs.size, s1.heap.objs.size + 1, s1.heap.objs.size + 2], _, _, H1, rfl, J2, turn_zip3 S (Nat.ne_of_lt la) (Nat.ne_of_lt (Nat.lt_succ_of_lt lb)) (Nat.ne_of_lt (Nat.lt_succ_of_lt (Nat.lt_succ_of_lt lc))), ⟨hz, hTI, ⟨_, _, _, hTO⟩, ⟨_, g1, rfl, rfl⟩, ⟨_, g2, rfl, rfl⟩, ⟨_, g3, rfl, rfl⟩⟩, fun y hy => ?_, q⟩
        have ly : s1.heap.objs.size ≤ y := by
          simp only [List.mem_cons, List.not_mem_nil, or_false] at hy
          rcases hy with rfl | rfl | rfl | rfl | rfl | rfl
          · exact Nat.le_add_right _ _
          · exact Nat.le_add_right _ _
          · exact Nat.le_add_right _ _
          · exact Nat.le_refl _
          · exact Nat.le_add_right _ _
          · exact Nat.le_add_right _ _
        exact J.fpOk ly (J.hok.fresh ly)
/-! ### whole numbers below a limit -/
def wbelow (lim : Int) : V → Bool
  | .int i => decide (0 ≤ i) && decide (i < lim)
  | _ => false
def spBelow : Sp := fun vs H Q _ => ∃ lim v, vs = [.int lim, v] ∧ Kn H v ∧ Q (.bl (wbelow lim v)) H
section
variable {P : Program} {w : World} {K : PySem.W.Frag} {mg : Str → Option Value} {base : Heap}
theorem ok_is_whole_below {f : Addr} {fd : FuncData} (F : Fun K "is_whole_below" "is_whole_below" s_is_whole_below f fd) (D1 : Df P w K mg base 1 "is_whole" ["thing"] spWhole) : FnOk P w K mg base CX0 2 f fd ["limit", "thing"] spBelow := by
  obtain ⟨f1, fd1, G1, g1, k1, b1⟩ := D1
  refine F.ok sc_is_whole_below (fun vs H Q E h => ?_) (fun cdv A outer s H vs Q E hr h => ?_)
  · obtain ⟨lim, v, rfl, _⟩ := h
    rfl
  · obtain ⟨lim, v, rfl, hk, q⟩ := h
    refine ⟨_, (pss_one (ps_ret (pe_and (pe_call G1 hr (by rfl) g1 k1 b1 .nil pass0 (pa_cons (pv 1) pa_nil)) (pe_one (pe_chain op_le op_lt pe_int (pv 1) (pv 0)))))), ?_⟩
    refine ⟨v, rfl, v, rfl, hk, _, rfl, ?_⟩
    cases v with
    | int i =>
      refine ⟨.int i, rfl, 0, i, rfl, rfl, _, rfl, ?_⟩
      have e : wbelow lim (.int i) = (decide (0 ≤ i) && decide (i < lim)) := rfl
      rw [e] at q
      by_cases h0 : (0 : Int) ≤ i
      · rw [decide_eq_true h0] at q ⊢
        rw [Bool.true_and] at q
        exact ⟨.int lim, rfl, i, lim, rfl, rfl, q⟩
      · rw [decide_eq_false h0] at q ⊢
        exact q
    | _ => exact q
end
/-! ### rising rows -/
def ltV : V → V → Bool
  | .int a, .int b => decide (a < b)
  | _, _ => false
def chainB (xs : List V) : Bool := (xs.zip (xs.drop 1)).all fun p => ltV p.1 p.2
def riseB (H : Hp) (lim : Int) (v : V) : Bool := match parts H v with
  | some xs => xs.all (wbelow lim) && chainB xs
  | none => false
def RowK (H : Hp) (v : V) : Prop := Kn H v ∧ ∀ xs, parts H v = some xs → (∀ x ∈ xs, Kn H x) ∧ xs.length ≤ 1000
def spRising (Ps : List Addr) : Sp := fun vs H Q _ => ∃ (lim : Int) (v : V), vs = [.int lim, v] ∧ RowK H v ∧ Tabs Ps H ∧ ∀ H', Kt Ps H H' → Q (.bl (riseB H lim v)) H'
theorem take_all {α : Type} {xs : List α} {p : α → Bool} {i : Nat} {x : α} (h : xs[i]? = some x) (ha : (xs.take i).all p = true) : (xs.take (i + 1)).all p = p x := by
  rw [List.take_add_one, h, List.all_append, ha]
  simp
theorem all_not {α : Type} {xs : List α} {p : α → Bool} {i : Nat} {x : α} (h : xs[i]? = some x) (hp : p x = false) : xs.all p = false := by
  rw [Bool.eq_false_iff]
  intro z
  rw [List.all_eq_true] at z
  rw [z x (List.mem_of_getElem? h)] at hp
  cases hp
theorem zip_at {α β : Type} {xs : List α} {ys : List β} {i : Nat} {x : α} {y : β} (h : xs[i]? = some x) (g : ys[i]? = some y) : (xs.zip ys)[i]? = some (x, y) := by
  rw [List.getElem?_zip_eq_some]
  exact ⟨h, g⟩
theorem kt_kn_parts {Ps : List Addr} {H H' : Hp} (k : Kt Ps H H') (t : Tabs Ps H) {v : V} (h : Kn H v) : parts H' v = parts H v := by
  cases v with
  | ref a =>
    unfold parts
    rcases h with ⟨xs, h⟩ | ⟨xs, h⟩ | ⟨xs, h⟩
    · simp only [h, k.lst t h]
    · simp only [h, k.tup t h]
    · simp only [h, k.dct t h]
  | _ => rfl
theorem RowK.kt {Ps : List Addr} {H H' : Hp} {v : V} (h : RowK H v) (k : Kt Ps H H') (t : Tabs Ps H) : RowK H' v := ⟨k.kn t h.1, fun xs e => by
  rw [kt_kn_parts k t h.1] at e
  exact ⟨fun x hx => k.kn t ((h.2 xs e).1 x hx), (h.2 xs e).2⟩⟩
theorem rise_kt {Ps : List Addr} {H H' : Hp} {v : V} (h : RowK H v) (k : Kt Ps H H') (t : Tabs Ps H) (lim : Int) : riseB H' lim v = riseB H lim v := by
  unfold riseB
  rw [kt_kn_parts k t h.1]
theorem cut_tail (xs : List V) : cutV xs (some 1) none = xs.drop 1 := by
  unfold cutV
  rw [HT.sIx_none, show (1 : Int) = ((1 : Nat) : Int) from rfl, HT.sIx_nat]
  cases xs with
  | nil => rfl
  | cons x r =>
    rw [Nat.min_eq_left (by simp)]
    exact List.take_of_length_le (by simp)
section
variable {P : Program} {w : World} {K : PySem.W.Frag} {mg : Str → Option Value} {base : Heap}
theorem ok_are_rising_below {f c Pt : Addr} {fd : FuncData} {Ps : List Addr} (F : FunC K "are_rising_below" "are_rising_below" s_are_rising_below f fd c) (TB : GxR.TabB base mg c Pt) (hPt : Pt ∈ Ps) (M : Free mg) (m_all : mg "all" = none) (m_zip : mg "zip" = none) (D_is_whole_below : Df P w K mg base 2 "is_whole_below" ["limit", "thing"] spBelow) : FnOk P w K mg base CX0 4 f fd ["limit", "thing"] (spRising Ps) := by
  obtain ⟨f_is_whole_below, fd_is_whole_below, G_is_whole_below, g_is_whole_below, k_is_whole_below, b_is_whole_below⟩ := D_is_whole_below
  refine F.ok sc_are_rising_below (fun vs H Q E h => ?_) (fun A outer s H vs Q E hr h => ?_)
  · obtain ⟨lim, v, rfl, _⟩ := h
    rfl
  · obtain ⟨lim, v, rfl, ⟨kv, kp⟩, hT, q⟩ := h
    refine ⟨_, (Evl.pss_cut (ps_if (PW.pt (pw_or (pt_not (pt_val (pe_callB call_isi (by rfl) M.isinstance (by decide +kernel) (pa_cons (pv 1) (pa_cons (pe_bltn (v := .ty "tuple") (by rfl) M.tuple (by decide +kernel) rfl) pa_nil))))) (pw_or1 (pt_not (pt_val (pe_all (k := 2) (own := [("number", 2)]) (g := gName 2) hr TB rfl rfl sc_are_rising_below.nd (by rfl) m_all (pi_tup (pv 1)) (blkOk_by (N := N_are_rising_below) (sc := defScope s_are_rising_below) (own := [("number", 2)]) (by decide +kernel)) ⟨rfl, by decide +kernel, by decide +kernel⟩ (show (".0" : Str) ∉ N_are_rising_below by decide +kernel) (fun _ _ _ _ _ _ _ => (pg_name (i := 2) sc_are_rising_below.nd rfl (.inl rfl))) (fun _ _ _ _ _ _ _ hr' => (pe_call G_is_whole_below hr' (by rfl) g_is_whole_below k_is_whole_below b_is_whole_below .nil pass0 (pa_cons (pv 0) (pa_cons (pv 2) pa_nil))))))))))
        (pss_one (ps_ret pe_bl))
        pss_nil)
      (pss_one (ps_ret (pe_all (k := 2) (own := [("number", 2), ("following", 3)]) (g := gTup K 2 (gCons (gName 2) (gCons (gName 3) gNil))) hr TB rfl rfl sc_are_rising_below.nd (by rfl) m_all (RZ.pi_zipA (by rfl) m_zip (pa_cons (pv 1) (pa_cons (pe_slice sl_tupU (pv 1) (po_some pe_int) po_none) pa_nil))) (blkOk_by (N := N_are_rising_below) (sc := defScope s_are_rising_below) (own := [("number", 2), ("following", 3)]) (by decide +kernel)) ⟨rfl, by decide +kernel, by decide +kernel⟩ (show (".0" : Str) ∉ N_are_rising_below by decide +kernel) (fun _ _ _ _ _ _ _ => (pg_tup rfl (pgs_cons (pg_name (i := 2) sc_are_rising_below.nd rfl (.inl rfl)) (pgs_cons (pg_name (i := 3) sc_are_rising_below.nd rfl (.inl rfl)) pgs_nil)))) (fun _ _ _ _ _ _ _ hr' => (pe_cmpR op_lt (pv 2) (pv 3) (nomark _))))))), ?_⟩
    refine ⟨fun σ' H' => σ' = [some (.int lim), some v, none, none] ∧ Kt Ps H H' ∧ ∃ a xs, v = .ref a ∧ H a = some (.tup xs) ∧ xs.all (wbelow lim) = true, ?_, ?_⟩
    · obtain ⟨t1, h1, e1⟩ := kn_tup (K := K) kv
      refine ⟨v, rfl, v, _, t1, _, _, rfl, .ty "tuple", h1, e1, _, rfl, ?_⟩
      cases hi : isT H v with
      | false =>
        unfold riseB at q
        rw [parts_none hi] at q
        exact q _ (Kt.refl hT)
      | true =>
        obtain ⟨a, xs, rfl, ha⟩ := isT_at hi
        obtain ⟨kx, lx⟩ := kp xs (parts_of' ha)
        refine ⟨.ref a, rfl, a, rfl, ⟨_, SqT.of ha⟩, hT Pt hPt, fun j m H' => j + m = xs.length ∧ Kt Ps H H' ∧ (xs.take j).all (wbelow lim) = true, fun H2 hH2 => ⟨xs.length, by omega, Kt.tabbed hT hPt hH2, rfl⟩, fun j m H' hw => ?_⟩
        obtain ⟨em, kt, hal⟩ := hw
        have ha' := kt.tup hT ha
        by_cases hj : j < xs.length
        · refine .inr ⟨⟨_, _, SqT.of ha', List.getElem?_eq_getElem hj⟩, fun H3 => Kt Ps H H3 ∧ (xs.take (j + 1)).all (wbelow lim) = true, fun H3 n3 => ⟨m - 1, by omega, by omega, n3.1, n3.2⟩, fun x H3 hy => ?_⟩
          obtain ⟨rfl, fy⟩ := hy
          have ex : xs[j]? = some x := fy _ (SqT.of ha')
          refine ⟨rfl, .int lim, rfl, x, rfl, lim, x, rfl, kt.kn hT (kx x (List.mem_of_getElem? ex)), _, rfl, ?_⟩
          cases hb : wbelow lim x with
          | true => exact ⟨kt, (take_all ex hal).trans hb⟩
          | false =>
            have no : riseB H lim (.ref a) = false := by
              unfold riseB
              rw [parts_of' ha]
              show (xs.all (wbelow lim) && chainB xs) = false
              rw [all_not ex hb]
              rfl
            rw [no] at q
            exact ⟨_, rfl, q _ kt⟩
        · refine .inl ⟨⟨_, SqT.of ha', by omega⟩, ?_⟩
          rw [List.take_of_length_le (by omega)] at hal
          exact ⟨_, rfl, rfl, kt, a, xs, rfl, ha, hal⟩
    · rintro σ' H1 ⟨rfl, kt1, a, xs, rfl, ha, hal⟩
      obtain ⟨kx, lx⟩ := kp xs (parts_of' ha)
      have er : riseB H lim (.ref a) = chainB xs := by
        unfold riseB
        rw [parts_of' ha]
        show (xs.all (wbelow lim) && chainB xs) = chainB xs
        rw [hal]
        rfl
      rw [er] at q
      have T1 : Tabs Ps H1 := kt1.tab
      have ha1 := kt1.tup hT ha
      refine ⟨.ref a, rfl, .ref a, rfl, 1, rfl, a, xs, rfl, ha1, fun r H2 s2 hr2 => ?_⟩
      rw [cut_tail] at hr2
      have k2 := Kt.same T1 s2
      have T2 : Tabs Ps H2 := k2.tab
      have ha2 := s2 _ _ ha1
      have k12 := kt1.trans k2
      refine ⟨a, r, xs, xs.drop 1, rfl, .inr ⟨SqT.of ha2, SqT.of hr2, ?_⟩⟩
      refine ⟨T2 Pt hPt, fun i m H' => i + m = xs.length - 1 ∧ Kt Ps H2 H' ∧ ((xs.zip (xs.drop 1)).take i).all (fun p => ltV p.1 p.2) = true, fun H3 hH3 => ⟨xs.length - 1, by omega, Kt.tabbed T2 hPt hH3, rfl⟩, fun i m H' hw => ?_⟩
      obtain ⟨em, kt, hal2⟩ := hw
      have ha' := kt.tup T2 ha2
      have hr' := kt.tup T2 hr2
      by_cases hi : i < xs.length - 1
      · have hd : i < (xs.drop 1).length := by rw [List.length_drop]; exact hi
        refine .inr ⟨⟨xs, xs.drop 1, _, _, SqT.of ha', SqT.of hr', List.getElem?_eq_getElem (by omega), List.getElem?_eq_getElem hd⟩, fun H3 => Kt Ps H2 H3 ∧ ((xs.zip (xs.drop 1)).take (i + 1)).all (fun p => ltV p.1 p.2) = true, fun H3 n3 => ⟨m - 1, by omega, by omega, n3.1, n3.2⟩, fun x H3 hy => ?_⟩
        obtain ⟨T, x1, y1, rfl, nT, rfl, gx, gy⟩ := hy
        have ex := gx _ (SqT.of ha')
        have ey := gy _ (SqT.of hr')
        have ez := zip_at ex ey
        have wb : ∀ z ∈ xs, ∃ k, z = .int k := fun z hz => by
          rw [List.all_eq_true] at hal
          have := hal z hz
          cases z with
          | int k => exact ⟨k, rfl⟩
          | _ => cases this
        obtain ⟨a1, rfl⟩ := wb x1 (List.mem_of_getElem? ex)
        obtain ⟨b1, rfl⟩ := wb y1 (List.mem_of_mem_drop (List.mem_of_getElem? ey))
        have s3 : Same H' (upd H' T (.tup [.int a1, .int b1])) := same_new nT
        have kt3 := kt.trans (Kt.same kt.tab s3)
        refine ⟨T, _, rfl, SqT.of upd_same, rfl, _, _, rfl, _, _, rfl, rfl, rfl, .int a1, rfl, .int b1, rfl, a1, b1, rfl, rfl, _, rfl, ?_⟩
        cases hb : decide (a1 < b1) with
        | true => exact ⟨kt3, (take_all ez hal2).trans hb⟩
        | false =>
          have no : chainB xs = false := all_not ez hb
          rw [no] at q
          exact q _ (k12.trans kt3)
      · refine .inl ⟨⟨xs, xs.drop 1, SqT.of ha', SqT.of hr', .inr (by rw [List.length_drop]; omega)⟩, ?_⟩
        have lz : (xs.zip (xs.drop 1)).length ≤ i := by rw [List.length_zip, List.length_drop]; omega
        rw [List.take_of_length_le lz] at hal2
        have yes : chainB xs = true := hal2
        rw [yes] at q
        exact q _ (k12.trans kt)
end
/-! ### unlike places -/
def unlB (n : Int) (x y : V) : Bool := wbelow n x && (wbelow n y && !decide (x = y))
def spUnlikePl : Sp := fun vs H Q _ => ∃ (n : Int) (x y : V), vs = [.int n, x, y] ∧ Kn H x ∧ Kn H y ∧ Q (.bl (unlB n x y)) H
theorem wbelow_is {n : Int} {x : V} (h : wbelow n x = true) : ∃ i, x = .int i ∧ 0 ≤ i ∧ i < n := by
  cases x with
  | int i =>
    have h : (decide (0 ≤ i) && decide (i < n)) = true := h
    rw [Bool.and_eq_true, decide_eq_true_iff, decide_eq_true_iff] at h
    exact ⟨i, rfl, h⟩
  | _ => exact absurd (show false = true from h) Bool.false_ne_true
section
variable {P : Program} {w : World} {K : PySem.W.Frag} {mg : Str → Option Value} {base : Heap}
set_option maxHeartbeats 2000000 in
theorem ok_are_unlike_places {f : Addr} {fd : FuncData} (F : Fun K "are_unlike_places" "are_unlike_places" s_are_unlike_places f fd) (D_is_whole_below : Df P w K mg base 2 "is_whole_below" ["limit", "thing"] spBelow) : FnOk P w K mg base CX0 3 f fd ["many", "one", "other"] spUnlikePl := by
  obtain ⟨f_is_whole_below, fd_is_whole_below, G_is_whole_below, g_is_whole_below, k_is_whole_below, b_is_whole_below⟩ := D_is_whole_below
  refine F.ok sc_are_unlike_places (fun vs H Q E h => ?_) (fun cdv A outer s H vs Q E hr h => ?_)
  · obtain ⟨n, x, y, rfl, _⟩ := h
    rfl
  · obtain ⟨n, x, y, rfl, kx, ky, q⟩ := h
    refine ⟨_, (pss_one (ps_ret (pe_and (pe_call G_is_whole_below (hr.mono (by decide)) (by rfl) g_is_whole_below k_is_whole_below b_is_whole_below .nil pass0 (pa_cons (pv 0) (pa_cons (pv 1) pa_nil))) (pe_and (pe_call G_is_whole_below (hr.mono (by decide)) (by rfl) g_is_whole_below k_is_whole_below b_is_whole_below .nil pass0 (pa_cons (pv 0) (pa_cons (pv 2) pa_nil))) (pe_one (pe_cmpR op_ne (pv 1) (pv 2) (nomark _))))))), ?_⟩
    refine ⟨.int n, rfl, x, rfl, n, x, rfl, kx, _, rfl, ?_⟩
    unfold unlB at q
    cases h1 : wbelow n x with
    | false => rw [h1] at q; exact q
    | true =>
    rw [h1, Bool.true_and] at q
    refine ⟨.int n, rfl, y, rfl, n, y, rfl, ky, _, rfl, ?_⟩
    cases h2 : wbelow n y with
    | false => rw [h2] at q; exact q
    | true =>
    rw [h2, Bool.true_and] at q
    obtain ⟨i, rfl, _⟩ := wbelow_is h1
    obtain ⟨j, rfl, _⟩ := wbelow_is h2
    exact ⟨.int i, rfl, .int j, rfl, rfl, q⟩
end
/-! ### len(set(t)) of a tuple of ints -/
theorem twice : ∀ {ns : List Int}, ¬ ns.Nodup → ∃ x, x ∈ ns ∧ x ∈ ns.erase x
  | [], h => absurd List.nodup_nil h
  | y :: l, h => by
    by_cases hy : y ∈ l
    · exact ⟨y, by simp, by rw [List.erase_cons_head]; exact hy⟩
    · have hl : ¬ l.Nodup := fun z => h (List.nodup_cons.mpr ⟨hy, z⟩)
      obtain ⟨x, h1, h2⟩ := twice hl
      refine ⟨x, List.mem_cons_of_mem _ h1, ?_⟩
      have ne : y ≠ x := fun z => hy (by rw [z]; exact h1)
      rw [List.erase_cons_tail (by simpa using ne)]
      exact List.mem_cons_of_mem _ h2
theorem many_iff {ks ns : List Int} (nd : ks.Nodup) (h : ∀ x, x ∈ ns ↔ x ∈ ks) : ks.length = ns.length ↔ ns.Nodup := by
  constructor
  · intro e
    by_cases hn : ns.Nodup
    · exact hn
    · obtain ⟨x, h1, h2⟩ := twice hn
      have q := sub_len (ns := ns.erase x) nd fun y hy => by
        by_cases e2 : y = x
        · rw [e2]
          exact h2
        · exact (List.mem_erase_of_ne e2).mpr ((h y).mpr hy)
      rw [List.length_erase_of_mem h1] at q
      have : 0 < ns.length := List.length_pos_of_mem h1
      omega
  · intro hn
    have q1 := sub_len nd fun y hy => (h y).mpr hy
    have q2 := sub_len hn fun y hy => (h y).mp hy
    omega
def tLenSet (K : PySem.W.Frag) (ta : TE) : TE := fun σ H Q => ta σ H fun x H1 => ∃ (l : Addr) (ns : List Int), x = .ref l ∧ SqT K H1 l (ns.map V.int) ∧ ns.length ≤ 4000 ∧ ∀ c : Nat, (c = ns.length ↔ ns.Nodup) → Q (.int c) H1
theorem pe_lenSetT {X : Cx} {a : Expr} {ta : TE} {p p2 q pos : Pos} (hg : Gl X "len") (hm : X.mg "len" = none) (hg2 : Gl X "set") (hm2 : X.mg "set" = none) (ha : PE X a ta) (hc : X.calm = true := by rfl)
    (na : starEach [a] X.env = (false, eval a X.env) :: starEach [] X.env := by rfl) : PE X (.Call (.Name "len" p) [.Call (.Name "set" p2) [a] [] q] [] pos) (tLenSet X.K ta) := by
  refine ⟨fun pins s σ H Q I want => Call_ (ld_blt I hg hm PySem.boot_len (PyProof.Rows.callWith_builtin1 (PyProof.Rows.args_cons (Call_ (ld_blt I hg2 hm2 PyProof.Rows.boot_set (PyProof.Rows.callWith_type1 (PyProof.Rows.args_cons (thn (ha.run pins s σ H _ I want) fun v s1 got => PyProof.Rows.args_nil ?_) na) na rfl))) rfl) rfl rfl))⟩
  obtain ⟨x, H1, J, r1, l, ns, ex, hq, hl, q1⟩ := got
  subst ex
  obtain rfl : v = Value.ref l := r1
  obtain ⟨its, rel, tup, _⟩ := J.tuple hq
  refine call_set_tupI ns (J.ok.hd hc) tup (by simpa using rel.ints) (by unfold scanBound; omega) fun h' tk c hS hcl kp => PyProof.Rows.args_nil ?_
  obtain ⟨o, es, ep, t, ho, hex, hd, _, nd, mem, _, hf, hn, _⟩ := hS
  have J2 : Inv X pins σ H1 { s1 with heap := h', toks := tk } := J.kept kp
  have len : (es.toList.map keyOf).length = c := by rw [List.length_map, Array.length_toList, hn]
  have key : c = ns.length ↔ ns.Nodup := by
    rw [← len]
    refine many_iff nd fun y => ?_
    rw [← mem y, decide_eq_true_iff]
  exact call_len_set ho hex hd hf (by omega) ⟨.int c, H1, J2.tok _, ⟨_, by rw [hn]⟩, q1 c key⟩
/-! ### len(set(l)) of a list of ints, any of them twice -/
theorem firstMet_nd (val : Nat → Int) : ∀ i, (PyProof.Rows.firstMet val i).Nodup
  | 0 => by rw [PyProof.Rows.firstMet_zero]; exact List.nodup_nil
  | i + 1 => by
    have ih := firstMet_nd val i
    rw [PyProof.Rows.firstMet_succ]
    unfold PyProof.Rows.step_dedup
    split
    · exact ih
    · rename_i h
      rw [List.nodup_append]
      refine ⟨ih, by simp, fun a ha b hb e => h ?_⟩
      rw [List.any_eq_true]
      exact ⟨a, ha, by rw [e, List.mem_singleton.mp hb]; simp⟩
theorem firstMet_mem (ns : List Int) (x : Int) : x ∈ ns ↔ x ∈ PyProof.Rows.firstMet (fun i => ns.getD i 0) ns.length := by
  have h := PyProof.Rows.firstMet_any (fun i => ns.getD i 0) ns.length x
  have e : (List.range ns.length).map (fun i => ns.getD i 0) = ns := by
    apply List.ext_getElem?
    intro i
    rw [List.getElem?_map]
    by_cases hi : i < ns.length
    · rw [List.getElem?_range hi]
      show some (ns.getD i 0) = ns[i]?
      rw [List.getD_eq_getElem?_getD, List.getElem?_eq_getElem hi]
      rfl
    · rw [List.getElem?_eq_none_iff.mpr (by rw [List.length_range]; omega), List.getElem?_eq_none_iff.mpr (by omega)]
      rfl
  rw [e] at h
  have mm : ∀ l : List Int, l.any (· == x) = true ↔ x ∈ l := fun l => by
    rw [List.any_eq_true]
    constructor
    · rintro ⟨y, hy, e⟩
      rw [beq_iff_eq] at e
      rw [← e]; exact hy
    · exact fun hx => ⟨x, hx, by simp⟩
  rw [← mm, ← mm, h]
def tLenSetL (K : PySem.W.Frag) (ta : TE) : TE := fun σ H Q => ta σ H fun x H1 => ∃ (l : Addr) (ns : List Int), x = .ref l ∧ SqL K H1 l (ns.map V.int) ∧ ns.length ≤ 4000 ∧ ∀ c : Nat, (c = ns.length ↔ ns.Nodup) → Q (.int c) H1
theorem intsAre_vals66 : ∀ {ns : List Int} {us : List Value}, Vals (ns.map V.int) us → PyProof.Rows.IntsAre us ns
  | [], _, .nil => .nil
  | n :: ns, _, .cons r t => by
    obtain ⟨k, rfl⟩ := r
    exact .cons n k (intsAre_vals66 t)
theorem pe_lenSetL {X : Cx} {a : Expr} {ta : TE} {p p2 q pos : Pos} (hg : Gl X "len") (hm : X.mg "len" = none) (hg2 : Gl X "set") (hm2 : X.mg "set" = none) (ha : PE X a ta) (hc : X.calm = true := by rfl)
    (na : starEach [a] X.env = (false, eval a X.env) :: starEach [] X.env := by rfl) : PE X (.Call (.Name "len" p) [.Call (.Name "set" p2) [a] [] q] [] pos) (tLenSetL X.K ta) := by
  refine ⟨fun pins s σ H Q I h => ?_⟩
  refine Call_ (ld_blt I hg hm PySem.boot_len ?_)
  refine PyProof.Rows.callWith_builtin1 (PyProof.Rows.args_cons ?_ rfl) rfl rfl
  refine Call_ (ld_blt I hg2 hm2 PyProof.Rows.boot_set ?_)
  refine PyProof.Rows.callWith_type1 (PyProof.Rows.args_cons (thn (ha.run pins s σ H _ I h) fun v s1 ⟨x, H1, I1, r1, q1⟩ => PyProof.Rows.args_nil ?_) na) na rfl
  obtain ⟨l, ns, rfl, hq, hl, q1⟩ := q1
  cases r1
  obtain ⟨its, r, pl, hz⟩ := I1.list hq
  have hlen : its.toArray.size = ns.length := by rw [List.size_toArray, ← r.length, List.length_map]
  refine call_set_list (I1.ok.hd hc) pl.isList (by simpa using intsAre_vals66 r) (by rw [hlen]; unfold scanBound; omega) fun h' tk hS hk => ?_
  refine PyProof.Rows.args_nil ?_
  rw [hlen] at hS
  have key := many_iff (ns := ns) (firstMet_nd (fun i => ns.getD i 0) ns.length) (firstMet_mem ns)
  have hle := PyProof.Rows.firstMet_length_le (fun i => ns.getD i 0) ns.length
  generalize (PyProof.Rows.firstMet (fun i => ns.getD i 0) ns.length).length = c at hS key hle
  obtain ⟨o, es, ep, t, ho, hex, hd, _, _, _, hf, hn⟩ := hS
  have I2 : Inv X pins σ H1 { s1 with heap := h', toks := tk } := I1.kept fun b o e => hk b o (Heap.lt_size e) e
  exact call_len_set ho hex hd hf (by rw [hn]; omega) ⟨.int c, H1, I2.tok _, ⟨_, by rw [hn]⟩, q1 c key⟩
/-! ### d.update(e) -/
/-! ### a dict made by a comprehension, put into a name -/
section
variable {X : Cx}
theorem ps_setDc {i : Nat} {y : Str} {py : Pos} {kx vx tg iter : Expr} {ifs : List Expr} {scope : Scope} {own : List (Str × Nat)} {pos spos : Pos} {wi : TI} {g : TG} {tt : TT} {tk tv : TE} (hc : X.calm = true) (hN : X.N.Nodup) (hy : X.N[i]? = some y) (hyl : X.env.scope.names.lookup y = some .local)
    (hsw : swapsWith (.DictComp kx vx [⟨tg, iter, ifs, 0⟩] scope pos) (some (.Name y py)) spos.line X.env = pure true) (hi : PI X tg iter wi) (ok : BlkOk X.N X.env.scope scope own)
    (hg : ∀ (s : Shared) (H : Hp) (C : Addr) (cl : List (Str × Addr)) (fp : List Addr), PG (X.blk s H scope (compEnvC scope cl C X.env) fp) tg g) (ht : ∀ (s : Shared) (H : Hp) (C : Addr) (cl : List (Str × Addr)) (fp : List Addr), PTs (X.blk s H scope (compEnvC scope cl C X.env) fp) ifs tt)
    (hk : ∀ (s : Shared) (H : Hp) (C : Addr) (cl : List (Str × Addr)) (fp : List Addr), PE (X.blk s H scope (compEnvC scope cl C X.env) fp) kx tk)
    (he : ∀ (s : Shared) (H : Hp) (C : Addr) (cl : List (Str × Addr)) (fp : List Addr), PE (X.blk s H scope (compEnvC scope cl C X.env) fp) vx tv) (hs : ∀ x, foldedSetIterable iter X.env x = pure x := by intro _; rfl) :
    PS X (.Assign [.Name y py] (.DictComp kx vx [⟨tg, iter, ifs, 0⟩] scope pos) spos) (tAsg (tDc wi g tt tk tv (own.map (·.2))) (gName i)) := by
  refine ⟨fun pins s σ H D I h => ?_⟩
  rw [exec_Assign_Name_used _ _ _ _ hsw]
  refine wpAny_bind (wpAny_standAt (wpAny_bind ?_))
  show wpAny _ X.A (do let _ ← comprehension (.DictComp kx vx [⟨tg, iter, ifs, 0⟩] scope pos) scope X.env (firstIterPos [⟨tg, iter, ifs, 0⟩] pos) newDict false (eval iter X.env) (some (assign (.Name y py) X.env))) _ _ s
  have h : tDc wi g tt tk tv (own.map (·.2)) σ H (fun x H1 => gName i x σ H1 D.nx) := h
  refine wpAny_bind (thn (dc_core (Qf := fun _ s' => SP X pins D .next s') hc hN I hi ok hg ht hk he hs h fun L C s' m H' I' q hn f => ?_) fun _ s' hq => wpAny_pure (wpAny_pure hq))
  show wpAny _ _ (assign (.Name y py) X.env (.ref L)) _ _ _
  refine wpAny_assign_Name (store_ok2 (v := V.ref L) I' hN hy (.inl hyl) rfl (fun s2 I2 ⟨a, sb, ha⟩ => ?_) (.inr hyl))
  obtain ⟨f0, f1, f2, f3, f4, f5⟩ := f
  have haC : C ≠ a := by
    rcases ha with z | z
    · rw [z]; exact f1
    · exact fun e => f4 y a z e.symm
  refine ⟨m, hn.sameBut sb haC, fun h3 sb3 => ?_⟩
  exact ⟨_, H', I2.turned (t' := s2.toks) (fun b o hb e => (sb3.2 b hb).trans e) f0 f1 f3 f4 f5, q⟩
theorem sw_trueD {kx vx : Expr} {gs : List Comprehension} {scope : Scope} {pos py : Pos} {y : Str} {l : Nat} {env : Env} (hk : env.scope.kind = .function) (hy : env.scope.names.lookup y = some .local) (hl : (py.line == pos.line) = true)
    (ha : (scope.names.any fun (n, k) => n == y && (k == .local || k == .cell)) = false) : swapsWith (.DictComp kx vx gs scope pos) (some (.Name y py)) l env = pure true := by
  have ky : env.kindOf y = some .local := hy
  have hb : env.blockKind = .function := by unfold Env.blockKind; rw [hk]; rfl
  unfold swapsWith
  simp only [hb, ky, ha, Expr.pos, hl]
  rfl
end
/-! ### the small checker of papers that none do -/
/-- each place has one that stands for its friends -/
def Stnd (n : Nat) (ts : List Tie) (g : Int → Int) : Prop := ∀ x y : Int, (0 ≤ x ∧ x < (n : Int)) → (0 ≤ y ∧ y < (n : Int)) → (g x = g y ↔ FR ts x y)
/-- the foe ties as pairs -/
def fps (ts : List Tie) : List (Int × Int) := (ts.filter (·.foe)).map fun t => (t.one, t.other)
theorem fps_mem {ts : List Tie} {a b : Int} : (a, b) ∈ fps ts ↔ ∃ t ∈ ts, t.foe = true ∧ t.one = a ∧ t.other = b := by
  unfold fps
  rw [List.mem_map]
  constructor
  · rintro ⟨t, ht, e⟩
    obtain ⟨h1, h2⟩ := List.mem_filter.mp ht
    injection e with e1 e2
    exact ⟨t, h1, h2, e1, e2⟩
  · rintro ⟨t, h1, h2, e1, e2⟩
    exact ⟨t, List.mem_filter.mpr ⟨h1, h2⟩, by rw [e1, e2]⟩
theorem fps_friend (ts : List Tie) (a b : Int) : fps (ts ++ [frT a b]) = fps ts := by
  unfold fps
  rw [List.filter_append, List.filter_cons_of_neg (show ¬ (frT a b).foe = true by unfold frT; simp)]
  simp
theorem fps_foe (ts : List Tie) (a b : Int) : fps (ts ++ [foT a b]) = fps ts ++ [(a, b)] := by
  unfold fps
  rw [List.filter_append, List.filter_cons_of_pos (show (foT a b).foe = true from rfl)]
  simp [foT]
theorem fps_len (ts : List Tie) : (fps ts).length ≤ ts.length := by
  unfold fps
  rw [List.length_map]
  exact List.length_filter_le _ _
theorem Stnd.hd {n : Nat} {ts : List Tie} (ok : ∀ t ∈ ts, TieOk n t) : Stnd n ts (hd ts) := fun x y hx hy => hd_iff ok hx hy
theorem Stnd.foe {n : Nat} {ts : List Tie} {g : Int → Int} (h : Stnd n ts g) (a b : Int) : Stnd n (ts ++ [foT a b]) g := fun x y hx hy => (h x y hx hy).trans fr_foe.symm
theorem Stnd.friend {n : Nat} {ts : List Tie} {g : Int → Int} (h : Stnd n ts g) {a b : Int} (ha : 0 ≤ a ∧ a < (n : Int)) (hb : 0 ≤ b ∧ b < (n : Int)) : Stnd n (ts ++ [frT a b]) (fun x => if g x = g b then g a else g x) := fun x y hx hy => by
  have iff : FR (ts ++ [frT a b]) x y ↔ FR ts x y ∨ (FR ts x a ∧ FR ts b y) ∨ (FR ts x b ∧ FR ts a y) := by
    constructor
    · intro z
      unfold FR at z
      rw [frs_fr] at z
      exact rch_snoc65 z
    · have up : ∀ {u v : Int}, FR ts u v → FR (ts ++ [frT a b]) u v := fun r => by
        unfold FR
        rw [frs_fr]
        exact Rch.mono65 (fun t ht => List.mem_append_left _ ht) r
      have ab : FR (ts ++ [frT a b]) a b := fr_friend
      rintro (z | ⟨z1, z2⟩ | ⟨z1, z2⟩)
      · exact up z
      · exact ((up z1).trans ab).trans (up z2)
      · exact ((up z1).trans ab.symm).trans (up z2)
  rw [iff]
  have i1 := h x y hx hy
  have i2 := h x a hx ha
  have i3 := h x b hx hb
  have i4 := h a y ha hy
  have i5 := h b y hb hy
  rw [← i1, ← i2, ← i3, ← i4, ← i5]
  show (if g x = g b then g a else g x) = (if g y = g b then g a else g y) ↔ _
  by_cases e1 : g x = g b
  · by_cases e2 : g y = g b
    · rw [if_pos e1, if_pos e2]
      exact ⟨fun _ => .inl (e1.trans e2.symm), fun _ => rfl⟩
    · rw [if_pos e1, if_neg e2]
      constructor
      · exact fun e => .inr (.inr ⟨e1, e⟩)
      · rintro (z | ⟨z1, z2⟩ | ⟨z1, z2⟩)
        · exact absurd (z.symm.trans e1) e2
        · exact absurd z2.symm e2
        · exact z2
  · by_cases e2 : g y = g b
    · rw [if_neg e1, if_pos e2]
      constructor
      · exact fun e => .inr (.inl ⟨e, e2.symm⟩)
      · rintro (z | ⟨z1, z2⟩ | ⟨z1, z2⟩)
        · exact absurd (z.trans e2) e1
        · exact z1
        · exact absurd z1 e1
    · rw [if_neg e1, if_neg e2]
      constructor
      · exact .inl
      · rintro (z | ⟨z1, z2⟩ | ⟨z1, z2⟩)
        · exact z
        · exact absurd z2.symm e2
        · exact absurd z1 e1
/-- what the foe ties lead to, by those that stand for the places -/
theorem met_led {n : Nat} {ts : List Tie} {g : Int → Int} (ok : ∀ t ∈ ts, TieOk n t) (h : Stnd n ts g) {x y : Int} (hx : 0 ≤ x ∧ x < (n : Int)) (hy : 0 ≤ y ∧ y < (n : Int)) : Met ts x y ↔ ∃ r ∈ fps ts, (g x, g y) = (g r.1, g r.2) ∨ (g x, g y) = (g r.2, g r.1) := by
  constructor
  · rintro ⟨t, ht, hf, q⟩
    have o := ok t ht
    refine ⟨(t.one, t.other), fps_mem.mpr ⟨t, ht, hf, rfl, rfl⟩, q.imp (fun z => ?_) (fun z => ?_)⟩
    · show (g x, g y) = (g t.one, g t.other)
      rw [(h x _ hx ⟨o.1, o.2.1⟩).mpr z.1, (h y _ hy ⟨o.2.2.1, o.2.2.2.1⟩).mpr z.2]
    · show (g x, g y) = (g t.other, g t.one)
      rw [(h y _ hy ⟨o.1, o.2.1⟩).mpr z.1, (h x _ hx ⟨o.2.2.1, o.2.2.2.1⟩).mpr z.2]
  · rintro ⟨⟨a, b⟩, hr, q⟩
    obtain ⟨t, ht, hf, rfl, rfl⟩ := fps_mem.mp hr
    have o := ok t ht
    refine ⟨t, ht, hf, q.imp (fun z => ?_) (fun z => ?_)⟩
    · injection z with z1 z2
      exact ⟨(h x _ hx ⟨o.1, o.2.1⟩).mp z1, (h y _ hy ⟨o.2.2.1, o.2.2.2.1⟩).mp z2⟩
    · injection z with z1 z2
      exact ⟨(h y _ hy ⟨o.1, o.2.1⟩).mp z2, (h x _ hx ⟨o.2.2.1, o.2.2.2.1⟩).mp z1⟩
theorem heads_len {H : Hp} {D : Addr} {n : Nat} {g : Int → Int} (h : HeadsAt H D n g) : ∃ kvs, H D = some (.dK kvs) ∧ kvs.length = n := by
  obtain ⟨ks, h1, nd, mem⟩ := h
  refine ⟨_, h1, ?_⟩
  rw [kF_len]
  have a := sub_len65 (ks := ks) (ns := rng n) nd fun x hx => mem_rng.mpr ((mem x).mp hx)
  have b := sub_len65 (ks := rng n) (ns := ks) (rise_nd (rng_rising n)) fun x hx => (mem x).mpr (mem_rng.mp hx)
  rw [rng_length] at a b
  omega
theorem PrL.kt {Ps : List Addr} {H H' : Hp} {L : Addr} {ps : List (Int × Int)} (h : PrL H L ps) (k : Kt Ps H H') (t : Tabs Ps H) : PrL H' L ps := by
  obtain ⟨bs, h1, h2⟩ := h
  exact ⟨bs, k.lst t h1, Paired.mono (fun _ _ q => k.tup t q) h2⟩
theorem isT_kt {Ps : List Addr} {H H' : Hp} (k : Kt Ps H H') (t : Tabs Ps H) {v : V} (h : Kn H v) : isT H' v = isT H v := by
  cases v with
  | ref a =>
    unfold isT
    rcases h with ⟨xs, h⟩ | ⟨xs, h⟩ | ⟨xs, h⟩
    · simp only [h, k.lst t h]
    · simp only [h, k.tup t h]
    · simp only [h, k.dct65 t h]
  | _ => rfl
theorem CrV.kt {Ps : List Addr} {H H' : Hp} (k : Kt Ps H H') (t : Tabs Ps H) {c : V} : ∀ {o : Option (List V)}, CrV H c o → CrV H' c o
  | none, ⟨h1, h2⟩ => ⟨k.kn t h1, by rw [isT_kt k t h1]; exact h2⟩
  | some _, ⟨a, e, h1, h2, h3⟩ => ⟨a, e, k.tup t h1, fun x hx => k.kn t (h2 x hx), h3⟩
theorem BadV.kt {Ps : List Addr} {H H' : Hp} (k : Kt Ps H H') (t : Tabs Ps H) {v : V} (h : BadV H v) : BadV H' v := by
  rcases h with ⟨h1, h2⟩ | ⟨a, xs, e, h1, h2⟩
  · exact .inl ⟨k.kn t h1, by rw [isT_kt k t h1]; exact h2⟩
  · refine .inr ⟨a, xs, e, k.tup t h1, h2.imp id ?_⟩
    rintro ⟨w, rest, e, kw, n⟩
    exact ⟨w, rest, e, k.kn t kw, n⟩
theorem QTV.kt {Ps : List Addr} {H H' : Hp} (k : Kt Ps H H') (t : Tabs Ps H) : ∀ {q : QT} {v : V}, QTV H v q → QTV H' v q
  | .bad, v, h => BadV.kt k t h
  | .crowd o, v, ⟨a, c, e, h1, h2⟩ => ⟨a, c, e, k.tup t h1, h2.kt k t⟩
  | .clash a b, v, ⟨c, e, h, h1, h2⟩ => ⟨c, e, k.tup t h, k.kn t h1, k.kn t h2⟩
  | .case a b q u, v, ⟨c, x, y, e, h, ha, hb, h1, h2⟩ => ⟨c, x, y, e, k.tup t h, k.kn t ha, k.kn t hb, QTV.kt k t h1, QTV.kt k t h2⟩
theorem QTV.kn {H : Hp} : ∀ {q : QT} {v : V}, QTV H v q → Kn H v
  | .bad, v, h => by
    rcases h with ⟨h1, _⟩ | ⟨a, xs, rfl, h1, _⟩
    · exact h1
    · exact .inr (.inl ⟨xs, h1⟩)
  | .crowd o, v, ⟨a, c, e, h1, h2⟩ => by subst e; exact .inr (.inl ⟨_, h1⟩)
  | .clash a b, v, ⟨c, e, h, h1⟩ => by subst e; exact .inr (.inl ⟨_, h⟩)
  | .case a b q u, v, ⟨c, x, y, e, h, ha, hb, h1, h2⟩ => by subst e; exact .inr (.inl ⟨_, h⟩)
theorem chain_iff66 : ∀ ks : List Int, chainB (ks.map V.int) = true ↔ ks.Pairwise (· < ·)
  | [] => by simp [chainB]
  | [k] => by simp [chainB]
  | k :: l :: ks => by
    have ih := chain_iff66 (l :: ks)
    have e : chainB ((k :: l :: ks).map V.int) = (decide (k < l) && chainB ((l :: ks).map V.int)) := rfl
    rw [e, Bool.and_eq_true, ih, decide_eq_true_iff, List.pairwise_cons (a := k)]
    constructor
    · rintro ⟨h1, h2⟩
      refine ⟨fun y hy => ?_, h2⟩
      rcases List.mem_cons.mp hy with rfl | hy
      · exact h1
      · have := (List.pairwise_cons.mp h2).1 y hy
        omega
    · rintro ⟨h1, h2⟩
      exact ⟨h1 l (by simp), h2⟩
theorem all_below66 {n : Int} : ∀ {vs : List V}, vs.all (wbelow n) = true → ∃ xs : List Int, vs = xs.map V.int ∧ ∀ x ∈ xs, 0 ≤ x ∧ x < n
  | [], _ => ⟨[], rfl, fun x hx => by cases hx⟩
  | v :: vs, h => by
    rw [List.all_cons, Bool.and_eq_true] at h
    obtain ⟨i, rfl, hi⟩ := wbelow_is h.1
    obtain ⟨xs, rfl, hx⟩ := all_below66 h.2
    exact ⟨i :: xs, rfl, fun x hx' => by
      rcases List.mem_cons.mp hx' with rfl | hx'
      · exact hi
      · exact hx x hx'⟩
theorem below_all66 {n : Int} {xs : List Int} (h : ∀ x ∈ xs, 0 ≤ x ∧ x < n) : (xs.map V.int).all (wbelow n) = true := by
  rw [List.all_eq_true]
  intro v hv
  obtain ⟨x, hx, rfl⟩ := List.mem_map.mp hv
  show (decide (0 ≤ x) && decide (x < n)) = true
  rw [decide_eq_true (h x hx).1, decide_eq_true (h x hx).2]
  rfl
def spCrowdH (Ps : List Addr) : Sp := fun vs H Q _ => ∃ (k : Int) (D L : Addr) (c : V) (n : Nat) (ts : List Tie) (g : Int → Int) (o : Option (List V)), vs = [.int k, .ref D, .ref L, c] ∧ HeadsAt H D n g ∧ Stnd n ts g ∧ PrL H L (fps ts) ∧ (1 ≤ n ∧ n ≤ 40) ∧ (∀ t ∈ ts, TieOk n t) ∧ ts.length ≤ 300 ∧ CrV H c o ∧ Tabs Ps H ∧ ∀ H', Kt Ps H H' → Q (.bl (crQ k n ts o)) H'
def spClashH : Sp := fun vs H Q _ => ∃ (D L : Addr) (a b : V) (n : Nat) (ts : List Tie) (g : Int → Int), vs = [.ref D, .ref L, a, b] ∧ HeadsAt H D n g ∧ Stnd n ts g ∧ PrL H L (fps ts) ∧ (∀ t ∈ ts, TieOk n t) ∧ ts.length ≤ 300 ∧ Kn H a ∧ Kn H b ∧ ∀ H', Same H H' → Q (.bl (clQ n ts a b)) H'
section
variable {P : Program} {w : World} {K : PySem.W.Frag} {mg : Str → Option Value} {base : Heap}
set_option maxHeartbeats 4000000 in
theorem ok_crowd_holds {f c Pt : Addr} {fd : FuncData} {Ps : List Addr} (F : FunC K "crowd_holds" "crowd_holds" s_crowd_holds f fd c) (TB : GxR.TabB base mg c Pt) (hPt : Pt ∈ Ps) (M : Free mg) (m_all : mg "all" = none) (m_set : mg "set" = none) (D_are_rising_below : Df P w K mg base 4 "are_rising_below" ["limit", "thing"] (spRising Ps)) : FnOk P w K mg base CX0 6 f fd ["k", "heads", "foes", "thing"] (spCrowdH Ps) := by
  obtain ⟨f_are_rising_below, fd_are_rising_below, G_are_rising_below, g_are_rising_below, k_are_rising_below, b_are_rising_below⟩ := D_are_rising_below
  refine F.ok sc_crowd_holds (fun vs H Q E h => ?_) (fun A outer s H vs Q E hr h => ?_)
  · obtain ⟨k, D, L, cv, n, ts, g, o, rfl, _⟩ := h
    rfl
  · obtain ⟨k, D, L, cv, n, ts, g, o, rfl, hh, st, hF, n40, ok, few, hc, hT, q⟩ := h
    have hu := room1 hr
    refine ⟨_, (pss_cons (ps_if (PW.pt (pw_or (pt_not (pt_val (pe_call G_are_rising_below (hr.mono (by decide)) (by rfl) g_are_rising_below k_are_rising_below b_are_rising_below .nil pass0 (pa_cons (pe_callB call_lenD (by rfl) M.len PySem.boot_len (pa_cons (pv 1) pa_nil)) (pa_cons (pv 3) pa_nil))))) (pw_or1 (pt_cmpR op_ne (pe_callB call_len_seq (by rfl) M.len PySem.boot_len (pa_cons (pv 3) pa_nil)) (pe_op op_add (pv 0) pe_int) (nomark _)))))
        (pss_one (ps_ret pe_bl))
        pss_nil)
      (pss_cons (ps_set (i := 4) sc_crowd_holds.nd rfl (.inr rfl) pe_dnewT)
      (Evl.pss_cut (ps_for PassesOwn.never rfl (pi_list (pv 2)) (pg_tup rfl (pgs_cons (pg_name (i := 5) sc_crowd_holds.nd rfl (.inl rfl)) (pgs_cons (pg_name (i := 6) sc_crowd_holds.nd rfl (.inl rfl)) pgs_nil)))
        (pss_cons (ps_dput hu (pv 4) (pe_tup (pa_cons (pe_dget hu (pv 1) (pv 5) (fun _ _ => rfl)) (pa_cons (pe_dget hu (pv 1) (pv 6) (fun _ _ => rfl)) pa_nil))) pe_bl rfl)
        (pss_one (ps_dput hu (pv 4) (pe_tup (pa_cons (pe_dget hu (pv 1) (pv 6) (fun _ _ => rfl)) (pa_cons (pe_dget hu (pv 1) (pv 5) (fun _ _ => rfl)) pa_nil))) pe_bl rfl))))
      (Evl.pss_cut (ps_set (i := 7) sc_crowd_holds.nd rfl (.inr rfl) (pe_lc (own := [("place", 8)]) (g := (gName 8)) (tt := tYes) rfl sc_crowd_holds.nd (pi_tup (pv 3)) (blkOk_by (N := N_crowd_holds) (sc := defScope s_crowd_holds) (own := [("place", 8)]) (by decide +kernel)) (fun _ _ _ _ _ => (pg_name (i := 8) sc_crowd_holds.nd rfl (.inl rfl))) (fun _ _ _ _ _ => pts_nil) (fun _ _ _ _ _ => (pe_dget hu (pv 1) (pv 8) (fun _ _ => rfl)))))
      (pss_cons (ps_if (pt_cmpR op_ne (pe_lenSetL (by rfl) M.len (by rfl) m_set (pv 7)) (pe_callB call_len_seq (by rfl) M.len PySem.boot_len (pa_cons (pv 7) pa_nil)) (nomark _))
        (pss_one (ps_ret pe_bl))
        pss_nil)
      (pss_one (ps_ret (pe_all2 (k := 4) (own := [("one", 5), ("other", 6)]) (vs1 := [6]) (g := gName 5) (g1 := gName 6) (wi1 := iList K (tVar 7)) (tt1 := tTest (tOp rNe (tVar 5) (tVar 6))) hr TB rfl rfl sc_crowd_holds.nd (by rfl) m_all (pi_list (pv 7)) (blkOk_by (N := N_crowd_holds) (sc := defScope s_crowd_holds) (own := [("one", 5), ("other", 6)]) (by decide +kernel)) ⟨rfl, by decide +kernel, by decide +kernel⟩ (show (".0" : Str) ∉ N_crowd_holds by decide +kernel) (fun _ _ _ _ _ _ _ => (pg_name (i := 5) sc_crowd_holds.nd rfl (.inl rfl)))
        (fun _ _ _ _ _ _ _ hr' => (pe_cmp (pc_din (room1 hr') (pe_tup (pa_cons (pv 5) (pa_cons (pv 6) pa_nil))) (pv 4)))) (by decide) (fun _ _ _ _ _ _ _ _ => pi_list (pv 7)) (fun _ _ _ _ _ _ _ => (pg_name (i := 6) sc_crowd_holds.nd rfl (.inl rfl))) (fun _ _ _ _ _ _ _ _ => pts_one (pt_cmpR op_ne (pv 5) (pv 6) (nomark _))))))))))), ?_⟩
    obtain ⟨bs, hL, hbs⟩ := id hF
    have lbs := Paired.length hbs
    have lfp := fps_len ts
    obtain ⟨kvs, hD, lkv⟩ := heads_len hh
    have q' : ¬ CrQ k n ts o → ∀ H', Kt Ps H H' → Q (.bl false) H' := fun z H' kt => by
      have := q H' kt
      rw [crQ_f z] at this
      exact this
    have row : RowK H cv := by
      cases o with
      | none =>
        refine ⟨hc.1, fun xs e => ?_⟩
        rw [parts_none hc.2] at e
        cases e
      | some vs =>
        obtain ⟨a, rfl, ha, h1, h2⟩ := hc
        refine ⟨.inr (.inl ⟨_, ha⟩), fun xs e => ?_⟩
        rw [parts_of' ha] at e
        cases e
        exact ⟨fun x hx => h1 x hx, by omega⟩
    refine ⟨.ref D, rfl, D, _, rfl, hD, cv, rfl, ((kvs.length : Nat) : Int), cv, rfl, row, hT, fun H1 k1 => ⟨_, rfl, ?_⟩⟩
    rw [lkv]
    have T1 := k1.tab
    -- what the row is where it rises
    cases o with
    | none =>
      have e : riseB H n cv = false := by
        unfold riseB
        rw [parts_none hc.2]
      rw [e]
      exact q' (fun z => z) _ k1
    | some vs =>
    obtain ⟨a, rfl, ha, atoms, l9⟩ := hc
    have eR : riseB H n (.ref a) = (vs.all (wbelow n) && chainB vs) := by
      unfold riseB
      rw [parts_of' ha]
    rw [eR]
    cases hb1 : vs.all (wbelow n) && chainB vs with
    | false =>
      refine q' (fun ⟨xs, e, cr⟩ => ?_) _ k1
      subst e
      rw [below_all66 cr.rg, (chain_iff66 xs).mpr cr.rise] at hb1
      cases hb1
    | true =>
    rw [Bool.and_eq_true] at hb1
    obtain ⟨xs, rfl, rg⟩ := all_below66 hb1.1
    have rise := (chain_iff66 xs).mp hb1.2
    have ha1 := k1.tup hT ha
    refine ⟨.ref a, rfl, a, _, rfl, .inr (SqT.of ha1), .int k, rfl, k, 1, rfl, rfl, rfl, _, rfl, ?_⟩
    rw [List.length_map]
    by_cases el : ((xs.length : Nat) : Int) = k + 1
    · rw [show decide (V.int (xs.length : Nat) = V.int (k + 1)) = true from decide_eq_true (by rw [el])]
      intro T nT
      have sT := same_new (o := .dT []) nT
      have hTT : (upd H1 T (.dT [])) T = some (.dT []) := upd_same
      generalize upd H1 T (.dT []) = H2 at sT hTT
      have k2 := k1.trans (Kt.same T1 sT)
      have hh2 := (HeadsAt.kt hh k2 hT)
      have hL2 := k2.lst hT hL
      have hbs2 : Paired (fun b p => H2 b = some (.tup [.int p.1, .int p.2])) bs (fps ts) := Paired.mono (fun _ _ e => k2.tup hT e) hbs
      have ha2 := k2.tup hT ha
      have prg : ∀ r ∈ fps ts, (0 ≤ r.1 ∧ r.1 < (n : Int)) ∧ (0 ≤ r.2 ∧ r.2 < (n : Int)) := fun r hr => by
        obtain ⟨t, ht, _, e1, e2⟩ := fps_mem.mp (show (r.1, r.2) ∈ fps ts from hr)
        have o := ok t ht
        rw [← e1, ← e2]
        exact ⟨⟨o.1, o.2.1⟩, ⟨o.2.2.1, o.2.2.2.1⟩⟩
      refine ⟨fun σ' H' => ∃ (y5 y6 : Option V) (qs : List (Int × Int)), σ' = [some (.int k), some (.ref D), some (.ref L), some (.ref a), some (.ref T), y5, y6, none, none] ∧ H' T = some (.dT (kP qs)) ∧ (∀ p : Int × Int, p ∈ qs ↔ ∃ r ∈ fps ts, p = (g r.1, g r.2) ∨ p = (g r.2, g r.1)) ∧ Same H1 H', ?_, ?_⟩
      · refine ⟨.ref L, rfl, L, rfl, ⟨_, SqL.of hL2⟩, ?_⟩
        refine for_it (walk_list (xs := bs.map V.ref)) (fun i σ' H' => ∃ (y5 y6 : Option V) (qs : List (Int × Int)), σ' = [some (.int k), some (.ref D), some (.ref L), some (.ref a), some (.ref T), y5, y6, none, none] ∧ H' T = some (.dT (kP qs)) ∧ qs.length ≤ 2 * i ∧ (∀ p : Int × Int, p ∈ qs ↔ ∃ r ∈ (fps ts).take i, p = (g r.1, g r.2) ∨ p = (g r.2, g r.1)) ∧ Same H1 H') ⟨none, none, [], rfl, hTT, Nat.le_refl _, fun p => ⟨fun z => (by cases z), fun ⟨r, hr, _⟩ => (by simp at hr)⟩, sT⟩ (fun i σ' H' _ h => by
          obtain ⟨_, _, _, _, _, _, _, s⟩ := h
          exact SqL.of ((s _ _ (k1.lst hT hL)))) ?_ ?_
        · rintro i x σ' H3 H4 hi ⟨y5, y6, qs, rfl, hT3, lq, mq, s3⟩ ⟨rfl, ex⟩
          rw [List.getElem?_map] at ex
          obtain ⟨b, eb, rfl⟩ := Option.map_eq_some_iff.mp ex
          obtain ⟨r, er, hb⟩ := Paired.at hbs eb
          obtain ⟨x1, x2⟩ := r
          have rr := prg _ (List.mem_of_getElem? er)
          have hb3 := s3 _ _ (k1.tup hT hb)
          have hi2 := (List.getElem?_eq_some_iff.mp er).1
          have etk : (fps ts).take (i + 1) = (fps ts).take i ++ [(x1, x2)] := take_snoc er
          have hh3 := (HeadsAt.kt hh k1 hT).same s3
          refine ⟨b, _, rfl, SqT.of hb3, rfl, _, _, rfl, _, _, rfl, rfl, ?_⟩
          refine ⟨.ref T, rfl, .ref D, rfl, .int x1, rfl, D, .int (g x1), rfl, hh3.get rr.1, .ref D, rfl, .int x2, rfl, D, .int (g x2), rfl, hh3.get rr.2, by show 2 ≤ sizeLine; decide, fun c1 nc1 => ?_⟩
          have d1 := same_new (o := .tup [.int (g x1), .int (g x2)]) nc1
          refine ⟨T, _, rfl, DPut.t (k := [Sum.inl (g x1), Sum.inl (g x2)]) (d1 _ _ hT3) upd_same (by rw [kP_len]; exact small1000 (by omega)), ?_⟩
          rw [kP_put]
          have s5 : Same H1 (upd (upd H4 c1 (.tup [.int (g x1), .int (g x2)])) T (.dT (kP (insP qs (g x1, g x2))))) := Same.mut (s3.trans d1) nT
          have hT5 := upd_same (H := upd H4 c1 (.tup [.int (g x1), .int (g x2)])) (a := T) (o := .dT (kP (insP qs (g x1, g x2))))
          generalize upd (upd H4 c1 (.tup [.int (g x1), .int (g x2)])) T (.dT (kP (insP qs (g x1, g x2)))) = H5 at s5 hT5
          have hh5 := (HeadsAt.kt hh k1 hT).same s5
          refine ⟨.ref T, rfl, .ref D, rfl, .int x2, rfl, D, .int (g x2), rfl, hh5.get rr.2, .ref D, rfl, .int x1, rfl, D, .int (g x1), rfl, hh5.get rr.1, by show 2 ≤ sizeLine; decide, fun c2 nc2 => ?_⟩
          have d2 := same_new (o := .tup [.int (g x2), .int (g x1)]) nc2
          have l1 := insP_len (ps := qs) (p := (g x1, g x2))
          have l2 := insP_len (ps := insP qs (g x1, g x2)) (p := (g x2, g x1))
          refine ⟨T, _, rfl, DPut.t (k := [Sum.inl (g x2), Sum.inl (g x1)]) (d2 _ _ hT5) upd_same (by rw [kP_len]; exact small1000 (by omega)), ?_⟩
          rw [kP_put]
          refine ⟨_, _, _, rfl, upd_same, by omega, fun p => ?_, Same.mut (s5.trans d2) nT⟩
          rw [insP_mem, insP_mem, mq p, etk, or_assoc]
          constructor
          · rintro (⟨r, hr, z⟩ | z)
            · exact ⟨r, List.mem_append_left _ hr, z⟩
            · exact ⟨(x1, x2), by simp, z⟩
          · rintro ⟨r, hr, z⟩
            rcases List.mem_append.mp hr with h | h
            · exact .inl ⟨r, h, z⟩
            · rw [List.mem_singleton.mp h] at z
              exact .inr z
        · rintro σ' H3 ⟨y5, y6, qs, rfl, hT3, lq, mq, s3⟩
          rw [List.length_map, lbs, List.take_length] at mq
          exact ⟨_, _, qs, rfl, hT3, mq, s3⟩
      clear hTT hbs2 hL2 ha2 hh2 k2 sT
      rintro σ' H3 ⟨y5, y6, qs, rfl, hT3, mq, s3⟩
      have k3 := k1.trans (Kt.same T1 s3)
      have hh3 := HeadsAt.kt hh k3 hT
      have ha3 := k3.tup hT ha
      have lxs : xs.length ≤ 900 := by rw [List.length_map] at l9; exact l9
      -- those that stand for them
      refine ⟨fun σ' H' => ∃ (Z : Addr) (y8 : Option V), σ' = [some (.int k), some (.ref D), some (.ref L), some (.ref a), some (.ref T), y5, y6, some (.ref Z), y8] ∧ H' Z = some (.lst ((xs.map g).map V.int)) ∧ Same H3 H', ?_, ?_⟩
      · refine ⟨.ref a, rfl, a, rfl, ⟨_, SqT.of ha3⟩, fun Z nZ => ?_⟩
        refine lc_it (walk_tup (xs := xs.map V.int)) (fun j H' => H' Z = some (.lst (((xs.take j).map g).map V.int)) ∧ Same H3 H') ⟨upd_same, same_new nZ⟩ (fun j H' _ h => SqT.of (h.2 _ _ ha3)) ?_ ?_
        · rintro j y H4 H5 hj ⟨hZ, s4⟩ ⟨rfl, ey⟩
          rw [List.getElem?_map] at ey
          obtain ⟨x, ex, rfl⟩ := Option.map_eq_some_iff.mp ey
          have hx := rg x (List.mem_of_getElem? ex)
          refine ⟨rfl, .ref D, rfl, .int x, rfl, D, .int (g x), rfl, (hh3.same s4).get hx, _, hZ, by rw [List.length_map, List.length_map, List.length_take]; exact small1000 (by omega), ?_, Same.mut s4 nZ⟩
          rw [upd_same, take_snoc ex, List.map_append, List.map_append]
          rfl
        · rintro H4 ⟨hZ, s4⟩
          rw [List.length_map, List.take_length] at hZ
          exact ⟨Z, _, rfl, hZ, s4⟩
      rintro σ' H4 ⟨Z, y8, rfl, hZ, s4⟩
      have k4 := k3.trans (Kt.same k3.tab s4)
      have hT4 := s4 _ _ hT3
      have lg : (xs.map g).length = xs.length := List.length_map _
      refine ⟨.ref Z, rfl, Z, xs.map g, rfl, SqL.of hZ, by rw [lg]; omega, fun cc hcc => ⟨.ref Z, rfl, Z, _, rfl, .inl (SqL.of hZ), rfl, _, rfl, ?_⟩⟩
      rw [List.length_map, lg]
      rw [lg] at hcc
      by_cases ec : cc = xs.length
      · rw [show decide (V.int (cc : Nat) = V.int (xs.length : Nat)) = true from decide_eq_true (by rw [ec])]
        have nd := hcc.mp ec
        have crI : CrQ k n ts (some (xs.map V.int)) ↔ ∀ c1 ∈ xs.map g, ∀ c2 ∈ xs.map g, c1 ≠ c2 → (c1, c2) ∈ qs := by
          constructor
          · rintro ⟨xs', e, cr⟩ c1 h1 c2 h2 ne
            obtain rfl := map_int_inj e
            obtain ⟨x, hx, rfl⟩ := List.mem_map.mp h1
            obtain ⟨y, hy, rfl⟩ := List.mem_map.mp h2
            have : x ≠ y := fun z => ne (by rw [z])
            have m : Met ts x y := by
              have p := List.pairwise_iff_getElem.mp cr.met
              obtain ⟨i, li, ei⟩ := List.mem_iff_getElem.mp hx
              obtain ⟨j, lj, ej⟩ := List.mem_iff_getElem.mp hy
              rcases Nat.lt_trichotomy i j with h | h | h
              · have := (p i j li lj h).2
                rw [ei, ej] at this
                exact this
              · subst h
                exact absurd (ei.symm.trans ej) this
              · have := (p j i lj li h).2
                rw [ei, ej] at this
                exact this.symm
            exact (mq _).mpr ((met_led ok st (rg x hx) (rg y hy)).mp m)
          · intro h
            refine ⟨xs, rfl, rise, rg, el, ?_⟩
            refine List.Pairwise.imp_of_mem (fun {x y} hx hy lt => ?_) rise
            have ne : g x ≠ g y := fun e => by
              have p := List.pairwise_iff_getElem.mp nd
              obtain ⟨i, li, ei⟩ := List.mem_iff_getElem.mp hx
              obtain ⟨j, lj, ej⟩ := List.mem_iff_getElem.mp hy
              have ij : i ≠ j := fun z => by
                subst z
                have := ei.symm.trans ej
                omega
              have gi : (xs.map g)[i]'(by rw [lg]; exact li) = g x := by rw [List.getElem_map, ei]
              have gj : (xs.map g)[j]'(by rw [lg]; exact lj) = g y := by rw [List.getElem_map, ej]
              rcases Nat.lt_trichotomy i j with h | h | h
              · exact p i j (by rw [lg]; exact li) (by rw [lg]; exact lj) h (by rw [gi, gj, e])
              · exact ij h
              · exact p j i (by rw [lg]; exact lj) (by rw [lg]; exact li) h (by rw [gi, gj, e])
            exact ⟨fun z => ne ((st x y (rg x hx) (rg y hy)).mpr z), (met_led ok st (rg x hx) (rg y hy)).mpr ((mq _).mp (h _ (List.mem_map_of_mem hx) _ (List.mem_map_of_mem hy) ne))⟩
        have gt : ∀ {i : Nat} {x : Int}, xs[i]? = some x → ((xs.map g).map V.int)[i]? = some (.int (g x)) := fun e => by
          rw [List.getElem?_map, List.getElem?_map, e]; rfl
        have at66 : ∀ {i : Nat} {v : V}, ((xs.map g).map V.int)[i]? = some v → ∃ c, v = .int c ∧ (xs.map g)[i]? = some c := fun e => by
          rw [List.getElem?_map] at e
          obtain ⟨c, h1, h2⟩ := Option.map_eq_some_iff.mp e
          exact ⟨c, h2.symm, h1⟩
        have T4 := k4.tab
        refine ⟨.ref Z, rfl, Z, rfl, ⟨_, SqL.of hZ⟩, T4 Pt hPt, fun i m H' => m = (xs.length - i) * (xs.length + 1) ∧ i ≤ xs.length ∧ Kt Ps H4 H' ∧ (∀ (i' : Nat) (c1 c2 : Int), i' < i → (xs.map g)[i']? = some c1 → c2 ∈ xs.map g → c1 ≠ c2 → (c1, c2) ∈ qs), fun H7 hH7 => ⟨_, rfl, Nat.zero_le _, Kt.tabbed T4 hPt hH7, fun i' _ _ z => (by omega)⟩, fun i m H' hw => ?_⟩
        obtain ⟨rfl, hi, kt, done⟩ := hw
        have hZ' := kt.lst T4 hZ
        by_cases hj : i < xs.length
        · refine .inr ⟨⟨_, _, SqL.of hZ', List.getElem?_eq_getElem (by rw [List.length_map, lg]; exact hj)⟩, fun x H7 hy => ?_⟩
          obtain ⟨rfl, fy⟩ := hy
          obtain ⟨c1, rfl, e1⟩ := at66 (fy _ (SqL.of hZ'))
          refine ⟨rfl, .ref Z, rfl, Z, rfl, ⟨_, SqL.of hZ'⟩, fun j k' H' => k' = (xs.length - i - 1) * (xs.length + 1) + (xs.length - j) ∧ j ≤ xs.length ∧ Kt Ps H4 H' ∧ (∀ (j' : Nat) (c2 : Int), j' < j → (xs.map g)[j']? = some c2 → c1 ≠ c2 → (c1, c2) ∈ qs), ⟨_, ?_, rfl, Nat.zero_le _, kt, fun j' _ z => (by omega)⟩, fun j k' H' hw => ?_⟩
          · have : (xs.length - i) * (xs.length + 1) = (xs.length - i - 1) * (xs.length + 1) + (xs.length + 1) := by
              rw [← Nat.succ_mul]
              congr 1
              omega
            omega
          obtain ⟨rfl, hj2, kt2, done2⟩ := hw
          have hZ2 := kt2.lst T4 hZ
          by_cases hj3 : j < xs.length
          · refine .inr ⟨⟨_, _, SqL.of hZ2, List.getElem?_eq_getElem (by rw [List.length_map, lg]; exact hj3)⟩, fun H' => Kt Ps H4 H' ∧ (∀ (j' : Nat) (c2 : Int), j' < j + 1 → (xs.map g)[j']? = some c2 → c1 ≠ c2 → (c1, c2) ∈ qs), fun H' hn => ⟨_, ?_, rfl, by omega, hn.1, hn.2⟩, fun x H7 hy => ?_⟩
            · omega
            obtain ⟨rfl, fy⟩ := hy
            obtain ⟨c2, rfl, e2⟩ := at66 (fy _ (SqL.of hZ2))
            refine ⟨rfl, .int c1, rfl, .int c2, rfl, rfl, _, rfl, ?_⟩
            by_cases ne : c1 = c2
            · subst ne
              rw [show decide (V.int c1 = V.int c1) = true from decide_eq_true rfl]
              refine ⟨kt2, fun j' c2' hl e' ne' => ?_⟩
              by_cases e : j' = j
              · subst e
                rw [e2] at e'
                cases e'
                exact absurd rfl ne'
              · exact done2 j' c2' (by omega) e' ne'
            · rw [show decide (V.int c1 = V.int c2) = false from decide_eq_false (fun z => ne (by injection z))]
              refine ⟨.int c1, rfl, .int c2, rfl, by show 2 ≤ sizeLine; decide, fun tp ntp => ?_⟩
              have stp := same_new (o := .tup [.int c1, .int c2]) ntp
              have kt3 := kt2.trans (Kt.same kt2.tab stp)
              refine ⟨.ref T, rfl, T, _, rfl, DGet.t (k := [Sum.inl c1, Sum.inl c2]) (kt3.keep T _ (Tabs.out T4 hT4 fun _ z => by cases z) hT4) upd_same, ?_⟩
              rw [kP_val]
              by_cases hin : (c1, c2) ∈ qs
              · rw [if_pos hin]
                refine ⟨_, rfl, ?_⟩
                rw [if_pos (show (some (V.bl true)).isSome = true from rfl)]
                refine ⟨kt3, fun j' c2' hl e' ne' => ?_⟩
                by_cases e : j' = j
                · subst e
                  rw [e2] at e'
                  cases e'
                  exact hin
                · exact done2 j' c2' (by omega) e' ne'
              · rw [if_neg hin]
                refine ⟨_, rfl, ?_⟩
                rw [if_neg (show ¬ (none : Option V).isSome = true by decide)]
                exact q' (fun z => hin (crI.mp z c1 (List.mem_of_getElem? e1) c2 (List.mem_of_getElem? e2) ne)) _ (k4.trans kt3)
          · refine .inl ⟨⟨_, SqL.of hZ2, by rw [List.length_map, lg]; omega⟩, (xs.length - (i + 1)) * (xs.length + 1), ?_, rfl, by omega, kt2, fun i' c1' c2' hl e' h2 ne' => ?_⟩
            · rw [show xs.length - (i + 1) = xs.length - i - 1 from by omega]
              omega
            · by_cases e : i' = i
              · subst e
                rw [e1] at e'
                cases e'
                obtain ⟨j', hj', ej'⟩ := List.mem_iff_getElem.mp h2
                exact done2 j' c2' (by rw [lg] at hj'; omega) (by rw [List.getElem?_eq_getElem hj', ej']) ne'
              · exact done i' c1' c2' (by omega) e' h2 ne'
        · refine .inl ⟨⟨_, SqL.of hZ', by rw [List.length_map, lg]; omega⟩, ?_⟩
          have full : CrQ k n ts (some (xs.map V.int)) := crI.mpr fun c1 h1 c2 h2 ne => by
            obtain ⟨i', hi', ei'⟩ := List.mem_iff_getElem.mp h1
            exact done i' c1 c2 (by rw [lg] at hi'; omega) (by rw [List.getElem?_eq_getElem hi', ei']) h2 ne
          have := q _ (k4.trans kt)
          rw [crQ_t full] at this
          exact this
      · rw [show decide (V.int (cc : Nat) = V.int (xs.length : Nat)) = false from decide_eq_false (fun z => ec (by injection z with z; omega))]
        refine q' (fun ⟨xs', e, cr⟩ => ec (hcc.mpr ?_)) _ k4
        obtain rfl := map_int_inj e
        refine List.pairwise_map.mpr (List.Pairwise.imp_of_mem (fun {x y} hx hy h z => ?_) cr.met)
        exact h.1 ((st x y (rg x hx) (rg y hy)).mp z)
    · rw [show decide (V.int (xs.length : Nat) = V.int (k + 1)) = false from decide_eq_false (fun z => el (by injection z))]
      refine q' (fun ⟨xs', e, cr⟩ => el ?_) _ k1
      obtain rfl := map_int_inj e
      exact cr.len
set_option maxHeartbeats 4000000 in
theorem ok_clash_holds {f : Addr} {fd : FuncData} (F : Fun K "clash_holds" "clash_holds" s_clash_holds f fd) (M : Free mg) (D_are_unlike_places : Df P w K mg base 3 "are_unlike_places" ["many", "one", "other"] spUnlikePl) : FnOk P w K mg base CX0 4 f fd ["heads", "foes", "one", "other"] spClashH := by
  obtain ⟨f_are_unlike_places, fd_are_unlike_places, G_are_unlike_places, g_are_unlike_places, k_are_unlike_places, b_are_unlike_places⟩ := D_are_unlike_places
  refine F.ok sc_clash_holds (fun vs H Q E h => ?_) (fun cdv A outer s H vs Q E hr h => ?_)
  · obtain ⟨D, L, a, b, n, ts, g, rfl, _⟩ := h
    rfl
  · obtain ⟨D, L, a, b, n, ts, g, rfl, hh, st, hF, ok, few, ka, kb, q⟩ := h
    have hu := room1 hr
    refine ⟨_, (pss_cons (ps_if (PW.pt (pw_or (pt_not (pt_val (pe_call G_are_unlike_places (hr.mono (by decide)) (by rfl) g_are_unlike_places k_are_unlike_places b_are_unlike_places .nil pass0 (pa_cons (pe_callB call_lenD (by rfl) M.len PySem.boot_len (pa_cons (pv 0) pa_nil)) (pa_cons (pv 2) (pa_cons (pv 3) pa_nil)))))) (pw_or1 (pt_cmpR op_ne (pe_dget hu (pv 0) (pv 2) (fun _ _ => rfl)) (pe_dget hu (pv 0) (pv 3) (fun _ _ => rfl)) (nomark _)))))
        (pss_one (ps_ret pe_bl))
        pss_nil)
      (pss_one (ps_ret (pe_or (pe_cmpR  (op_inD (room65 hr)) (pe_tup (pa_cons (pv 2) (pa_cons (pv 3) pa_nil))) (pv 1) rfl) (pe_one (pe_cmpR  (op_inD (room65 hr)) (pe_tup (pa_cons (pv 3) (pa_cons (pv 2) pa_nil))) (pv 1) rfl)))))), ?_⟩
    obtain ⟨kvs, hD, lkv⟩ := heads_len hh
    obtain ⟨bs, hL, hbs⟩ := id hF
    have lbs := Paired.length hbs
    have lfp := fps_len ts
    have q' : ¬ ClQ n ts a b → ∀ H', Same H H' → Q (.bl false) H' := fun z H' s => by
      have := q H' s
      rw [clQ_f z] at this
      exact this
    refine ⟨.ref D, rfl, D, _, rfl, hD, a, rfl, b, rfl, ((kvs.length : Nat) : Int), a, b, rfl, ka, kb, _, rfl, ?_⟩
    rw [lkv]
    unfold unlB
    cases h1 : wbelow n a with
    | false =>
      refine q' (fun ⟨x, y, e1, e2, cl⟩ => ?_) _ (Same.refl _)
      rw [e1] at h1
      have h1 : (decide (0 ≤ x) && decide (x < (n : Int))) = false := h1
      rw [decide_eq_true cl.1.1.1, decide_eq_true cl.1.1.2] at h1
      cases h1
    | true =>
    obtain ⟨x, rfl, hx⟩ := wbelow_is h1
    cases h2 : wbelow n b with
    | false =>
      refine q' (fun ⟨x', y, e1, e2, cl⟩ => ?_) _ (Same.refl _)
      rw [e2] at h2
      have h2 : (decide (0 ≤ y) && decide (y < (n : Int))) = false := h2
      rw [decide_eq_true cl.1.2.1, decide_eq_true cl.1.2.2] at h2
      cases h2
    | true =>
    obtain ⟨y, rfl, hy⟩ := wbelow_is h2
    by_cases e : x = y
    · subst e
      rw [show decide (V.int x = V.int x) = true from decide_eq_true rfl]
      refine q' (fun ⟨x', y', e1, e2, cl⟩ => ?_) _ (Same.refl _)
      cases e1
      cases e2
      obtain ⟨t, ht, _, z⟩ := cl.2.2
      have o := (ok t ht).2.2.2.2
      rcases z with ⟨z1, z2⟩ | ⟨z1, z2⟩
      · exact o (z1.trans z2.symm)
      · exact o (z1.trans z2.symm)
    rw [show decide (V.int x = V.int y) = false from decide_eq_false (fun z => e (by injection z))]
    refine ⟨.ref D, rfl, .int x, rfl, D, .int (g x), rfl, hh.get hx, .ref D, rfl, .int y, rfl, D, .int (g y), rfl, hh.get hy, rfl, _, rfl, ?_⟩
    by_cases eg : g x = g y
    · rw [show decide (V.int (g x) = V.int (g y)) = true from decide_eq_true (by rw [eg])]
      have fr := (st x y hx hy).mp eg
      refine ⟨.int x, rfl, .int y, rfl, by show 2 ≤ sizeLine; decide, fun t1 n1 => ?_⟩
      have s1 := same_new (o := .tup [.int x, .int y]) n1
      obtain ⟨ds, d1, d2, d3⟩ := (hF.same s1).dp (K := K)
      refine ⟨.ref L, rfl, intsD [x, y], ds, .tup (SqT.of upd_same) (dp_ints [x, y]), d1, shaped_intsD _, d2, _, rfl, ?_⟩
      rw [d3]
      have tru : (∃ t ∈ ts, t.foe = true ∧ ((t.one = x ∧ t.other = y) ∨ (t.one = y ∧ t.other = x))) → ClQ n ts (.int x) (.int y) := fun ⟨t, h1, h2, h3⟩ => ⟨x, y, rfl, rfl, ⟨hx, hy⟩, fr, t, h1, h2, h3⟩
      by_cases h1 : (x, y) ∈ fps ts
      · rw [decide_eq_true h1]
        obtain ⟨t, e1, e2, e3, e4⟩ := fps_mem.mp h1
        have := q _ s1
        rw [clQ_t (tru ⟨t, e1, e2, .inl ⟨e3, e4⟩⟩)] at this
        exact this
      · rw [decide_eq_false h1]
        refine ⟨.int y, rfl, .int x, rfl, by show 2 ≤ sizeLine; decide, fun p2 np2 => ?_⟩
        have sp2 := same_new (o := .tup [.int y, .int x]) np2
        obtain ⟨ds2, c1, c2, c3⟩ := (hF.same (s1.trans sp2)).dp (K := K)
        refine ⟨.ref L, rfl, intsD [y, x], ds2, .tup (SqT.of upd_same) (dp_ints [y, x]), c1, shaped_intsD _, c2, ?_⟩
        rw [c3]
        by_cases h2 : (y, x) ∈ fps ts
        · rw [decide_eq_true h2]
          obtain ⟨t, e1, e2, e3, e4⟩ := fps_mem.mp h2
          have := q _ (s1.trans sp2)
          rw [clQ_t (tru ⟨t, e1, e2, .inr ⟨e3, e4⟩⟩)] at this
          exact this
        · rw [decide_eq_false h2]
          have := q _ (s1.trans sp2)
          rw [clQ_f (fun ⟨x', y', e1, e2, c⟩ => by
            injection e1 with e1
            injection e2 with e2
            subst e1
            subst e2
            obtain ⟨t, a1, a2, a3⟩ := c.2.2
            rcases a3 with ⟨a3, a4⟩ | ⟨a3, a4⟩
            · exact h1 (fps_mem.mpr ⟨t, a1, a2, a3, a4⟩)
            · exact h2 (fps_mem.mpr ⟨t, a1, a2, a3, a4⟩))] at this
          exact this
    · rw [show decide (V.int (g x) = V.int (g y)) = false from decide_eq_false (fun z => eg (by injection z))]
      refine q' (fun ⟨x', y', e1, e2, cl⟩ => eg ?_) _ (Same.refl _)
      cases e1
      cases e2
      exact (st x y hx hy).mpr cl.2.1
end
def spPaperH (Ps : List Addr) (d : Nat) : Sp := fun vs H Q _ => ∃ (k : Int) (D L : Addr) (x : V) (n : Nat) (ts : List Tie) (g : Int → Int) (t : QT), vs = [.int k, .ref D, .ref L, x] ∧ HeadsAt H D n g ∧ Stnd n ts g ∧ PrL H L (fps ts) ∧ (1 ≤ n ∧ n ≤ 40) ∧ (∀ t ∈ ts, TieOk n t) ∧ ts.length + t.dep ≤ 300 ∧ QTV H x t ∧ t.dep ≤ d ∧ Tabs Ps H ∧ ∀ H', Kt Ps H H' → Q (.bl (qOk k n ts t)) H'
def spPaperR (Ps : List Addr) : Nat → Sp
  | 0 => fun _ _ _ _ => False
  | d + 1 => spPaperH Ps d
def spCaseH (Ps : List Addr) (d : Nat) : Sp := fun vs H Q _ => ∃ (k : Int) (D L c : Addr) (n : Nat) (ts : List Tie) (g : Int → Int) (a b x y : V) (t u : QT), vs = [.int k, .ref D, .ref L, .ref c] ∧ HeadsAt H D n g ∧ Stnd n ts g ∧ PrL H L (fps ts) ∧ (1 ≤ n ∧ n ≤ 40) ∧ (∀ t ∈ ts, TieOk n t) ∧ ts.length + (1 + max t.dep u.dep) ≤ 300 ∧ H c = some (.tup [.str "case", a, b, x, y]) ∧ Kn H a ∧ Kn H b ∧ QTV H x t ∧ QTV H y u ∧ 1 + max t.dep u.dep ≤ d ∧ Tabs Ps H ∧ ∀ H', Kt Ps H H' → Q (.bl (qOk k n ts (.case a b t u))) H'
theorem fps_more {n : Nat} {ts : List Tie} {x y : Int} (ok : ∀ t ∈ ts, TieOk n t) (hx : 0 ≤ x ∧ x < (n : Int)) (hy : 0 ≤ y ∧ y < (n : Int)) (ne : x ≠ y) (f : Bool) : ∀ t ∈ ts ++ [⟨x, y, f⟩], TieOk n t := fun t ht => by
  rcases List.mem_append.mp ht with h | h
  · exact ok t h
  · rw [List.mem_singleton.mp h]
    exact ⟨hx.1, hx.2, hy.1, hy.2, ne⟩
open Classical in
theorem qOk_case {k : Int} {n : Nat} {ts : List Tie} {x y : Int} {t u : QT} (hx : 0 ≤ x ∧ x < (n : Int)) (hy : 0 ≤ y ∧ y < (n : Int)) (ne : x ≠ y) : qOk k n ts (.case (.int x) (.int y) t u) = (qOk k n (ts ++ [frT x y]) t && qOk k n (ts ++ [foT x y]) u) := by
  rw [Bool.eq_iff_iff, Bool.and_eq_true]
  unfold qOk
  rw [decide_eq_true_iff, decide_eq_true_iff, decide_eq_true_iff]
  constructor
  · rintro ⟨x', y', e1, e2, _, h1, h2⟩
    cases e1
    cases e2
    exact ⟨h1, h2⟩
  · rintro ⟨h1, h2⟩
    exact ⟨x, y, rfl, rfl, ⟨⟨hx, hy⟩, ne⟩, h1, h2⟩
section
variable {P : Program} {w : World} {K : PySem.W.Frag} {mg : Str → Option Value} {base : Heap}
set_option maxHeartbeats 4000000 in
theorem ok_case_holds66 (d : Nat) {f : Addr} {fd : FuncData} {Ps : List Addr} (F : Fun K "case_holds" "case_holds" s_case_holds f fd) (M : Free mg) (D_are_unlike_places : Df P w K mg base 3 "are_unlike_places" ["many", "one", "other"] spUnlikePl) (D_paper_holds : Df P w K mg base (8 + 2 * d) "paper_holds" ["k", "heads", "foes", "thing"] (spPaperR Ps d)) : FnOk P w K mg base CX0 (8 + 2 * d + 1) f fd ["k", "heads", "foes", "thing"] (spCaseH Ps d) := by
  obtain ⟨f_are_unlike_places, fd_are_unlike_places, G_are_unlike_places, g_are_unlike_places, k_are_unlike_places, b_are_unlike_places⟩ := D_are_unlike_places
  obtain ⟨f_paper_holds, fd_paper_holds, G_paper_holds, g_paper_holds, k_paper_holds, b_paper_holds⟩ := D_paper_holds
  refine F.ok sc_case_holds (fun vs H Q E h => ?_) (fun cdv A outer s H vs Q E hr h => ?_)
  · obtain ⟨k, D, L, c, n, ts, g, a, b, x, y, t, u, rfl, _⟩ := h
    rfl
  · obtain ⟨k, D, L, c, n, ts, g, a, b, x, y, t, u, rfl, hh, st, hF, n40, ok, few, hc, ka, kb, hx2, hy2, dd, hT, q⟩ := h
    have hu := room1 hr
    refine ⟨_, (pss_cons (ps_asg (pv 3) (pg_tup rfl (pgs_cons (pg_name (i := 4) sc_case_holds.nd rfl (.inl rfl)) (pgs_cons (pg_name (i := 5) sc_case_holds.nd rfl (.inr rfl)) (pgs_cons (pg_name (i := 6) sc_case_holds.nd rfl (.inr rfl)) (pgs_cons (pg_name (i := 7) sc_case_holds.nd rfl (.inl rfl)) (pgs_cons (pg_name (i := 8) sc_case_holds.nd rfl (.inl rfl)) pgs_nil)))))))
      (pss_cons (ps_if (pt_not (pt_val (pe_call G_are_unlike_places (hr.mono (by omega)) (by rfl) g_are_unlike_places k_are_unlike_places b_are_unlike_places .nil pass0 (pa_cons (pe_callB call_lenD (by rfl) M.len PySem.boot_len (pa_cons (pv 1) pa_nil)) (pa_cons (pv 5) (pa_cons (pv 6) pa_nil))))))
        (pss_one (ps_ret pe_bl))
        pss_nil)
      (Evl.pss_cut (ps_lock (ps_setDc (i := 9) (own := [("place", 10)]) (g := (gName 10)) (tt := tYes) rfl sc_case_holds.nd rfl rfl (sw_trueD rfl rfl rfl (by decide +kernel))  (pi_keys (pv 1)) (blkOk_by (N := N_case_holds) (sc := defScope s_case_holds) (own := [("place", 10)]) (by decide +kernel)) (fun _ _ _ _ _ => (pg_name (i := 10) sc_case_holds.nd rfl (.inl rfl))) (fun _ _ _ _ _ => pts_nil) (fun _ _ _ _ _ => (pv 10)) (fun _ _ _ _ _ => (pe_ifExp (pt_cmpR op_eq (pe_dget hu (pv 1) (pv 10) (fun _ _ => rfl)) (pe_dget hu (pv 1) (pv 6) (fun _ _ => rfl)) (nomark _)) (pe_dget hu (pv 1) (pv 5) (fun _ _ => rfl)) (pe_dget hu (pv 1) (pv 10) (fun _ _ => rfl))))))
      (pss_one (ps_ret (pe_and (pe_call G_paper_holds (hr.mono (by omega)) (by rfl) g_paper_holds k_paper_holds b_paper_holds .nil pass0 (pa_cons (pv 0) (pa_cons (pv 9) (pa_cons (pv 2) (pa_cons (pv 7) pa_nil))))) (pe_one (pe_call G_paper_holds (hr.mono (by omega)) (by rfl) g_paper_holds k_paper_holds b_paper_holds .nil pass0 (pa_cons (pv 0) (pa_cons (pv 1) (pa_cons (pe_op op_cat (pv 2) (pe_lst (pa_cons (pe_tup (pa_cons (pv 5) (pa_cons (pv 6) pa_nil))) pa_nil))) (pa_cons (pv 8) pa_nil)))))))))))), ?_⟩
    obtain ⟨kvs, hD, lkv⟩ := heads_len hh
    have m1 : t.dep ≤ max t.dep u.dep := Nat.le_max_left _ _
    have m2 : u.dep ≤ max t.dep u.dep := Nat.le_max_right _ _
    obtain ⟨d, rfl⟩ : ∃ d', d = d' + 1 := ⟨d - 1, by omega⟩
    have lfp := fps_len ts
    have q' : ¬ QOk k n ts (.case a b t u) → Q (.bl false) H := fun z => by
      have := q H (Kt.refl hT)
      rw [qOk_f z] at this
      exact this
    refine ⟨.ref c, rfl, c, _, rfl, SqT.of hc, rfl, _, _, rfl, _, _, rfl, _, _, rfl, _, _, rfl, _, _, rfl, rfl, ?_⟩
    refine ⟨.ref D, rfl, D, _, rfl, hD, a, rfl, b, rfl, ((kvs.length : Nat) : Int), a, b, rfl, ka, kb, _, rfl, ?_⟩
    rw [lkv]
    unfold unlB
    cases h1 : wbelow n a with
    | false =>
      refine q' (fun ⟨x', y', e1, e2, pl, _⟩ => ?_)
      rw [e1] at h1
      have h1 : (decide (0 ≤ x') && decide (x' < (n : Int))) = false := h1
      rw [decide_eq_true pl.1.1.1, decide_eq_true pl.1.1.2] at h1
      cases h1
    | true =>
    obtain ⟨x', rfl, hx⟩ := wbelow_is h1
    cases h2 : wbelow n b with
    | false =>
      refine q' (fun ⟨x', y', e1, e2, pl, _⟩ => ?_)
      rw [e2] at h2
      have h2 : (decide (0 ≤ y') && decide (y' < (n : Int))) = false := h2
      rw [decide_eq_true pl.1.2.1, decide_eq_true pl.1.2.2] at h2
      cases h2
    | true =>
    obtain ⟨y', rfl, hy⟩ := wbelow_is h2
    by_cases ne : x' = y'
    · subst ne
      rw [show decide (V.int x' = V.int x') = true from decide_eq_true rfl]
      refine q' (fun ⟨x2, y2, e1, e2, pl, _⟩ => ?_)
      cases e1
      cases e2
      exact pl.2 rfl
    rw [show decide (V.int x' = V.int y') = false from decide_eq_false (fun z => ne (by injection z))]
    -- the places put together
    refine ⟨fun σ' H' => ∃ (J : Addr) (y10 : Option V), σ' = [some (.int k), some (.ref D), some (.ref L), some (.ref c), some (.str "case"), some (.int x'), some (.int y'), some x, some y, some (.ref J), y10] ∧ HeadsAt H' J n (fun z => if g z = g y' then g x' else g z) ∧ Same H H', ?_, ?_⟩
    · obtain ⟨ks, hDk, ndk, memk⟩ := id hh
      refine ⟨D, _, hDk, trivial, fun od => ?_⟩
      have hD' : (upd H D (.frz od (.dK (kF ks fun x => .int (g x))))) D = some (.frz od (.dK (kF ks fun x => .int (g x)))) := upd_same
      have rD := rd_lock (od := od) hDk hDk
      have un : ∀ {H' : Hp}, Same (upd H D (.frz od (.dK (kF ks fun x => .int (g x))))) H' → Same H (upd H' D (.dK (kF ks fun x => .int (g x)))) := fun s => Same.unlock hDk s
      generalize upd H D (.frz od (.dK (kF ks fun x => .int (g x)))) = Hf at hD' rD un
      have get : ∀ (H' : Hp), Same Hf H' → ∀ z : Int, 0 ≤ z ∧ z < (n : Int) → DGet H' D (.int z) (some (.int (g z))) := fun H' s z hz => by
        have := DGet.r (k := Sum.inl z) (Rd.same rD s)
        rw [kF_val, if_pos ((memk z).mpr hz)] at this
        exact this
      refine ⟨.ref D, rfl, D, od, rfl, .inl ⟨_, hD', fun J nJ => ?_⟩⟩
      refine it_gen (walk_keys (kvs := kF ks fun x => .int (g x))) (fun j H' => H' J = some (.dK (kF (ks.take j) fun z => .int (if g z = g y' then g x' else g z))) ∧ Same Hf H') ⟨upd_same, same_new nJ⟩ (fun j H' _ h => h.2 _ _ hD') ?_ ?_
      · rintro j z H1 H2 hj ⟨hJ, s1⟩ ⟨rfl, k', v', ek, rfl⟩
        obtain ⟨z, ez, rfl, rfl⟩ := kF_at ek
        have hz := (memk z).mp (List.mem_of_getElem? ez)
        have etk : ks.take (j + 1) = ks.take j ++ [z] := take_snoc ez
        have new : z ∉ ks.take j := fun w => by
          obtain ⟨i, hi⟩ := List.getElem?_of_mem w
          rw [List.getElem?_take] at hi
          split at hi
          · have := nd65_at ndk hi ez
            omega
          · cases hi
        have ll : (ks.take j).length ≤ 41 := by
          have := sub_len65 (ks := ks) (ns := rng n) ndk fun x hx => mem_rng.mpr ((memk x).mp hx)
          rw [rng_length] at this
          rw [List.length_take]
          omega
        have key : ∀ (r : Int), r = (if g z = g y' then g x' else g z) → ∃ kvs k, V.int z = kV k ∧ H2 J = some (.dK kvs) ∧ kvs.length < sizeLine ∧ ((upd H2 J (.dK (putK kvs k (.int r)))) J = some (.dK (kF (ks.take (j + 1)) fun z => .int (if g z = g y' then g x' else g z))) ∧ Same Hf (upd H2 J (.dK (putK kvs k (.int r))))) := fun r hr => by
          refine ⟨_, Sum.inl z, rfl, hJ, by rw [kF_len]; exact small1000 (by omega), ?_, Same.mut s1 nJ⟩
          rw [upd_same, etk, kF_new new]
          congr 2
          refine kF_congr fun w _ => ?_
          show (if w = z then V.int r else V.int (if g w = g y' then g x' else g w)) = _
          split
          · rename_i e
            rw [e, hr]
          · rfl
        refine ⟨rfl, .int z, rfl, .ref D, rfl, .int z, rfl, D, .int (g z), rfl, get _ s1 _ hz, .ref D, rfl, .int y', rfl, D, .int (g y'), rfl, get _ s1 _ hy, rfl, _, rfl, ?_⟩
        by_cases e : g z = g y'
        · rw [show decide (V.int (g z) = V.int (g y')) = true from decide_eq_true (by rw [e])]
          refine (show (if true = true then _ else _) from ?_)
          rw [if_pos rfl]
          exact ⟨.ref D, rfl, .int x', rfl, D, .int (g x'), rfl, get _ s1 _ hx, key _ (by rw [if_pos e])⟩
        · rw [show decide (V.int (g z) = V.int (g y')) = false from decide_eq_false (fun w => e (by injection w))]
          refine (show (if false = true then _ else _) from ?_)
          rw [if_neg (by decide)]
          exact ⟨.ref D, rfl, .int z, rfl, D, .int (g z), rfl, get _ s1 _ hz, key _ (by rw [if_neg e])⟩
      · rintro H1 ⟨hJ, s1⟩
        rw [kF_len, List.take_length] at hJ
        have hD1 := s1 _ _ hD'
        exact ⟨hD1, J, _, rfl, ⟨ks, by rw [upd_ne (ne_of hJ hD1 (by intro z; cases z))]; exact hJ, ndk, memk⟩, un s1⟩
    rintro σ' H1 ⟨J, y10, rfl, hJ, s1⟩
    have k1 := Kt.same hT s1
    have stF := st.friend hx hy
    have eq := qOk_case (k := k) (ts := ts) (t := t) (u := u) hx hy ne
    refine ⟨.int k, rfl, .ref J, rfl, .ref L, rfl, x, rfl, ?_⟩
    refine ⟨k, J, L, x, n, ts ++ [frT x' y'], _, t, rfl, hJ, stF, by rw [fps_friend]; exact hF.same s1, n40, fps_more ok hx hy ne false, by rw [List.length_append, List.length_singleton]; omega, hx2.same s1, by omega, k1.tab, fun H2 k2 => ?_⟩
    cases e1 : qOk k n (ts ++ [frT x' y']) t with
    | false =>
      refine ⟨_, rfl, ?_⟩
      have := q _ (k1.trans k2)
      rw [eq, e1] at this
      exact this
    | true =>
      have k12 := k1.trans k2
      refine ⟨_, rfl, .int k, rfl, .ref D, rfl, .ref L, rfl, .int x', rfl, .int y', rfl, by show 2 ≤ sizeLine; decide, fun p np => ?_⟩
      have sp := same_new (o := .tup [.int x', .int y']) np
      have hp := upd_same (H := H2) (a := p) (o := .tup [.int x', .int y'])
      generalize upd H2 p (.tup [.int x', .int y']) = H3 at sp hp
      have k3 := k12.trans (Kt.same k12.tab sp)
      refine ⟨by show 1 ≤ sizeLine; decide, fun p2 np2 => ?_⟩
      have sp2 := same_new (o := .lst [.ref p]) np2
      have hp2 := upd_same (H := H3) (a := p2) (o := .lst [.ref p])
      have hp' := sp2 _ _ hp
      generalize upd H3 p2 (.lst [.ref p]) = H4 at sp2 hp2 hp'
      have k4 := k3.trans (Kt.same k3.tab sp2)
      obtain ⟨bs, hL, hbs⟩ := hF.kt k4 hT
      have lbs := Paired.length hbs
      refine ⟨L, p2, _, _, rfl, rfl, hL, hp2, by rw [List.length_map]; exact Nat.le_of_lt (small1000 (by show bs.length + 1 ≤ _; omega)), fun p3 np3 => ?_⟩
      have sp3 := same_new (o := .lst (bs.map V.ref ++ [.ref p])) np3
      have k5 := k4.trans (Kt.same k4.tab sp3)
      refine ⟨y, rfl, k, D, p3, y, n, ts ++ [foT x' y'], g, u, rfl, HeadsAt.kt hh k5 hT, st.foe _ _, ?_, n40, fps_more ok hx hy ne true, by rw [List.length_append, List.length_singleton]; omega, hy2.kt k5 hT, by omega, k5.tab, fun H6 k6 => ?_⟩
      · rw [fps_foe]
        exact ⟨bs ++ [p], by rw [upd_same, List.map_append]; rfl, Paired.snoc65 (Paired.mono (fun _ _ e => sp3 _ _ e) hbs) (sp3 _ _ hp')⟩
      · have := q _ (k5.trans k6)
        rw [eq, e1, Bool.true_and] at this
        exact this
set_option maxHeartbeats 4000000 in
theorem ok_paper_step66 (d : Nat) {f : Addr} {fd : FuncData} {Ps : List Addr} (F : Fun K "paper_holds" "paper_holds" s_paper_holds f fd) (D_is_tuple_of : Df P w K mg base 1 "is_tuple_of" ["length", "thing"] spTupleOf) (D_crowd_holds : Df P w K mg base 6 "crowd_holds" ["k", "heads", "foes", "thing"] (spCrowdH Ps)) (D_clash_holds : Df P w K mg base 4 "clash_holds" ["heads", "foes", "one", "other"] spClashH) (D_case_holds : Df P w K mg base (8 + 2 * d + 1) "case_holds" ["k", "heads", "foes", "thing"] (spCaseH Ps d)) : FnOk P w K mg base CX0 (8 + 2 * d + 2) f fd ["k", "heads", "foes", "thing"] (spPaperH Ps d) := by
  obtain ⟨f_is_tuple_of, fd_is_tuple_of, G_is_tuple_of, g_is_tuple_of, k_is_tuple_of, b_is_tuple_of⟩ := D_is_tuple_of
  obtain ⟨f_crowd_holds, fd_crowd_holds, G_crowd_holds, g_crowd_holds, k_crowd_holds, b_crowd_holds⟩ := D_crowd_holds
  obtain ⟨f_clash_holds, fd_clash_holds, G_clash_holds, g_clash_holds, k_clash_holds, b_clash_holds⟩ := D_clash_holds
  obtain ⟨f_case_holds, fd_case_holds, G_case_holds, g_case_holds, k_case_holds, b_case_holds⟩ := D_case_holds
  refine F.ok sc_paper_holds (fun vs H Q E h => ?_) (fun cdv A outer s H vs Q E hr h => ?_)
  · obtain ⟨k, D, L, x, n, ts, g, t, rfl, _⟩ := h
    rfl
  · obtain ⟨k, D, L, x, n, ts, g, t, rfl, hh, st, hF, n40, ok, few, hx, dd, hT, q⟩ := h
    refine ⟨_, (pss_cons (ps_if (PW.pt (pw_and (pt_val (pe_call G_is_tuple_of (hr.mono (by omega)) (by rfl) g_is_tuple_of k_is_tuple_of b_is_tuple_of .nil pass0 (pa_cons pe_int (pa_cons (pv 3) pa_nil)))) (pw_and1 (pt_cmpR (op_eqAS hr.units0) (pe_ix ix_tup (pv 3) pe_int (fun _ _ => rfl)) pe_str (nomark _)))))
        (pss_one (ps_ret (pe_call G_crowd_holds (hr.mono (by omega)) (by rfl) g_crowd_holds k_crowd_holds b_crowd_holds .nil pass0 (pa_cons (pv 0) (pa_cons (pv 1) (pa_cons (pv 2) (pa_cons (pe_ix ix_tup (pv 3) pe_int (fun _ _ => rfl)) pa_nil)))))))
        pss_nil)
      (pss_cons (ps_if (PW.pt (pw_and (pt_val (pe_call G_is_tuple_of (hr.mono (by omega)) (by rfl) g_is_tuple_of k_is_tuple_of b_is_tuple_of .nil pass0 (pa_cons pe_int (pa_cons (pv 3) pa_nil)))) (pw_and1 (pt_cmpR (op_eqAS hr.units0) (pe_ix ix_tup (pv 3) pe_int (fun _ _ => rfl)) pe_str (nomark _)))))
        (pss_one (ps_ret (pe_call G_clash_holds (hr.mono (by omega)) (by rfl) g_clash_holds k_clash_holds b_clash_holds .nil pass0 (pa_cons (pv 1) (pa_cons (pv 2) (pa_cons (pe_ix ix_tup (pv 3) pe_int (fun _ _ => rfl)) (pa_cons (pe_ix ix_tup (pv 3) pe_int (fun _ _ => rfl)) pa_nil)))))))
        pss_nil)
      (pss_one (ps_ret (pe_and (pe_call G_is_tuple_of (hr.mono (by omega)) (by rfl) g_is_tuple_of k_is_tuple_of b_is_tuple_of .nil pass0 (pa_cons pe_int (pa_cons (pv 3) pa_nil))) (pe_and (pe_cmpR (op_eqAS hr.units0) (pe_ix ix_tup (pv 3) pe_int (fun _ _ => rfl)) pe_str (nomark _)) (pe_one (pe_call G_case_holds (hr.mono (by omega)) (by rfl) g_case_holds k_case_holds b_case_holds .nil pass0 (pa_cons (pv 0) (pa_cons (pv 1) (pa_cons (pv 2) (pa_cons (pv 3) pa_nil)))))))))))), ?_⟩
    have kx := hx.kn
    have is2 : ∀ (m : Int) (Qb : Bool → Prop), (∀ b, lenIs H x m = b → Qb b) → Qb (lenIs H x m) := fun m Qb h => h _ rfl
    have qf : (¬ QOk k n ts t) → Q (.bl false) H := fun z => by
      have := q H (Kt.refl hT)
      rw [qOk_f z] at this
      exact this
    cases t with
    | bad =>
      rcases hx with ⟨_, hnt⟩ | ⟨a, xs, rfl, ha, hb⟩
      · have e0 : ∀ m : Int, lenIs H x m = false := fun m => by unfold lenIs; rw [parts_none hnt]
        refine ⟨x, rfl, 2, x, rfl, kx, _, rfl, ?_⟩
        rw [e0]
        refine ⟨x, rfl, 3, x, rfl, kx, _, rfl, ?_⟩
        rw [e0]
        refine ⟨x, rfl, 5, x, rfl, kx, _, rfl, ?_⟩
        rw [e0]
        exact qf (fun z => z)
      · have e0 : ∀ m : Int, lenIs H (.ref a) m = decide ((xs.length : Int) = m) := fun m => by unfold lenIs; rw [parts_of' ha]
        have sd : ∀ (w : V) (z : Str), w ≠ V.str z → decide (w = V.str z) = false := fun w z h => decide_eq_false h
        have nf := qf (fun z => z)
        have step : ∀ (m : Int) (z : Str), (m = 2 ∧ z = "crowd") ∨ (m = 3 ∧ z = "clash") ∨ (m = 5 ∧ z = "case") → decide ((xs.length : Int) = m) = true → ∃ (w : V) (rest : List V), xs = w :: rest ∧ Kn H w ∧ w ≠ V.str z := fun m z hm hl => by
          have hl := of_decide_eq_true hl
          rcases hb with rfl | ⟨w, rest, rfl, kw, n1, n2, n3⟩
          · simp at hl
            omega
          · rw [List.length_cons] at hl
            refine ⟨w, rest, rfl, kw, fun e => ?_⟩
            subst e
            rcases hm with ⟨rfl, rfl⟩ | ⟨rfl, rfl⟩ | ⟨rfl, rfl⟩
            · exact n1 ⟨rfl, by omega⟩
            · exact n2 ⟨rfl, by omega⟩
            · exact n3 ⟨rfl, by omega⟩
        refine ⟨.ref a, rfl, 2, .ref a, rfl, kx, _, rfl, ?_⟩
        rw [e0]
        have third : Q (.bl false) H := nf
        cases l2 : decide ((xs.length : Int) = 2) with
        | true =>
          obtain ⟨w, rest, rfl, kw, hw⟩ := step 2 _ (.inl ⟨rfl, rfl⟩) l2
          refine ⟨.ref a, rfl, a, _, 0, w, rfl, rfl, SqT.of ha, at0 _ _, _, rfl, kw, _, rfl, ?_⟩
          rw [sd _ _ hw]
          refine ⟨.ref a, rfl, 3, .ref a, rfl, kx, _, rfl, ?_⟩
          have l2 := of_decide_eq_true l2
          rw [e0, decide_eq_false (by omega)]
          refine ⟨.ref a, rfl, 5, .ref a, rfl, kx, _, rfl, ?_⟩
          rw [e0, decide_eq_false (by omega)]
          exact third
        | false =>
          refine ⟨.ref a, rfl, 3, .ref a, rfl, kx, _, rfl, ?_⟩
          rw [e0]
          cases l3 : decide ((xs.length : Int) = 3) with
          | true =>
            obtain ⟨w, rest, rfl, kw, hw⟩ := step 3 _ (.inr (.inl ⟨rfl, rfl⟩)) l3
            refine ⟨.ref a, rfl, a, _, 0, w, rfl, rfl, SqT.of ha, at0 _ _, _, rfl, kw, _, rfl, ?_⟩
            rw [sd _ _ hw]
            refine ⟨.ref a, rfl, 5, .ref a, rfl, kx, _, rfl, ?_⟩
            have l3 := of_decide_eq_true l3
            rw [e0, decide_eq_false (by omega)]
            exact third
          | false =>
            refine ⟨.ref a, rfl, 5, .ref a, rfl, kx, _, rfl, ?_⟩
            rw [e0]
            cases l5 : decide ((xs.length : Int) = 5) with
            | true =>
              obtain ⟨w, rest, rfl, kw, hw⟩ := step 5 _ (.inr (.inr ⟨rfl, rfl⟩)) l5
              refine ⟨.ref a, rfl, a, _, 0, w, rfl, rfl, SqT.of ha, at0 _ _, _, rfl, kw, _, rfl, ?_⟩
              rw [sd _ _ hw]
              exact third
            | false => exact third
    | crowd o =>
      obtain ⟨a, c, rfl, ha, hcr⟩ := hx
      have e0 : ∀ m : Int, lenIs H (.ref a) m = decide ((2 : Int) = m) := fun m => by unfold lenIs; rw [parts_of' ha]; rfl
      refine ⟨.ref a, rfl, 2, .ref a, rfl, kx, _, rfl, ?_⟩
      rw [e0, decide_eq_true rfl]
      refine ⟨.ref a, rfl, a, _, 0, .str "crowd", rfl, rfl, SqT.of ha, rfl, _, rfl, trivial, _, rfl, ?_⟩
      rw [show decide (V.str "crowd" = V.str "crowd") = true from decide_eq_true rfl]
      refine ⟨.int k, rfl, .ref D, rfl, .ref L, rfl, .ref a, rfl, a, _, 1, c, rfl, rfl, SqT.of ha, rfl, k, D, L, c, n, ts, g, o, rfl, hh, st, hF, n40, ok, by omega, hcr, hT, fun H' kt => ?_⟩
      have := q H' kt
      exact this
    | clash a b =>
      obtain ⟨c, rfl, ha, hA, hB⟩ := hx
      have e0 : ∀ m : Int, lenIs H (.ref c) m = decide ((3 : Int) = m) := fun m => by unfold lenIs; rw [parts_of' ha]; rfl
      refine ⟨.ref c, rfl, 2, .ref c, rfl, kx, _, rfl, ?_⟩
      rw [e0, decide_eq_false (by decide)]
      refine ⟨.ref c, rfl, 3, .ref c, rfl, kx, _, rfl, ?_⟩
      rw [e0, decide_eq_true rfl]
      refine ⟨.ref c, rfl, c, _, 0, .str "clash", rfl, rfl, SqT.of ha, rfl, _, rfl, trivial, _, rfl, ?_⟩
      rw [show decide (V.str "clash" = V.str "clash") = true from decide_eq_true rfl]
      refine ⟨.ref D, rfl, .ref L, rfl, .ref c, rfl, c, _, 1, a, rfl, rfl, SqT.of ha, rfl, .ref c, rfl, c, _, 2, b, rfl, rfl, SqT.of ha, rfl, D, L, a, b, n, ts, g, rfl, hh, st, hF, ok, by omega, hA, hB, fun H' s => ?_⟩
      have := q H' (Kt.same hT s)
      exact this
    | case a b t u =>
      obtain ⟨c, x1, y1, rfl, ha, hA, hB, h1, h2⟩ := hx
      have e0 : ∀ m : Int, lenIs H (.ref c) m = decide ((5 : Int) = m) := fun m => by unfold lenIs; rw [parts_of' ha]; rfl
      refine ⟨.ref c, rfl, 2, .ref c, rfl, kx, _, rfl, ?_⟩
      rw [e0, decide_eq_false (by decide)]
      refine ⟨.ref c, rfl, 3, .ref c, rfl, kx, _, rfl, ?_⟩
      rw [e0, decide_eq_false (by decide)]
      refine ⟨.ref c, rfl, 5, .ref c, rfl, kx, _, rfl, ?_⟩
      rw [e0, decide_eq_true rfl]
      refine ⟨.ref c, rfl, c, _, 0, .str "case", rfl, rfl, SqT.of ha, rfl, _, rfl, trivial, _, rfl, ?_⟩
      rw [show decide (V.str "case" = V.str "case") = true from decide_eq_true rfl]
      exact ⟨.int k, rfl, .ref D, rfl, .ref L, rfl, .ref c, rfl, k, D, L, c, n, ts, g, a, b, x1, y1, t, u, rfl, hh, st, hF, n40, ok, few, ha, hA, hB, h1, h2, dd, hT, q⟩
theorem ok_papers66 {fp fc : Addr} {dp dc : FuncData} {Ps : List Addr} (Fp : Fun K "paper_holds" "paper_holds" s_paper_holds fp dp) (Fc : Fun K "case_holds" "case_holds" s_case_holds fc dc) (M : Free mg) (gp : mg "paper_holds" = some (.ref fp)) (gc : mg "case_holds" = some (.ref fc)) (bp : L2.Binds K dp ["k", "heads", "foes", "thing"] []) (bc : L2.Binds K dc ["k", "heads", "foes", "thing"] []) (D_is_tuple_of : Df P w K mg base 1 "is_tuple_of" ["length", "thing"] spTupleOf) (D_crowd_holds : Df P w K mg base 6 "crowd_holds" ["k", "heads", "foes", "thing"] (spCrowdH Ps)) (D_clash_holds : Df P w K mg base 4 "clash_holds" ["heads", "foes", "one", "other"] spClashH) (D_are_unlike_places : Df P w K mg base 3 "are_unlike_places" ["many", "one", "other"] spUnlikePl) :
    ∀ d : Nat, FnOk P w K mg base CX0 (8 + 2 * d) fp dp ["k", "heads", "foes", "thing"] (spPaperR Ps d)
  | 0 => ⟨fun vs H Q E h => h.elim, fun B out z H ar us vs Q E _ _ _ _ h => h.elim⟩
  | d + 1 => by
    have Dp : Df P w K mg base (8 + 2 * d) "paper_holds" ["k", "heads", "foes", "thing"] (spPaperR Ps d) := ⟨fp, dp, ok_papers66 Fp Fc M gp gc bp bc D_is_tuple_of D_crowd_holds D_clash_holds D_are_unlike_places d, gp, Fp.kp, bp⟩
    have Dc : Df P w K mg base (8 + 2 * d + 1) "case_holds" ["k", "heads", "foes", "thing"] (spCaseH Ps d) := ⟨fc, dc, ok_case_holds66 d Fc M D_are_unlike_places Dp, gc, Fc.kp, bc⟩
    have e : 8 + 2 * (d + 1) = 8 + 2 * d + 2 := by omega
    rw [e]
    exact ok_paper_step66 d Fp D_is_tuple_of D_crowd_holds D_clash_holds Dc
def spNoneH (Ps : List Addr) : Sp := fun vs H Q _ => ∃ (v : V) (k : Int) (x : V) (n : Nat) (ts : List Tie) (t : QT), vs = [v, .int k, x] ∧ WebAt H v n ts ∧ WebOk n ts ∧ QTV H x t ∧ t.dep ≤ 90 ∧ Tabs Ps H ∧ ∀ H', Kt Ps H H' → Q (.bl (qOk k n ts t)) H'
set_option maxHeartbeats 4000000 in
theorem ok_none_holds {f : Addr} {fd : FuncData} {Ps : List Addr} (F : Fun K "none_holds" "none_holds" s_none_holds f fd) (D_heads_of : Df P w K mg base 4 "heads_of" ["web"] spHeads) (D_paper_holds : Df P w K mg base 190 "paper_holds" ["k", "heads", "foes", "thing"] (spPaperH Ps 90)) : FnOk P w K mg base CX0 191 f fd ["web", "k", "thing"] (spNoneH Ps) := by
  obtain ⟨f_heads_of, fd_heads_of, G_heads_of, g_heads_of, k_heads_of, b_heads_of⟩ := D_heads_of
  obtain ⟨f_paper_holds, fd_paper_holds, G_paper_holds, g_paper_holds, k_paper_holds, b_paper_holds⟩ := D_paper_holds
  refine F.ok sc_none_holds (fun vs H Q E h => ?_) (fun cdv A outer s H vs Q E hr h => ?_)
  · obtain ⟨v, k, x, n, ts, t, rfl, _⟩ := h
    rfl
  · obtain ⟨v, k, x, n, ts, t, rfl, hW, ok, hx, dd, hT, q⟩ := h
    refine ⟨_, (Evl.pss_cut (ps_setLc (i := 3) (own := [("one", 4), ("other", 5), ("kind", 6)]) (g := (gTup K 3 (gCons (gName 4) (gCons (gName 5) (gCons (gName 6) gNil))))) rfl sc_none_holds.nd rfl rfl (sw_true rfl rfl rfl (by decide +kernel)) (pi_tup (pe_ix ix_tup (pv 0) pe_int (fun _ _ => rfl))) (blkOk_by (N := N_none_holds) (sc := defScope s_none_holds) (own := [("one", 4), ("other", 5), ("kind", 6)]) (by decide +kernel)) (fun _ _ _ _ _ => (pg_tup rfl (pgs_cons (pg_name (i := 4) sc_none_holds.nd rfl (.inl rfl)) (pgs_cons (pg_name (i := 5) sc_none_holds.nd rfl (.inl rfl)) (pgs_cons (pg_name (i := 6) sc_none_holds.nd rfl (.inl rfl)) pgs_nil))))) (fun _ _ _ _ _ => (pts_one (pt_cmpR op_eq (pv 6) pe_str (nomark _)))) (fun _ _ _ _ _ => (pe_tup (pa_cons (pv 4) (pa_cons (pv 5) pa_nil)))))
      (pss_one (ps_ret (pe_call G_paper_holds (hr.mono (by decide)) (by rfl) g_paper_holds k_paper_holds b_paper_holds .nil pass0 (pa_cons (pv 1) (pa_cons (pe_call G_heads_of (hr.mono (by decide)) (by rfl) g_heads_of k_heads_of b_heads_of .nil pass0 (pa_cons (pv 0) pa_nil)) (pa_cons (pv 3) (pa_cons (pv 2) pa_nil)))))))), ?_⟩
    obtain ⟨wa, wb, us, rfl, hwa, hwb, hp⟩ := id hW
    have lu : us.length = ts.length := Paired.length hp
    have few := ok.few
    have n40 : n ≤ 40 := by have := ok.hi; omega
    have lo := ok.lo
    refine ⟨fun σ' H' => ∃ (Z : Addr) (y4 y5 y6 : Option V), σ' = [some (.ref wa), some (.int k), some x, some (.ref Z), y4, y5, y6] ∧ PrL H' Z (fps ts) ∧ Same H H', ?_, ?_⟩
    · refine ⟨.ref wa, rfl, wa, _, 1, .ref wb, rfl, rfl, SqT.of hwa, rfl, wb, rfl, ⟨_, SqT.of hwb⟩, fun Z nZ => ?_⟩
      refine lc_it (walk_tup (xs := us)) (fun i H' => PrL H' Z (fps (ts.take i)) ∧ Same H H') ⟨⟨[], upd_same, .nil⟩, same_new nZ⟩ (fun i H' _ h => SqT.of (h.2 _ _ hwb)) ?_ ?_
      · rintro i x1 H2 H3 hi ⟨hZ, s2⟩ ⟨rfl, ex⟩
        obtain ⟨t', et, c, rfl, hc⟩ := Paired.at hp ex
        have hc3 := s2 _ _ hc
        have etk : ts.take (i + 1) = ts.take i ++ [t'] := take_snoc et
        have ek : decide (V.str (kindS t'.foe) = V.str "foe") = t'.foe := by cases t'.foe <;> decide +kernel
        refine ⟨c, _, rfl, SqT.of hc3, rfl, _, _, rfl, _, _, rfl, _, _, rfl, rfl, ?_⟩
        refine ⟨rfl, .str (kindS t'.foe), rfl, rfl, _, rfl, ?_⟩
        rw [ek, etk]
        cases hf : t'.foe with
        | false =>
          have e : fps (ts.take i ++ [t']) = fps (ts.take i) := by
            unfold fps
            rw [List.filter_append, List.filter_cons_of_neg (by rw [hf]; decide)]
            simp
          rw [e]
          exact ⟨hZ, s2⟩
        | true =>
          have e : fps (ts.take i ++ [t']) = fps (ts.take i) ++ [(t'.one, t'.other)] := by
            unfold fps
            rw [List.filter_append, List.filter_cons_of_pos hf]
            simp
          rw [e]
          refine ⟨.int t'.one, rfl, .int t'.other, rfl, by show 2 ≤ sizeLine; decide, fun p np => ?_⟩
          have sp := same_new (o := .tup [.int t'.one, .int t'.other]) np
          obtain ⟨bs, hZ1, hbs⟩ := id hZ
          have lbs := Paired.length hbs
          have lfp := fps_len (ts.take i)
          rw [List.length_take] at lfp
          refine ⟨_, sp _ _ hZ1, by rw [List.length_map]; exact small1000 (by omega), PrL.snoc hZ sp upd_same (fun bs' hb' => ?_), Same.mut (s2.trans sp) nZ⟩
          have : bs' = bs := by
            rw [sp _ _ hZ1] at hb'
            injection hb' with hb'
            injection hb' with hb'
            exact (List.map_inj_right (fun x y h => by injection h)).mp hb'.symm
          rw [this, List.map_append]
          rfl
      · rintro H2 ⟨hZ, s2⟩
        rw [lu, List.take_length] at hZ
        exact ⟨Z, _, _, _, rfl, hZ, s2⟩
    rintro σ' H1 ⟨Z, y4, y5, y6, rfl, hZ, s1⟩
    refine ⟨.int k, rfl, .ref wa, rfl, .ref wa, n, ts, rfl, hW.tk (Same.tk s1), ok, fun D H2 s2 hh => ?_⟩
    have s12 := s1.trans s2
    have k2 := Kt.same hT s12
    refine ⟨.ref Z, rfl, x, rfl, k, D, Z, x, n, ts, _, t, rfl, hh, Stnd.hd ok.ok, hZ.same s2, ⟨by omega, n40⟩, ok.ok, by omega, hx.same s12, dd, k2.tab, fun H3 k3 => q _ (k2.trans k3)⟩
end
/-! ### repr of data with dicts (and no lists) -/
mutual
inductive DpL (K : PySem.W.Frag) (H : Hp) : V → PyData → Prop
  | non : DpL K H .non .none
  | bl (b : Bool) : DpL K H (.bl b) (.bool b)
  | int (i : Int) : DpL K H (.int i) (.int i)
  | str (x : Str) : DpL K H (.str x) (.str x)
  | tup {a : Addr} {xs : List V} {ds : List PyData} : SqT K H a xs → DpLAll K H xs ds → DpL K H (.ref a) (.tuple ds)
  | d0 {a : Addr} : H a = some (.dK []) → DpL K H (.ref a) (.dict [])
  | d1 {a : Addr} {k : Int} {v : V} {d : PyData} : H a = some (.dK [(Sum.inl k, v)]) → DpL K H v d → DpL K H (.ref a) (.dict [(.int k, d)])
inductive DpLAll (K : PySem.W.Frag) (H : Hp) : List V → List PyData → Prop
  | nil : DpLAll K H [] []
  | cons {v : V} {vs : List V} {d : PyData} {ds : List PyData} : DpL K H v d → DpLAll K H vs ds → DpLAll K H (v :: vs) (d :: ds)
end
section
variable {X : Cx} {pins : List (Addr × Obj)} {σ : L2.St} {H : Hp} {s : Shared}
mutual
theorem DpL.reads (I : Inv X pins σ H s) : ∀ {v : V} {d : PyData}, DpL X.K H v d → ∀ {u : Value}, RelV v u → ∃ as, Reads s.heap u d as ∧ sysModules ∉ as
  | _, _, .non, _, r => by
    cases r
    exact ⟨_, Reads.none, by simp⟩
  | _, _, .bl b, _, r => by
    cases r
    exact ⟨_, Reads.bool _, by simp⟩
  | _, _, .int i, _, r => by
    obtain ⟨t, rfl⟩ := r
    exact ⟨_, Reads.int _ _, by simp⟩
  | _, _, .str x, _, r => by
    obtain ⟨t, rfl⟩ := r
    exact ⟨_, Reads.str _ _, by simp⟩
  | _, _, .tup hs ha, _, r => by
    cases r
    obtain ⟨its, rv, ⟨o, ho, hc, n, hd⟩, hlen⟩ := I.tuple hs
    obtain ⟨as, hr, hn⟩ := DpLAll.reads I ha rv
    exact ⟨as, Reads.tuple ho hc hd (by simpa using hr), hn⟩
  | _, _, .d0 (a := a) h, _, r => by
    cases r
    obtain ⟨hz, hne, vs, kv, o, es, ep, ho, ed, hd, ko, pr, nd⟩ := I.hok a _ h
    cases kv
    cases he : es.toList with
    | cons x y =>
      rw [he] at pr
      cases pr
    | nil =>
      refine ⟨_, Reads.dict (as := []) (bs := []) ho ed.1 hd (by rw [he]; exact .nil) (by rw [he]; exact .nil), ?_⟩
      intro hm
      simp at hm
      rw [← hm] at hne
      simp at hne
  | _, _, .d1 (a := a) (k := k) (v := v) h hv, _, r => by
    cases r
    obtain ⟨hz, hne, vs, kv, o, es, ep, ho, ed, hd, ko, pr, nd⟩ := I.hok a _ h
    cases kv with
    | cons q qs =>
      cases qs
      rename_i y
      obtain ⟨q1, q2⟩ := q
      cases he : es.toList with
      | nil =>
        rw [he] at pr
        cases pr
      | cons e0 er =>
        rw [he] at pr
        cases pr with
        | cons i1 i2 i3 =>
          cases i3
          obtain ⟨bs, hr, hn⟩ := DpL.reads I hv q2
          rw [← q1] at i1
          have i1' : keyIs (Sum.inl k) e0.key = true := i1
          rcases keyIs_shape i1' with ⟨i, t, ek, ev⟩ | ⟨x, t, ek, ev⟩
          · cases ek
            refine ⟨_, Reads.dict (as := [] ++ []) (bs := bs ++ []) ho ed.1 hd (by rw [he]; show ReadsAll s.heap [e0.key] [.int k] _; rw [ev]; exact .cons (.int _ _) .nil) (by rw [he]; show ReadsAll s.heap [e0.val] [_] _; rw [i2]; exact .cons hr .nil), ?_⟩
            intro hm
            simp at hm
            rcases hm with hm | hm
            · rw [← hm] at hne
              simp at hne
            · exact hn hm
          · cases ek
theorem DpLAll.reads (I : Inv X pins σ H s) : ∀ {vs : List V} {ds : List PyData}, DpLAll X.K H vs ds → ∀ {us : List Value}, Vals vs us → ∃ as, ReadsAll s.heap us ds as ∧ sysModules ∉ as
  | _, _, .nil, _, r => by
    cases r
    exact ⟨_, .nil, by simp⟩
  | _, _, .cons h1 h2, _, r => by
    cases r with
    | cons r1 r2 =>
      obtain ⟨as, q1, n1⟩ := DpL.reads I h1 r1
      obtain ⟨bs, q2, n2⟩ := DpLAll.reads I h2 r2
      exact ⟨_, .cons q1 q2, fun hm => (List.mem_append.mp hm).elim n1 n2⟩
end
/-- what repr tells -/
def RdX (K : PySem.W.Frag) (H : Hp) (v : V) (d : PyData) : Prop := (Dp K H v d ∧ d.hasDict = false) ∨ DpL K H v d
def rReprX (K : PySem.W.Frag) : List V → Hp → VK → Prop := fun xs H Q => ∃ a d, xs = [.ref a] ∧ RdX K H (.ref a) d ∧ d.showable = true ∧ d.depth ≤ 60 ∧ d.shown.length ≤ sizeLine ∧ Q (.str d.shown) H
theorem call_reprX (hG : X.A.guards = some []) (hu : X.A.units + 64 < cLine) : CallR X (.builtin "repr") (rReprX X.K) := by
  intro pins z σ H xs us Q I rel want
  obtain ⟨a, d, ex, hd, h1, h3, h4, q⟩ := want
  subst ex
  obtain ⟨u, eu, rx⟩ := vals1 rel
  subst eu
  have hr : ∃ as, Reads z.heap u d as ∧ (d.hasDict = true → sysModules ∉ as) := by
    rcases hd with ⟨hd, hn⟩ | hd
    · obtain ⟨as, rd⟩ := Dp.reads I d (.ref a) u hd rx
      exact ⟨as, rd, fun h => by rw [hn] at h; cases h⟩
    · obtain ⟨as, rd, hn⟩ := DpL.reads I hd rx
      exact ⟨as, rd, fun _ => hn⟩
  obtain ⟨as, rd, hsm⟩ := hr
  obtain rfl : u = Value.ref a := rx
  exact repr_of_reads' rd h1 hsm hG (by omega) (fun _ _ h => h) (fun h' t tk kp => ⟨.str d.shown, H, I.kept kp, ⟨t, rfl⟩, q⟩) h4
end
/-! ### such data stay -/
def KpD (K : PySem.W.Frag) (H H' : Hp) : Prop := (∀ a xs, SqT K H a xs → SqT K H' a xs) ∧ (∀ a xs, SqL K H a xs → SqL K H' a xs) ∧ ∀ a kvs, H a = some (.dK kvs) → H' a = some (.dK kvs)
section
variable {K : PySem.W.Frag} {H H' : Hp}
mutual
theorem Dp.kp (k : KpD K H H') : ∀ {v : V} {d : PyData}, Dp K H v d → Dp K H' v d
  | _, _, .non => .non
  | _, _, .bl b => .bl b
  | _, _, .int i => .int i
  | _, _, .str x => .str x
  | _, _, .lst hs ha => .lst (k.2.1 _ _ hs) (DpAll.kp k ha)
  | _, _, .tup hs ha => .tup (k.1 _ _ hs) (DpAll.kp k ha)
theorem DpAll.kp (k : KpD K H H') : ∀ {vs : List V} {ds : List PyData}, DpAll K H vs ds → DpAll K H' vs ds
  | _, _, .nil => .nil
  | _, _, .cons h t => .cons (Dp.kp k h) (DpAll.kp k t)
end
mutual
theorem DpL.kp (k : KpD K H H') : ∀ {v : V} {d : PyData}, DpL K H v d → DpL K H' v d
  | _, _, .non => .non
  | _, _, .bl b => .bl b
  | _, _, .int i => .int i
  | _, _, .str x => .str x
  | _, _, .tup hs ha => .tup (k.1 _ _ hs) (DpLAll.kp k ha)
  | _, _, .d0 h => .d0 (k.2.2 _ _ h)
  | _, _, .d1 h hv => .d1 (k.2.2 _ _ h) (DpL.kp k hv)
theorem DpLAll.kp (k : KpD K H H') : ∀ {vs : List V} {ds : List PyData}, DpLAll K H vs ds → DpLAll K H' vs ds
  | _, _, .nil => .nil
  | _, _, .cons h t => .cons (DpL.kp k h) (DpLAll.kp k t)
end
theorem RdX.kp (k : KpD K H H') {v : V} {d : PyData} (h : RdX K H v d) : RdX K H' v d := by
  rcases h with ⟨h, n⟩ | h
  · exact .inl ⟨Dp.kp k h, n⟩
  · exact .inr (DpL.kp k h)
theorem KpD.same (s : Same H H') : KpD K H H' := by
  refine ⟨fun a xs h => ?_, fun a xs h => s.seq h, fun a kvs h => s _ _ h⟩
  rcases h with (h | ⟨o, h⟩) | h
  · exact .inl (.inl (s _ _ h))
  · exact .inl (.inr ⟨o, s _ _ h⟩)
  · exact .inr h
theorem KpD.trans {H1 : Hp} (a : KpD K H H1) (b : KpD K H1 H') : KpD K H H' := ⟨fun x xs h => b.1 x xs (a.1 x xs h), fun x xs h => b.2.1 x xs (a.2.1 x xs h), fun x xs h => b.2.2 x xs (a.2.2 x xs h)⟩
end
/-! ### what can be told -/
structure FineX (k w : Nat) (d : PyData) : Prop where
  shw : d.showable = true
  lsh : d.leavesShort 80 = true
  dep : d.depth ≤ k
  wei : d.weight ≤ w
theorem FineX.mono {k k' w w' : Nat} {d : PyData} (h : FineX k w d) (hk : k ≤ k') (hw : w ≤ w') : FineX k' w' d := ⟨h.shw, h.lsh, Nat.le_trans h.dep hk, Nat.le_trans h.wei hw⟩
theorem FineX.int {i : Int} (h : i.natAbs < 10 ^ 70) : FineX 0 240 (.int i) := by
  have hl : i.natAbs ≠ 0 → i.natAbs.log2 < 233 := fun e => (Nat.log2_lt e).mpr (Nat.lt_of_lt_of_le h (by decide))
  have hl2 : i.natAbs.log2 < 1920 := by
    by_cases e : i.natAbs = 0
    · rw [e]; decide
    · have := hl e; omega
  refine ⟨by rw [PyData.showable]; exact decide_eq_true hl2, ?_, Nat.le_refl _, ?_⟩
  · rw [PyData.leavesShort]
    refine decide_eq_true ?_
    have e := int_text_length_le10 (k := 70) (by decide) h
    show (Str.ofString (toString i)).length ≤ 80
    rw [PySem.ofString_length]
    omega
  · rw [PyData.weight]
    split
    · omega
    · rename_i e
      have := hl (fun z => e (by simpa using z))
      omega
theorem FineX.non : FineX 0 0 .none := ⟨rfl, rfl, Nat.le_refl _, Nat.le_refl _⟩
theorem FineX.bool (b : Bool) : FineX 0 0 (.bool b) := ⟨rfl, rfl, Nat.le_refl _, Nat.le_refl _⟩
theorem FineX.str {x : Str} (h1 : (PyData.str x).leavesShort 80 = true) (h2 : x.cps.size ≤ 100) : FineX 0 100 (.str x) := ⟨rfl, h1, Nat.le_refl _, h2⟩
theorem finex_all {k w : Nat} : ∀ {xs : List PyData}, (∀ x ∈ xs, FineX k w x) → PyData.showableAll xs = true ∧ PyData.leavesShortAll 80 xs = true ∧ PyData.depthAll xs ≤ k ∧ PyData.weightAll xs ≤ xs.length * (w + 1)
  | [], _ => by simp [PyData.showableAll, PyData.leavesShortAll, PyData.depthAll, PyData.weightAll]
  | x :: xs, h => by
    obtain ⟨h1, h2, h3, h4⟩ := finex_all (xs := xs) fun y hy => h y (List.mem_cons_of_mem _ hy)
    obtain ⟨g1, g2, g3, g4⟩ := h x (by simp)
    refine ⟨by rw [PyData.showableAll, g1, h1]; rfl, by rw [PyData.leavesShortAll, g2, h2]; rfl, ?_, ?_⟩
    · rw [PyData.depthAll]
      omega
    · rw [PyData.weightAll, List.length_cons, Nat.succ_mul]
      omega
theorem FineX.tup {k w n : Nat} {xs : List PyData} (h : ∀ x ∈ xs, FineX k w x) (hn : xs.length ≤ n) : FineX (k + 1) (n * (w + 1)) (.tuple xs) := by
  obtain ⟨h1, h2, h3, h4⟩ := finex_all h
  refine ⟨by rw [PyData.showable]; exact h1, by rw [PyData.leavesShort]; exact h2, by rw [PyData.depth]; omega, ?_⟩
  rw [PyData.weight]
  exact Nat.le_trans h4 (Nat.mul_le_mul_right _ hn)
theorem FineX.lst {k w n : Nat} {xs : List PyData} (h : ∀ x ∈ xs, FineX k w x) (hn : xs.length ≤ n) : FineX (k + 1) (n * (w + 1)) (.list xs) := by
  obtain ⟨h1, h2, h3, h4⟩ := finex_all h
  refine ⟨by rw [PyData.showable]; exact h1, by rw [PyData.leavesShort]; exact h2, by rw [PyData.depth]; omega, ?_⟩
  rw [PyData.weight]
  exact Nat.le_trans h4 (Nat.mul_le_mul_right _ hn)
theorem FineX.d0 : FineX 1 0 (.dict []) := ⟨rfl, rfl, by decide, by decide⟩
theorem FineX.d1 {k w : Nat} {i : Int} {d : PyData} (hi : i.natAbs < 10 ^ 70) (h : FineX k w d) : FineX (k + 1) (w + 300) (.dict [(.int i, d)]) := by
  obtain ⟨g1, g2, g3, g4⟩ := FineX.int hi
  refine ⟨by simp only [PyData.showable, PyData.showableKv, Bool.and_true] at g1 ⊢; rw [Bool.and_eq_true]; exact ⟨g1, h.shw⟩, by simp only [PyData.leavesShort, PyData.leavesShortKv, Bool.and_true] at g2 ⊢; rw [Bool.and_eq_true]; exact ⟨g2, h.lsh⟩, ?_, ?_⟩
  · simp only [PyData.depth, PyData.depthKv]
    have := h.dep
    omega
  · simp only [PyData.weight, PyData.weightKv] at g4 ⊢
    have := h.wei
    omega
theorem FineX.len {k w : Nat} {d : PyData} (h : FineX k w d) (hw : w ≤ 200000) : d.shown.length ≤ sizeLine := by
  have := PyData.shown_le 80 (by decide) d h.lsh
  have h2 : (80 + 2) * d.weight ≤ 82 * 200000 := Nat.mul_le_mul (by decide) (Nat.le_trans h.wei hw)
  rw [sizeLine_eq]
  omega
theorem kind_okX (b : Bool) : (PyData.str (kindS b)).leavesShort 80 = true ∧ (kindS b).cps.size ≤ 100 := by cases b <;> decide +kernel
theorem small_int {i : Int} (h0 : -1000 ≤ i) (h1 : i < 1000) : FineX 0 10 (.int i) := by
  have h := FineX.int (i := i) (Nat.lt_of_lt_of_le (show i.natAbs < 1001 by omega) (by decide))
  refine ⟨h.shw, h.lsh, h.dep, ?_⟩
  rw [PyData.weight]
  split
  · omega
  · rename_i e
    have hn : i.natAbs < 1024 := by omega
    have := (Nat.log2_lt (show i.natAbs ≠ 0 from fun z => e (by simpa using z))).mpr (show i.natAbs < 2 ^ 10 by omega)
    omega
theorem FineX.tie {n : Int} {t : Tie} (h : TieOk n t) (hn : n ≤ 40) : FineX 1 303 (tieD t) := by
  obtain ⟨h1, h2, h3, h4, _⟩ := h
  refine (FineX.tup (k := 0) (w := 100) (n := 3) (fun x hx => ?_) (Nat.le_refl _)).mono (Nat.le_refl _) (by decide)
  simp only [List.mem_cons, List.not_mem_nil, or_false] at hx
  rcases hx with rfl | rfl | rfl
  · exact (small_int (by omega) (by omega)).mono (Nat.le_refl _) (by decide)
  · exact (small_int (by omega) (by omega)).mono (Nat.le_refl _) (by decide)
  · exact FineX.str (kind_okX _).1 (kind_okX _).2
theorem FineX.web {n : Int} {ts : List Tie} (h : WebOk n ts) : FineX 3 80000 (webD n ts) := by
  have h1 := h.lo
  have h2 := h.hi
  have ft : FineX 2 36480 (.tuple (ts.map tieD)) := (FineX.tup (k := 1) (w := 303) (n := 120) (fun x hx => by
    obtain ⟨t, ht, rfl⟩ := List.mem_map.mp hx
    exact FineX.tie (h.ok t ht) h2) (by rw [List.length_map]; exact h.few)).mono (Nat.le_refl _) (by decide)
  refine (FineX.tup (k := 2) (w := 36480) (n := 2) (fun x hx => ?_) (Nat.le_refl _)).mono (Nat.le_refl _) (by decide)
  simp only [List.mem_cons, List.not_mem_nil, or_false] at hx
  rcases hx with rfl | rfl
  · exact (small_int (by omega) (by omega)).mono (by decide) (by decide)
  · exact ft
theorem dpl_ties {K : PySem.W.Frag} {H : Hp} : ∀ {vs : List V} {ts : List Tie}, Paired (TieV H) vs ts → DpLAll K H vs (ts.map tieD)
  | _, _, .nil => .nil
  | _, _, .cons r t => by
    obtain ⟨a, rfl, e⟩ := r
    exact .cons (.tup (SqT.of e) (.cons (.int _) (.cons (.int _) (.cons (.str _) .nil)))) (dpl_ties t)
theorem WebAt.dpl {K : PySem.W.Frag} {H : Hp} {v : V} {n : Int} {ts : List Tie} (h : WebAt H v n ts) : DpL K H v (webD n ts) := by
  obtain ⟨a, b, vs, rfl, h1, h2, h3⟩ := h
  exact .tup (SqT.of h1) (.cons (.int _) (.cons (.tup (SqT.of h2) (dpl_ties h3)) .nil))
theorem web_nod (n : Int) (ts : List Tie) : (webD n ts).hasDict = false := by
  have h : ∀ ts : List Tie, PyData.hasDictAll (ts.map tieD) = false := fun ts => by
    induction ts with
    | nil => rfl
    | cons t ts ih => rw [List.map_cons, PyData.hasDictAll, ih]; rfl
  unfold webD
  simp only [PyData.hasDict, PyData.hasDictAll, h, Bool.or_false]
/-- a web beside a thing -/
theorem RdX.pair {K : PySem.W.Frag} {H : Hp} {r : Addr} {wv v : V} {n : Int} {ts : List Tie} {d : PyData} (hr : H r = some (.tup [wv, v])) (hw : WebAt H wv n ts) (h : RdX K H v d) : RdX K H (.ref r) (.tuple [webD n ts, d]) := by
  rcases h with ⟨h, hn⟩ | h
  · refine .inl ⟨.tup (SqT.of hr) (.cons hw.dp (.cons h .nil)), ?_⟩
    simp only [PyData.hasDict, PyData.hasDictAll, web_nod, hn, Bool.or_false]
  · exact .inr (.tup (SqT.of hr) (.cons hw.dpl (.cons h .nil)))
def spSameB : Sp := fun vs H Q _ => ∃ b : Bool, vs = [.bl b, .bl b] ∧ Q (.bl true) H
section
variable {P : Program} {w : World} {K : PySem.W.Frag} {mg : Str → Option Value} {base : Heap}
theorem ok_l_same {f : Addr} {fd : FuncData} (F : Fun K "_law_same" "_law_same" s_l_same f fd) (M : Free mg) : FnOk P w K mg base CX0 1 f fd ["_law_found", "_law_due"] spSameB := by
  refine F.ok sc_l_same (fun vs H Q E h => ?_) (fun cdv A outer s H vs Q E hr h => ?_)
  · obtain ⟨b, rfl, _⟩ := h
    rfl
  · obtain ⟨b, rfl, q⟩ := h
    refine ⟨_, (pss_one (ps_ret (pe_and (pe_callB call_isi (by rfl) M.isinstance (by decide +kernel) (pa_cons (pv 0) (pa_cons (pe_bltn (v := .ty "bool") (by rfl) M.bool (by decide +kernel) rfl) pa_nil))) (pe_one (pe_cmpR op_eq (pv 0) (pv 1) (nomark _)))))), ?_⟩
    obtain ⟨t3, h3, e3⟩ := kn_bool (K := K) (H := H) (v := .bl b) trivial
    refine ⟨.bl b, rfl, .bl b, _, t3, _, _, rfl, .ty "bool", h3, e3, _, rfl, .bl b, rfl, .bl b, rfl, rfl, ?_⟩
    rw [decide_eq_true rfl]
    exact q
end
theorem Tabs.kp {Ps : List Addr} {d c : Addr} {H H' : Hp} (t : Tabs Ps H) (k : Kp d c H H') (D : Deck H d c) : Tabs Ps H' := fun P hP => by
  obtain ⟨ps, e, x⟩ := t P hP
  obtain ⟨cells, st, n, e1, e2, _⟩ := D
  exact ⟨ps, k _ _ (ne_of e e1 (by intro z; cases z)) (ne_of e e2 (by intro z; cases z)) e, x⟩
theorem Tabs.same {Ps : List Addr} {H H' : Hp} (t : Tabs Ps H) (s : Same H H') : Tabs Ps H' := (Kt.same t s).tab
/-! ### k69: webs of parts of many friends -/
structure TsAt (H0 H : Hp) (d c L : Addr) (m : Int) (vs : List V) (ts : List Tie) : Prop where
  hL : H L = some (.lst vs)
  hp : Paired (TieV H) vs ts
  ok : ∀ t ∈ ts, TieOk m t
  dk : Deck H d c
  kp : Kp d c H0 H
  nL : H0 L = none
  Ld : L ≠ d ∧ L ≠ c
theorem TieOk.more {m m' : Int} {t : Tie} (o : TieOk m t) (h : m ≤ m') : TieOk m' t := by
  obtain ⟨h1, h2, h3, h4, h5⟩ := o
  exact ⟨h1, by omega, h3, by omega, h5⟩
section
variable {H0 H : Hp} {d c L : Addr} {m : Int} {vs : List V} {ts : List Tie}
theorem TsAt.more (g : TsAt H0 H d c L m vs ts) {m' : Int} (h : m ≤ m') : TsAt H0 H d c L m' vs ts := ⟨g.hL, g.hp, fun t ht => (g.ok t ht).more h, g.dk, g.kp, g.nL, g.Ld⟩
theorem TsAt.same (g : TsAt H0 H d c L m vs ts) {H' : Hp} (s : Same H H') : TsAt H0 H' d c L m vs ts := ⟨s _ _ g.hL, ties_tk (Same.tk s) g.hp, g.ok, g.dk.same s, g.kp.trans (Same.kp s), g.nL, g.Ld⟩
theorem TsAt.kpd (g : TsAt H0 H d c L m vs ts) {H' : Hp} (k : Kp d c H H') (D : Deck H' d c) : TsAt H0 H' d c L m vs ts := ⟨k _ _ g.Ld.1 g.Ld.2 g.hL, ties_tk (k.tk g.dk) g.hp, g.ok, D, g.kp.trans k, g.nL, g.Ld⟩
theorem TsAt.put (g : TsAt H0 H d c L m vs ts) {F : Addr} {xs ys : List V} (hF : H F = some (.lst xs)) (nF : H0 F = none) (FL : F ≠ L) (Fd : F ≠ d ∧ F ≠ c) : TsAt H0 (upd H F (.lst ys)) d c L m vs ts :=
  ⟨by rw [upd_ne FL.symm]; exact g.hL, ties_tk (tk_lst hF) g.hp, g.ok, g.dk.mut Fd.1 Fd.2, g.kp.mut nF, g.nL, g.Ld⟩
theorem TsAt.add (g : TsAt H0 H d c L m vs ts) {q : Addr} (nq : H q = none) (t : Tie) (o : TieOk m t) : TsAt H0 (upd (upd H q (.tup [.int t.one, .int t.other, .str (kindS t.foe)])) L (.lst (vs ++ [.ref q]))) d c L m (vs ++ [.ref q]) (ts ++ [t]) := by
  have s := same_new (o := .tup [.int t.one, .int t.other, .str (kindS t.foe)]) nq
  have g1 := g.same s
  refine ⟨upd_same, Paired.snoc (ties_tk (tk_lst g1.hL) g1.hp) ⟨q, rfl, tk_lst g1.hL _ _ upd_same⟩, fun u hu => ?_, g1.dk.mut g.Ld.1 g.Ld.2, g1.kp.mut g.nL, g.nL, g.Ld⟩
  rcases List.mem_append.mp hu with h | h
  · exact g.ok u h
  · rw [List.mem_singleton.mp h]; exact o
end
theorem TsAt.app {H0 H : Hp} {d c L q : Addr} {m : Int} {vs : List V} {ts : List Tie} (g : TsAt H0 H d c L m vs ts) (t : Tie) (hq : H q = some (.tup [.int t.one, .int t.other, .str (kindS t.foe)])) (o : TieOk m t) : TsAt H0 (upd H L (.lst (vs ++ [.ref q]))) d c L m (vs ++ [.ref q]) (ts ++ [t]) := by
  refine ⟨upd_same, Paired.snoc (ties_tk (tk_lst g.hL) g.hp) ⟨q, rfl, tk_lst g.hL _ _ hq⟩, fun u hu => ?_, g.dk.mut g.Ld.1 g.Ld.2, g.kp.mut g.nL, g.nL, g.Ld⟩
  rcases List.mem_append.mp hu with h | h
  · exact g.ok u h
  · rw [List.mem_singleton.mp h]; exact o
/-! ### papers told by repr -/
def NT.siz : NT → Nat
  | .crowd _ => 1
  | .clash _ _ => 1
  | .case _ _ t u => 1 + t.siz + u.siz
def Sml (x : Int) : Prop := -5 ≤ x ∧ x < 100
def NT.sml : NT → Prop
  | .crowd xs => xs.length ≤ 17 ∧ ∀ x ∈ xs, Sml x
  | .clash a b => Sml a ∧ Sml b
  | .case a b t u => (Sml a ∧ Sml b) ∧ t.sml ∧ u.sml
def NT.d : NT → PyData
  | .crowd xs => .tuple [.str "crowd", .tuple (xs.map .int)]
  | .clash a b => .tuple [.str "clash", .int a, .int b]
  | .case a b t u => .tuple [.str "case", .int a, .int b, t.d, u.d]
theorem dpl_ints68 {K : PySem.W.Frag} {H : Hp} : ∀ (ns : List Int), DpLAll K H (ns.map V.int) (ns.map PyData.int)
  | [] => .nil
  | _ :: ns => .cons (.int _) (dpl_ints68 ns)
theorem NTV.dpl {K : PySem.W.Frag} {H : Hp} : ∀ {t : NT} {v : V}, NTV H v t → DpL K H v t.d
  | .crowd xs, v, ⟨a, c, e, h1, h2⟩ => by
    subst e
    exact .tup (SqT.of h1) (.cons (.str _) (.cons (.tup (SqT.of h2) (dpl_ints68 xs)) .nil))
  | .clash a b, v, ⟨c, e, h⟩ => by
    subst e
    exact .tup (SqT.of h) (.cons (.str _) (.cons (.int _) (.cons (.int _) .nil)))
  | .case a b t u, v, ⟨c, x, y, e, h, h1, h2⟩ => by
    subst e
    exact .tup (SqT.of h) (.cons (.str _) (.cons (.int _) (.cons (.int _) (.cons (NTV.dpl h1) (.cons (NTV.dpl h2) .nil)))))
theorem sml_fine {x : Int} (h : Sml x) : FineX 0 10 (.int x) := small_int (by have := h.1; omega) (by have := h.2; omega)
theorem word_fine {s : Str} (h1 : (PyData.str s).leavesShort 80 = true) (h2 : s.cps.size ≤ 100) : FineX 0 100 (.str s) := FineX.str h1 h2
/-- a tuple is told by its parts, each with its own weight -/
theorem FineX.cons2 {k w1 w2 : Nat} {x : PyData} {xs : List PyData} (h : FineX k w1 x) (g : FineX (k + 1) w2 (.tuple xs)) : FineX (k + 1) (w1 + 1 + w2) (.tuple (x :: xs)) := by
  obtain ⟨g1, g2, g3, g4⟩ := g
  obtain ⟨h1, h2, h3, h4⟩ := h
  rw [PyData.showable] at g1
  rw [PyData.leavesShort] at g2
  rw [PyData.depth] at g3
  rw [PyData.weight] at g4
  refine ⟨by rw [PyData.showable, PyData.showableAll, h1, g1]; rfl, by rw [PyData.leavesShort, PyData.leavesShortAll, h2, g2]; rfl, ?_, ?_⟩
  · rw [PyData.depth, PyData.depthAll]
    omega
  · rw [PyData.weight, PyData.weightAll]
    omega
theorem FineX.nilT (k : Nat) : FineX (k + 1) 0 (.tuple []) := ⟨rfl, rfl, by show 1 ≤ k + 1; omega, Nat.le_refl _⟩
theorem NT.fine : ∀ {t : NT}, t.sml → FineX (t.dep + 2) (400 * t.siz) t.d
  | .crowd xs, ⟨h1, h2⟩ => by
    have row : FineX 1 187 (.tuple (xs.map .int)) := FineX.tup (k := 0) (w := 10) (n := 17) (fun x hx => by
      obtain ⟨z, hz, rfl⟩ := List.mem_map.mp hx
      exact sml_fine (h2 z hz)) (by rw [List.length_map]; exact h1)
    exact ((FineX.cons2 (k := 1) ((word_fine (s := "crowd") (by decide +kernel) (by decide +kernel)).mono (Nat.zero_le _) (Nat.le_refl _)) (FineX.cons2 row (FineX.nilT 1)))).mono (Nat.le_refl _) (by show 100 + 1 + (187 + 1 + 0) ≤ 400 * 1; omega)
  | .clash a b, ⟨h1, h2⟩ => by
    exact (FineX.cons2 (k := 0) (word_fine (s := "clash") (by decide +kernel) (by decide +kernel)) (FineX.cons2 (sml_fine h1) (FineX.cons2 (sml_fine h2) (FineX.nilT 0)))).mono (by show 1 ≤ 0 + 2; omega) (by show 100 + 1 + (10 + 1 + (10 + 1 + 0)) ≤ 400 * 1; omega)
  | .case a b t u, ⟨⟨h1, h2⟩, h3, h4⟩ => by
    have f3 := NT.fine h3
    have f4 := NT.fine h4
    have m1 : t.dep ≤ max t.dep u.dep := Nat.le_max_left _ _
    have m2 : u.dep ≤ max t.dep u.dep := Nat.le_max_right _ _
    have z : ∀ {w : Nat} {d : PyData}, FineX 0 w d → FineX (max t.dep u.dep + 2) w d := fun f => f.mono (Nat.zero_le _) (Nat.le_refl _)
    exact (FineX.cons2 (z (word_fine (s := "case") (by decide +kernel) (by decide +kernel))) (FineX.cons2 (z (sml_fine h1)) (FineX.cons2 (z (sml_fine h2)) (FineX.cons2 (f3.mono (by omega) (Nat.le_refl _)) (FineX.cons2 (f4.mono (by omega) (Nat.le_refl _)) (FineX.nilT _)))))).mono (by show max t.dep u.dep + 2 + 1 ≤ 1 + max t.dep u.dep + 2; omega) (by show 100 + 1 + (10 + 1 + (10 + 1 + (400 * t.siz + 1 + (400 * u.siz + 1 + 0)))) ≤ 400 * (1 + t.siz + u.siz); omega)
theorem fine_pair {k1 w1 k2 w2 : Nat} {a b : PyData} (h1 : FineX k1 w1 a) (h2 : FineX k2 w2 b) : FineX (max k1 k2 + 1) (w1 + 1 + (w2 + 1 + 0)) (.tuple [a, b]) :=
  FineX.cons2 (h1.mono (Nat.le_max_left _ _) (Nat.le_refl _)) (FineX.cons2 (h2.mono (Nat.le_max_right _ _) (Nat.le_refl _)) (FineX.nilT _))
def spRight68 (K : PySem.W.Frag) (Ps : List Addr) : Sp := fun vs H Q _ => ∃ (v : V) (k : Int) (x : V) (n : Nat) (ts : List Tie) (t : QT) (d : PyData), vs = [v, .int k, x] ∧ WebAt H v n ts ∧ WebOk n ts ∧ QTV H x t ∧ t.dep ≤ 90 ∧ RdX K H x d ∧ FineX 50 100000 d ∧ Tabs Ps H ∧ ∀ H', Kt Ps H H' → Q (.bl true) H'
def spWebS : Sp := fun vs H Q _ => ∃ (d c : Addr), vs = [.ref d] ∧ Deck H d c ∧ ∀ v n ts H', WebAt H' v n ts → WebOk n ts → n ≤ 5 → 2 ≤ n → ts.length ≤ 60 → Deck H' d c → Kp d c H H' → Q v H'
theorem KpD.kt68 {K : PySem.W.Frag} {Ps : List Addr} {H H' : Hp} (t : Tabs Ps H) (k : Kt Ps H H') : KpD K H H' := by
  refine ⟨fun a xs h => ?_, fun a xs h => ?_, fun a kvs h => k.dct t h⟩
  · rcases h with (h | ⟨o, h⟩) | h
    · exact .inl (.inl (k.tup t h))
    · exact .inl (.inr ⟨o, k.keep _ _ (t.out h fun _ z => by cases z) h⟩)
    · exact .inr h
  · rcases h with (h | ⟨o, h⟩) | h
    · exact .inl (.inl (k.lst t h))
    · exact .inl (.inr ⟨o, k.keep _ _ (t.out h fun _ z => by cases z) h⟩)
    · exact .inr h
section
variable {P : Program} {w : World} {K : PySem.W.Frag} {mg : Str → Option Value} {base : Heap}
set_option maxHeartbeats 4000000 in
theorem ok_l_small_web {f : Addr} {fd : FuncData} (F : Fun K "_law_small_web" "_law_small_web" s_l_small_web f fd) (M : Free mg) (D_l_draw : Df P w K mg base 1 "_law_draw" ["_law_deck_here", "_law_most"] spDraw) : FnOk P w K mg base CX0 2 f fd ["_law_deck_here"] spWebS := by
  obtain ⟨f_l_draw, fd_l_draw, G_l_draw, g_l_draw, k_l_draw, b_l_draw⟩ := D_l_draw
  refine F.ok sc_l_small_web (fun vs H Q E h => ?_) (fun cdv A outer s H vs Q E hr h => ?_)
  · obtain ⟨d, c, rfl, _⟩ := h
    rfl
  · obtain ⟨d, c, rfl, hD, q⟩ := h
    refine ⟨_, (Evl.pss_cut (ps_set (i := 1) sc_l_small_web.nd rfl (.inl rfl) (pe_op op_add pe_int (pe_call G_l_draw (hr.mono (by decide)) (by rfl) g_l_draw k_l_draw b_l_draw .nil pass0 (pa_cons (pv 0) (pa_cons pe_int pa_nil)))))
      (pss_cons (ps_set (i := 2) sc_l_small_web.nd rfl (.inl rfl) (pe_lst pa_nil))
      (pss_cons (ps_for PassesOwn.never rfl (pi_range1 (by rfl) M.range (pa_cons (pv 1) pa_nil)) (pg_name (i := 3) sc_l_small_web.nd rfl (.inl rfl))
        (pss_one (ps_for PassesOwn.never rfl (pi_range1 (by rfl) M.range (pa_cons (pv 3) pa_nil)) (pg_name (i := 4) sc_l_small_web.nd rfl (.inl rfl))
          (pss_cons (ps_set (i := 5) sc_l_small_web.nd rfl (.inl rfl) (pe_call G_l_draw (hr.mono (by decide)) (by rfl) g_l_draw k_l_draw b_l_draw .nil pass0 (pa_cons (pv 0) (pa_cons pe_int pa_nil))))
          (Evl.pss_cut (ps_if (pt_cmpR op_gt (pv 5) pe_int (nomark _))
            (pss_one (ps_expr (pe_bm PySem.F.plainAttrs_list PySem.F.slot_list_append PySem.F.type_list_append mt_append (pv 2) (pa_cons (pe_op op_catU (pe_ix ix_list (pe_lst (pa_cons (pe_tup (pa_cons (pv 3) (pa_cons (pv 4) pa_nil))) (pa_cons (pe_tup (pa_cons (pv 4) (pa_cons (pv 3) pa_nil))) pa_nil))) (pe_call G_l_draw (hr.mono (by decide)) (by rfl) g_l_draw k_l_draw b_l_draw .nil pass0 (pa_cons (pv 0) (pa_cons pe_int pa_nil))) (fun _ _ => rfl)) (pe_tup (pa_cons pe_str pa_nil))) pa_nil))))
            pss_nil)
          (Evl.pss_cut (ps_if (PW.pt (pw_or (pt_cmpR op_eq (pv 5) pe_int (nomark _)) (pw_or1 (PW.pt (pw_and (pt_cmpR op_eq (pv 5) pe_int (nomark _)) (pw_and1 (pt_cmpR op_eq (pe_call G_l_draw (hr.mono (by decide)) (by rfl) g_l_draw k_l_draw b_l_draw .nil pass0 (pa_cons (pv 0) (pa_cons pe_int pa_nil))) pe_int (nomark _))))))))
            (pss_one (ps_expr (pe_bm PySem.F.plainAttrs_list PySem.F.slot_list_append PySem.F.type_list_append mt_append (pv 2) (pa_cons (pe_tup (pa_cons (pv 3) (pa_cons (pv 4) (pa_cons pe_str pa_nil)))) pa_nil))))
            pss_nil)
          (pss_one (ps_if (PW.pt (pw_and (pt_cmpR op_eq (pv 5) pe_int (nomark _)) (pw_and1 (pt_cmpR op_eq (pe_call G_l_draw (hr.mono (by decide)) (by rfl) g_l_draw k_l_draw b_l_draw .nil pass0 (pa_cons (pv 0) (pa_cons pe_int pa_nil))) pe_int (nomark _)))))
            (pss_one (ps_expr (pe_bm PySem.F.plainAttrs_list PySem.F.slot_list_append PySem.F.type_list_append mt_append (pv 2) (pa_cons (pe_tup (pa_cons (pv 4) (pa_cons (pv 3) (pa_cons pe_str pa_nil)))) pa_nil))))
            pss_nil))))))))
      (pss_cons (ps_set (i := 6) sc_l_small_web.nd rfl (.inl rfl) (pe_call G_l_draw (hr.mono (by decide)) (by rfl) g_l_draw k_l_draw b_l_draw .nil pass0 (pa_cons (pv 0) (pa_cons (pe_op op_add (pe_callB call_len_seq (by rfl) M.len PySem.boot_len (pa_cons (pv 2) pa_nil)) pe_int) pa_nil))))
      (pss_one (ps_ret (pe_tup (pa_cons (pv 1) (pa_cons (pe_callTy call_tuple_of (by rfl) M.tuple (by decide +kernel) (pa_cons (pe_op op_cat (pe_slice sl_list (pv 2) (po_some (pv 6)) po_none) (pe_slice sl_list (pv 2) po_none (po_some (pv 6)))) pa_nil)) pa_nil))))))))), ?_⟩
    refine ⟨fun σ' H' => ∃ m : Nat, σ' = [some (.ref d), some (.int m), none, none, none, none, none] ∧ 2 ≤ m ∧ m ≤ 5 ∧ Deck H' d c ∧ Kp d c H H', ?_, ?_⟩
    · refine ⟨.ref d, rfl, d, c, 4, rfl, hD, by decide, by decide, fun v1 H1 a1 b1 D1 K1 => ⟨2, v1, rfl, rfl, (2 + v1).toNat, ?_, by omega, by omega, D1, K1⟩⟩
      rw [show (((2 + v1).toNat : Nat) : Int) = 2 + v1 from by omega]
      rfl
    rintro σ' H1 ⟨m, rfl, m3, m8, D1, K1⟩
    refine ⟨Nat.zero_le _, fun L nL => ?_⟩
    have hLd := D1.ned nL
    have nL0 := K1.free nL hLd.1 hLd.2
    have g2 : TsAt H (upd H1 L (.lst [])) d c L m [] [] := ⟨upd_same, .nil, fun t ht => (by cases ht), D1.new nL, K1.trans (Kp.new nL), nL0, hLd⟩
    generalize upd H1 L (.lst []) = H2 at g2
    refine ⟨.int m, rfl, m, rfl, by omega, by omega, ?_⟩
    refine for_range (lo := 0) (n := (m : Int).toNat) (fun i σ' H' => ∃ (y3 y4 y5 : Option V) (vs : List V) (ts : List Tie), σ' = [some (.ref d), some (.int m), some (.ref L), y3, y4, y5, none] ∧ TsAt H H' d c L m vs ts ∧ ts.length ≤ 12 * i) ⟨none, none, none, [], [], rfl, g2, Nat.le_refl _⟩ ?_ ?_
    · rintro i σ' H3 hi ⟨y3, y4, y5, vs, ts, rfl, g3, lt⟩
      refine ⟨.int (0 + (i : Nat)), rfl, _, rfl, by omega, by omega, ?_⟩
      refine for_range (lo := 0) (n := (0 + (i : Int)).toNat) (fun j σ' H' => ∃ (y4 y5 : Option V) (vs : List V) (ts2 : List Tie), σ' = [some (.ref d), some (.int m), some (.ref L), some (.int (0 + (i : Nat))), y4, y5, none] ∧ TsAt H H' d c L m vs ts2 ∧ ts2.length ≤ ts.length + 3 * j) ⟨y4, y5, vs, ts, rfl, g3, Nat.le_refl _⟩ ?_ ?_
      · rintro j σ' H4 hj ⟨y4, y5, vs, ts2, rfl, g4, lt2⟩
        have oij : ∀ f, TieOk m ⟨0 + (i : Int), 0 + (j : Int), f⟩ := fun f => ⟨by show (0 : Int) ≤ 0 + (i : Nat); omega, by show (0 : Int) + (i : Nat) < m; omega, by show (0 : Int) ≤ 0 + (j : Nat); omega, by show (0 : Int) + (j : Nat) < m; omega, by show (0 : Int) + (i : Nat) ≠ 0 + (j : Nat); omega⟩
        have oji : ∀ f, TieOk m ⟨0 + (j : Int), 0 + (i : Int), f⟩ := fun f => ⟨by show (0 : Int) ≤ 0 + (j : Nat); omega, by show (0 : Int) + (j : Nat) < m; omega, by show (0 : Int) ≤ 0 + (i : Nat); omega, by show (0 : Int) + (i : Nat) < m; omega, by show (0 : Int) + (j : Nat) ≠ 0 + (i : Nat); omega⟩
        refine ⟨.ref d, rfl, d, c, 8, rfl, g4.dk, by decide, by decide, fun way H5 w0 w1 D5 K5 => ?_⟩
        have g5 := g4.kpd K5 D5
        clear g4 K5 D5
        refine ⟨fun σ' H' => ∃ (vs : List V) (ts3 : List Tie), σ' = [some (.ref d), some (.int m), some (.ref L), some (.int (0 + (i : Nat))), some (.int (0 + (j : Nat))), some (.int way), none] ∧ TsAt H H' d c L m vs ts3 ∧ ts3.length ≤ ts.length + 3 * j + 1, ?_, ?_⟩
        · refine ⟨.int way, rfl, way, 1, rfl, rfl, _, rfl, ite2 (fun _ => ?_) (fun _ => ?_)⟩
          · have few2 : ts2.length ≤ 100 := by omega
            have lv := Paired.length g5.hp
            refine ⟨.ref L, rfl, .inl ⟨rfl, _, SqL.of g5.hL⟩, .int (0 + (i : Nat)), rfl, .int (0 + (j : Nat)), rfl, by show 2 ≤ sizeLine; decide, fun p1 n1 => ?_⟩
            have s1 := same_new (o := .tup [.int (0 + (i : Nat)), .int (0 + (j : Nat))]) n1
            have h1 := upd_same (H := H5) (a := p1) (o := .tup [.int (0 + (i : Nat)), .int (0 + (j : Nat))])
            generalize upd H5 p1 (.tup [.int (0 + (i : Nat)), .int (0 + (j : Nat))]) = H6 at s1 h1
            refine ⟨.int (0 + (j : Nat)), rfl, .int (0 + (i : Nat)), rfl, by show 2 ≤ sizeLine; decide, fun p2 n2 => ?_⟩
            have s2 := same_new (o := .tup [.int (0 + (j : Nat)), .int (0 + (i : Nat))]) n2
            have h2 := upd_same (H := H6) (a := p2) (o := .tup [.int (0 + (j : Nat)), .int (0 + (i : Nat))])
            have h1' := s2 _ _ h1
            generalize upd H6 p2 (.tup [.int (0 + (j : Nat)), .int (0 + (i : Nat))]) = H7 at s2 h2 h1'
            refine ⟨by show 2 ≤ sizeLine; decide, fun p3 n3 => ?_⟩
            have s3 := same_new (o := .lst [.ref p1, .ref p2]) n3
            have h3 := upd_same (H := H7) (a := p3) (o := .lst [.ref p1, .ref p2])
            have h1'' := s3 _ _ h1'
            have h2' := s3 _ _ h2
            generalize upd H7 p3 (.lst [.ref p1, .ref p2]) = H8 at s3 h3 h1'' h2'
            have s57 := (s1.trans s2).trans s3
            have g8 := g5.same s57
            have d3 := g8.dk
            refine ⟨.ref d, rfl, d, c, 2, rfl, d3, by decide, by decide, fun v2 H9 a2 b2 D9 K9 => ?_⟩
            have g9 := g8.kpd K9 D9
            have tk9 := K9.tk g8.dk
            have p3d : p3 ≠ d ∧ p3 ≠ c := ((g5.same (s1.trans s2)).dk).ned n3
            have h3' := K9 _ _ p3d.1 p3d.2 h3
            obtain ⟨q0, x, y, e1, e2, e3⟩ : ∃ (q0 : Addr) (x y : Int), atI [V.ref p1, V.ref p2] v2 = some (.ref q0) ∧ H9 q0 = some (.tup [.int x, .int y]) ∧ TieOk m ⟨x, y, true⟩ := by
              have h01 : v2 = 0 ∨ v2 = 1 := by omega
              rcases h01 with rfl | rfl
              · exact ⟨p1, _, _, rfl, tk9 _ _ h1'', ⟨by show (0 : Int) ≤ 0 + (i : Nat); omega, by show (0 : Int) + (i : Nat) < m; omega, by show (0 : Int) ≤ 0 + (j : Nat); omega, by show (0 : Int) + (j : Nat) < m; omega, by show (0 : Int) + (i : Nat) ≠ 0 + (j : Nat); omega⟩⟩
              · exact ⟨p2, _, _, rfl, tk9 _ _ h2', ⟨by show (0 : Int) ≤ 0 + (j : Nat); omega, by show (0 : Int) + (j : Nat) < m; omega, by show (0 : Int) ≤ 0 + (i : Nat); omega, by show (0 : Int) + (i : Nat) < m; omega, by show (0 : Int) + (j : Nat) ≠ 0 + (i : Nat); omega⟩⟩
            refine ⟨p3, _, v2, .ref q0, rfl, rfl, SqL.of h3', e1, by show 1 ≤ sizeLine; decide, fun p4 n4 => ?_⟩
            have s4 := same_new (o := .tup [.str "foe"]) n4
            refine ⟨q0, p4, _, _, rfl, rfl, s4 _ _ e2, upd_same, (by show (2 + 1 : Nat) ≤ 100000; decide), fun p5 H11 s11 h11 => ?_⟩
            have g11 := (g9.same s4).same s11
            exact ⟨L, vs, _, rfl, rfl, g11.hL, small1000 (by omega), _, _, rfl, g11.app ⟨x, y, true⟩ h11 e3, by rw [List.length_append]; show ts2.length + 1 ≤ _; omega⟩
          · exact ⟨vs, ts2, rfl, g5, by omega⟩
        clear g5
        rintro σ' H6 ⟨vs, ts3, rfl, g6, lt3⟩
        refine ⟨fun σ' H' => ∃ (vs : List V) (ts4 : List Tie), σ' = [some (.ref d), some (.int m), some (.ref L), some (.int (0 + (i : Nat))), some (.int (0 + (j : Nat))), some (.int way), none] ∧ TsAt H H' d c L m vs ts4 ∧ ts4.length ≤ ts.length + 3 * j + 2, ?_, ?_⟩
        · have lv := Paired.length g6.hp
          have add : ∀ (H7 : Hp), TsAt H H7 d c L m vs ts3 → ∀ q, H7 q = none → ∃ vs' ts4, TsAt H (upd (upd H7 q (.tup [.int (0 + (i : Nat)), .int (0 + (j : Nat)), .str "friend"])) L (.lst (vs ++ [.ref q]))) d c L m vs' ts4 ∧ ts4.length ≤ ts.length + 3 * j + 2 := fun H7 g q nq => ⟨_, _, g.add nq ⟨0 + (i : Nat), 0 + (j : Nat), false⟩ (oij _), by rw [List.length_append]; show ts3.length + 1 ≤ _; omega⟩
          have put : ∀ (H7 : Hp), TsAt H H7 d c L m vs ts3 → ∀ (q : Addr), H7 q = none → True := fun _ _ _ _ => trivial
          clear put
          refine ⟨.int way, rfl, rfl, _, rfl, ?_⟩
          by_cases e0 : way = 0
          · rw [show decide (V.int way = V.int 0) = true from decide_eq_true (by rw [e0])]
            refine ⟨.ref L, rfl, .inl ⟨rfl, _, SqL.of g6.hL⟩, .int (0 + (i : Nat)), rfl, .int (0 + (j : Nat)), rfl, by show 3 ≤ sizeLine; decide, fun q2 nq => ?_⟩
            obtain ⟨vs', ts4, h1, h2⟩ := add _ g6 q2 nq
            exact ⟨L, vs, _, rfl, rfl, same_new nq _ _ g6.hL, small1000 (by omega), vs', ts4, rfl, h1, h2⟩
          rw [show decide (V.int way = V.int 0) = false from decide_eq_false (fun z => e0 (by injection z))]
          refine ⟨.int way, rfl, rfl, _, rfl, ?_⟩
          by_cases e7 : way = 7
          · rw [show decide (V.int way = V.int 7) = true from decide_eq_true (by rw [e7])]
            refine ⟨.ref d, rfl, d, c, 6, rfl, g6.dk, by decide, by decide, fun v3 H7 a3 b3 D7 K7 => ⟨rfl, _, rfl, ite2 (fun _ => ?_) (fun _ => ?_)⟩⟩
            · have g7 := g6.kpd K7 D7
              refine ⟨.ref L, rfl, .inl ⟨rfl, _, SqL.of g7.hL⟩, .int (0 + (i : Nat)), rfl, .int (0 + (j : Nat)), rfl, by show 3 ≤ sizeLine; decide, fun q2 nq => ?_⟩
              obtain ⟨vs', ts4, h1, h2⟩ := add _ g7 q2 nq
              exact ⟨L, vs, _, rfl, rfl, same_new nq _ _ g7.hL, small1000 (by omega), vs', ts4, rfl, h1, h2⟩
            · exact ⟨vs, ts3, rfl, g6.kpd K7 D7, by omega⟩
          · rw [show decide (V.int way = V.int 7) = false from decide_eq_false (fun z => e7 (by injection z))]
            exact ⟨vs, ts3, rfl, g6, by omega⟩
        clear g6
        rintro σ' H7 ⟨vs, ts4, rfl, g7, lt4⟩
        have lv := Paired.length g7.hp
        refine ⟨.int way, rfl, rfl, _, rfl, ?_⟩
        by_cases e3 : way = 3
        · rw [show decide (V.int way = V.int 3) = true from decide_eq_true (by rw [e3])]
          refine ⟨.ref d, rfl, d, c, 2, rfl, g7.dk, by decide, by decide, fun v3 H8 a3 b3 D8 K8 => ⟨rfl, _, rfl, ite2 (fun _ => ?_) (fun _ => ?_)⟩⟩
          · have g8 := g7.kpd K8 D8
            refine ⟨.ref L, rfl, .inl ⟨rfl, _, SqL.of g8.hL⟩, .int (0 + (j : Nat)), rfl, .int (0 + (i : Nat)), rfl, by show 3 ≤ sizeLine; decide, fun q2 nq => ?_⟩
            exact ⟨L, vs, _, rfl, rfl, same_new nq _ _ g8.hL, small1000 (by omega), _, _, _, _, rfl, g8.add nq ⟨0 + (j : Nat), 0 + (i : Nat), true⟩ (oji _), by rw [List.length_append]; show ts4.length + 1 ≤ _; omega⟩
          · exact ⟨_, _, vs, ts4, rfl, g7.kpd K8 D8, by omega⟩
        · rw [show decide (V.int way = V.int 3) = false from decide_eq_false (fun z => e3 (by injection z))]
          exact ⟨_, _, vs, ts4, rfl, g7, by omega⟩
      · rintro σ' H4 ⟨y4, y5, vs, ts2, rfl, g4, lt2⟩
        exact ⟨_, _, _, vs, ts2, rfl, g4, by omega⟩
    rintro σ' H3 ⟨y3, y4, y5, vs', ts2, rfl, g6, lt2⟩
    have lv6 := Paired.length g6.hp
    have lb : vs'.length ≤ 64 := by omega
    refine ⟨.ref d, rfl, .ref L, rfl, L, _, rfl, .inl (SqL.of g6.hL), _, 1, rfl, rfl, d, c, _, rfl, g6.dk, by omega, by omega, fun tn H7 t0 t1 D7 K7 => ?_⟩
    have g7 := g6.kpd K7 D7
    obtain ⟨k2, rfl⟩ : ∃ k2 : Nat, tn = (k2 : Int) := ⟨tn.toNat, by omega⟩
    have kl2 : k2 ≤ vs'.length := by omega
    refine ⟨.int m, rfl, .ref L, rfl, .int k2, rfl, k2, rfl, L, _, rfl, SqL.of g7.hL, fun p1 n1 => ?_⟩
    rw [cut_drop kl2]
    have s8 := same_new (o := .lst (vs'.drop k2)) n1
    refine ⟨.ref L, rfl, .int k2, rfl, k2, rfl, L, _, rfl, SqL.of (s8 _ _ g7.hL), fun p2 n2 => ?_⟩
    rw [cut_take kl2]
    have s9 := same_new (o := .lst (vs'.take k2)) n2
    refine ⟨p1, p2, _, _, rfl, rfl, s9 _ _ upd_same, upd_same, by rw [List.length_drop, List.length_take]; exact Nat.le_of_lt (small1000 (by omega)), fun p3 n3 => ?_⟩
    have s10 := same_new (o := .lst (vs'.drop k2 ++ vs'.take k2)) n3
    refine ⟨p3, _, rfl, .inl ⟨SqL.of upd_same, fun b nb => ⟨by show 2 ≤ sizeLine; decide, fun a na => ?_⟩⟩⟩
    have s11 := same_new (o := .tup (vs'.drop k2 ++ vs'.take k2)) nb
    have s12 := same_new (o := .tup [.int m, .ref b]) na
    have sA := (((s8.trans s9).trans s10).trans s11).trans s12
    have gA := g7.same sA
    refine q _ m (ts2.drop k2 ++ ts2.take k2) _ ⟨a, b, _, rfl, upd_same, s12 _ _ upd_same, Paired.app (Paired.drop k2 gA.hp) (Paired.take k2 gA.hp)⟩ ⟨by omega, by omega, by rw [List.length_append, List.length_drop, List.length_take]; omega, fun t ht => ?_⟩ (by omega) (by omega) (by rw [List.length_append, List.length_drop, List.length_take]; omega) gA.dk gA.kp
    rcases List.mem_append.mp ht with h | h
    · exact g7.ok t (List.mem_of_mem_drop h)
    · exact g7.ok t (List.mem_of_mem_take h)
end
/-! ### own rules: max of a tuple, t.index, o[i] of a list by values, t * k -/
section
variable {X : Cx}
def rMaxT (K : PySem.W.Frag) : List V → Hp → VK → Prop := fun vs H Q => ∃ (a : Addr) (ns : List Int), vs = [V.ref a] ∧ SqT K H a (ns.map V.int) ∧ 0 < ns.length ∧ ∀ m, m ∈ ns → (∀ y, y ∈ ns → y ≤ m) → Q (.int m) H
theorem foldl_max : ∀ (ns : List Int) (n : Int), ns.foldl max n ∈ n :: ns ∧ ∀ y ∈ n :: ns, y ≤ ns.foldl max n
  | [], n => ⟨by simp, fun y hy => by simp at hy; rw [hy]; exact Int.le_refl _⟩
  | x :: xs, n => by
    obtain ⟨h1, h2⟩ := foldl_max xs (max n x)
    rw [List.foldl_cons]
    refine ⟨?_, fun y hy => ?_⟩
    · rcases List.mem_cons.mp h1 with e | e
      · rw [e]
        by_cases h : n ≤ x
        · rw [Int.max_eq_right h]; simp
        · rw [Int.max_eq_left (by omega)]; simp
      · exact List.mem_cons_of_mem _ (List.mem_cons_of_mem _ e)
    · have h3 := h2 (max n x) (by simp)
      rcases List.mem_cons.mp hy with e | e
      · subst e
        omega
      · rcases List.mem_cons.mp e with e | e
        · subst e
          omega
        · exact h2 y (List.mem_cons_of_mem _ e)
theorem dp_intsX {K : PySem.W.Frag} {H : Hp} : ∀ (xs : List Int), DpAll K H (xs.map V.int) (xs.map PyData.int)
  | [] => .nil
  | x :: xs => .cons (.int x) (dp_intsX xs)
theorem depth_intsX : ∀ xs : List Int, PyData.depthAll (xs.map PyData.int) = 0
  | [] => by simp [PyData.depthAll]
  | x :: xs => by simp [PyData.depthAll, PyData.depth, depth_intsX xs]
theorem cr_maxT (hc : X.calm = true) (hu : X.A.units + 65 < cLine) : CallR X (.builtin "max") (rMaxT X.K) := by
  intro pins s σ H vs us Q I r h
  obtain ⟨a, ns, rfl, hs, hne, q⟩ := h
  obtain ⟨its, rv, hl, _⟩ := I.tuple hs
  rw [Vals.ref1 r]
  obtain ⟨as, rs⟩ := Dp.readsAll I _ _ _ (dp_intsX ns) rv
  cases ns with
  | nil => exact absurd hne (by simp)
  | cons n ns =>
    have al : PySem.W.AlikeAll ((n :: ns).map PyData.int) := by
      refine ⟨fun x hx y hy => ?_, fun x hx => ?_⟩
      · obtain ⟨i, _, rfl⟩ := List.mem_map.mp hx
        obtain ⟨j, _, rfl⟩ := List.mem_map.mp hy
        rfl
      · obtain ⟨i, _, rfl⟩ := List.mem_map.mp hx
        intro z
        cases z
    refine PySem.W.max_tuple_data (x := .int n) (xs := ns.map PyData.int) (as := as) (I.ok.hd hc) hl (by simpa using rs) (by simpa using al) (by have := depth_intsX (n :: ns); rw [List.map_cons] at this; rw [this]; omega) fun i v h' tk bs _ rd hk => ?_
    rw [PySem.W.maxD_ints] at rd
    cases rd with
    | int _ t =>
      have f := foldl_max ns n
      exact ⟨.int _, H, I.kept hk, ⟨_, rfl⟩, q _ f.1 f.2⟩
end
/-! ### rows of friends -/
structure Rw (n : Nat) (g : Int → Int) (s : Nat) (xs : List Int) : Prop where
  len : xs.length = s
  rg : ∀ x ∈ xs, (0 ≤ x ∧ x < (n : Int)) ∧ g x = x
def RwsAt (H : Hp) (C : Addr) (rows : List (List Int)) : Prop := ∃ cs : List Addr, H C = some (.lst (cs.map V.ref)) ∧ Paired (fun c xs => H c = some (.tup (xs.map V.int))) cs rows
theorem RwsAt.same {H H' : Hp} {C : Addr} {rows : List (List Int)} (h : RwsAt H C rows) (s : Same H H') : RwsAt H' C rows := by
  obtain ⟨cs, h1, h2⟩ := h
  exact ⟨cs, s _ _ h1, Paired.mono (fun _ _ e => s _ _ e) h2⟩
theorem RwsAt.snoc {H : Hp} {C r : Addr} {rows : List (List Int)} {xs : List Int} {cs : List Addr} (h1 : H C = some (.lst (cs.map V.ref))) (h2 : Paired (fun c xs => H c = some (.tup (xs.map V.int))) cs rows) (hr : H r = some (.tup (xs.map V.int))) : RwsAt (upd H C (.lst (cs.map V.ref ++ [.ref r]))) C (rows ++ [xs]) := by
  have ne : ∀ {c : Addr} {ys : List V}, H c = some (.tup ys) → c ≠ C := fun e => ne_of e h1 (by intro z; cases z)
  refine ⟨cs ++ [r], by rw [upd_same, List.map_append]; rfl, Paired.snoc65 (Paired.mono (fun c xs e => by rw [upd_ne (ne e)]; exact e) h2) (by rw [upd_ne (ne hr)]; exact hr)⟩
theorem Paired.len68 {α β : Type} {F : α → β → Prop} {l : List α} {m : List β} (h : Paired F l m) : l.length = m.length := Paired.length h
def spCrowds : Sp := fun vs H Q _ => ∃ (v : V) (k : Int) (G : Addr) (n : Nat) (ts : List Tie) (g : Int → Int), vs = [v, .int k, .ref G] ∧ WebAt H v n ts ∧ (∀ t ∈ ts, TieOk n t) ∧ ts.length ≤ 300 ∧ n ≤ 5 ∧ (0 ≤ k ∧ k ≤ 5) ∧ H G = some (.lst (lf g n)) ∧ ∀ C rows H', Same H H' → RwsAt H' C rows → rows.length ≤ 20000 → (∀ xs ∈ rows, Rw n g (k + 1).toNat xs) → H C = none → Q (.ref C) H'
theorem pow5 {s : Nat} (h : s ≤ 6) : 5 ^ s ≤ 15625 := Nat.le_trans (Nat.pow_le_pow_right (by decide) h) (by decide)
section
variable {P : Program} {w : World} {K : PySem.W.Frag} {mg : Str → Option Value} {base : Heap}
set_option maxHeartbeats 4000000 in
theorem ok_l_crowds {f : Addr} {fd : FuncData} (F : Fun K "_law_crowds" "_law_crowds" s_l_crowds f fd) (M : Free mg) (m_max : mg "max" = none) : FnOk P w K mg base CX0 1 f fd ["_law_web", "_law_k", "_law_groups_here"] spCrowds := by
  refine F.ok sc_l_crowds (fun vs H Q E h => ?_) (fun cdv A outer s H vs Q E hr h => ?_)
  · obtain ⟨v, k, G, n, ts, g, rfl, _⟩ := h
    rfl
  · obtain ⟨v, k, G, n, ts, g, rfl, hW, ok, few, n5, kb, hG, q⟩ := h
    have hu := room1 hr
    refine ⟨_, (pss_cons (ps_set (i := 3) sc_l_crowds.nd rfl (.inr rfl) pe_dnewT)
      (Evl.pss_cut (ps_for PassesOwn.never rfl (pi_tup (pe_ix ix_tup (pv 0) pe_int (fun _ _ => rfl))) (pg_tup rfl (pgs_cons (pg_name (i := 4) sc_l_crowds.nd rfl (.inl rfl)) (pgs_cons (pg_name (i := 5) sc_l_crowds.nd rfl (.inl rfl)) (pgs_cons (pg_name (i := 6) sc_l_crowds.nd rfl (.inl rfl)) pgs_nil))))
        (pss_one (ps_if (pt_cmpR op_eq (pv 6) pe_str (nomark _))
          (pss_cons (ps_dput hu (pv 3) (pe_tup (pa_cons (pe_ix ix_list (pv 2) (pv 4) (fun _ _ => rfl)) (pa_cons (pe_ix ix_list (pv 2) (pv 5) (fun _ _ => rfl)) pa_nil))) pe_bl rfl)
          (pss_one (ps_dput hu (pv 3) (pe_tup (pa_cons (pe_ix ix_list (pv 2) (pv 5) (fun _ _ => rfl)) (pa_cons (pe_ix ix_list (pv 2) (pv 4) (fun _ _ => rfl)) pa_nil))) pe_bl rfl)))
          pss_nil)))
      (pss_cons (ps_set (i := 7) sc_l_crowds.nd rfl (.inl rfl) (pe_lst (pa_cons (pe_tup pa_nil) pa_nil)))
      (pss_cons (ps_for PassesOwn.never rfl (pi_range1 (by rfl) M.range (pa_cons (pe_op op_add (pv 1) pe_int) pa_nil)) (pg_name (i := 8) sc_l_crowds.nd rfl (.inl rfl))
        (pss_cons (ps_set (i := 9) sc_l_crowds.nd rfl (.inl rfl) (pe_lst pa_nil))
        (pss_cons (ps_for PassesOwn.never rfl (pi_list (pv 7)) (pg_name (i := 10) sc_l_crowds.nd rfl (.inl rfl))
          (pss_one (ps_for PassesOwn.never rfl (pi_range2 (by rfl) M.range (pa_cons (pe_op op_add (pe_callB (cr_maxT rfl (room65 hr)) (by rfl) m_max (by decide +kernel) (pa_cons (pe_op op_catU (pe_tup (pa_cons (pe_un un_neg pe_int) pa_nil)) (pv 10)) pa_nil)) pe_int) (pa_cons (pe_ix ix_tup (pv 0) pe_int (fun _ _ => rfl)) pa_nil))) (pg_name (i := 11) sc_l_crowds.nd rfl (.inr rfl))
            (pss_one (ps_if (PW.pt (pw_and (pt_cmpR op_eq (pe_ix ix_list (pv 2) (pv 11) (fun _ _ => rfl)) (pv 11) (nomark _)) (pw_and1 (pt_cmpR (op_eqE hr.units0) (pe_lc (own := [("_law_one", 4)]) (g := (gName 4)) (te := tVar 4) rfl sc_l_crowds.nd (pi_tup (pv 10)) (blkOk_by (N := N_l_crowds) (sc := defScope s_l_crowds) (own := [("_law_one", 4)]) (by decide +kernel)) (fun _ _ _ _ _ => (pg_name (i := 4) sc_l_crowds.nd rfl (.inl rfl))) (fun _ _ _ _ _ => (pts_one (pt_cmp (pc_dnotin hu (pe_tup (pa_cons (pv 4) (pa_cons (pv 11) pa_nil))) (pv 3))))) (fun _ _ _ _ _ => (pv 4))) (pe_lst pa_nil) (nomark _)))))
              (pss_one (ps_expr (pe_bm PySem.F.plainAttrs_list PySem.F.slot_list_append PySem.F.type_list_append mt_append (pv 9) (pa_cons (pe_op op_catU (pv 10) (pe_tup (pa_cons (pv 11) pa_nil))) pa_nil))))
              pss_nil)))))
        (pss_one (ps_set (i := 7) sc_l_crowds.nd rfl (.inl rfl) (pv 9))))))
      (pss_one (ps_ret (pv 7))))))), ?_⟩
    obtain ⟨wa, wb, us, rfl, hwa, hwb, hp⟩ := id hW
    have lu : us.length = ts.length := Paired.length hp
    intro T nT
    have sT := same_new (o := .dT []) nT
    have hTT : (upd H T (.dT [])) T = some (.dT []) := upd_same
    generalize upd H T (.dT []) = H1 at sT hTT
    refine ⟨fun σ' H' => ∃ (y4 y5 y6 : Option V) (qs : List (Int × Int)), σ' = [some (.ref wa), some (.int k), some (.ref G), some (.ref T), y4, y5, y6, none, none, none, none, none] ∧ H' T = some (.dT (kP qs)) ∧ Same H H', ?_, ?_⟩
    · refine ⟨.ref wa, rfl, wa, _, 1, .ref wb, rfl, rfl, SqT.of (sT _ _ hwa), rfl, wb, rfl, ⟨_, SqT.of (sT _ _ hwb)⟩, ?_⟩
      refine for_it (walk_tup (xs := us)) (fun i σ' H' => ∃ (y4 y5 y6 : Option V) (qs : List (Int × Int)), σ' = [some (.ref wa), some (.int k), some (.ref G), some (.ref T), y4, y5, y6, none, none, none, none, none] ∧ H' T = some (.dT (kP qs)) ∧ qs.length ≤ 2 * i ∧ Same H H') ⟨none, none, none, [], rfl, hTT, Nat.le_refl _, sT⟩ (fun i σ' H' _ h => by
        obtain ⟨_, _, _, _, _, _, _, s⟩ := h
        exact SqT.of (s _ _ hwb)) ?_ ?_
      · rintro i x σ' H4 H5 hi ⟨y4, y5, y6, qs, rfl, hD4, lps, s4⟩ ⟨rfl, ex⟩
        obtain ⟨t, et, c, rfl, hc⟩ := Paired.at hp ex
        have okt := ok t (List.mem_of_getElem? et)
        have ek : decide (V.str (kindS t.foe) = V.str "foe") = t.foe := by cases t.foe <;> decide +kernel
        have hil := (List.getElem?_eq_some_iff.mp et).1
        refine ⟨c, _, rfl, SqT.of (s4 _ _ hc), rfl, _, _, rfl, _, _, rfl, _, _, rfl, rfl, _, rfl, rfl, _, rfl, ?_⟩
        rw [ek]
        cases hf : t.foe with
        | false => exact ⟨_, _, _, qs, rfl, hD4, by omega, s4⟩
        | true =>
          have hGa := s4 _ _ hG
          refine ⟨.ref T, rfl, .ref G, rfl, .int t.one, rfl, G, _, t.one, _, rfl, rfl, SqL.of hGa, lf_at g okt.1 okt.2.1, .ref G, rfl, .int t.other, rfl, G, _, t.other, _, rfl, rfl, SqL.of hGa, lf_at g okt.2.2.1 okt.2.2.2.1, by show 2 ≤ sizeLine; decide, fun k1 nk1 => ?_⟩
          have c1 := same_new (o := .tup [.int (g t.one), .int (g t.other)]) nk1
          refine ⟨T, _, rfl, DPut.t (k := [Sum.inl (g t.one), Sum.inl (g t.other)]) (c1 _ _ hD4) upd_same (by rw [kP_len]; exact small1000 (by omega)), ?_⟩
          rw [kP_put]
          have s5 : Same H (upd (upd H5 k1 (.tup [.int (g t.one), .int (g t.other)])) T (.dT (kP (insP qs (g t.one, g t.other))))) := Same.mut (s4.trans c1) nT
          have hD5 := upd_same (H := upd H5 k1 (.tup [.int (g t.one), .int (g t.other)])) (a := T) (o := .dT (kP (insP qs (g t.one, g t.other))))
          generalize upd (upd H5 k1 (.tup [.int (g t.one), .int (g t.other)])) T (.dT (kP (insP qs (g t.one, g t.other)))) = H6 at s5 hD5
          have hGb := s5 _ _ hG
          refine ⟨.ref T, rfl, .ref G, rfl, .int t.other, rfl, G, _, t.other, _, rfl, rfl, SqL.of hGb, lf_at g okt.2.2.1 okt.2.2.2.1, .ref G, rfl, .int t.one, rfl, G, _, t.one, _, rfl, rfl, SqL.of hGb, lf_at g okt.1 okt.2.1, by show 2 ≤ sizeLine; decide, fun k2 nk2 => ?_⟩
          have c2 := same_new (o := .tup [.int (g t.other), .int (g t.one)]) nk2
          have l1 := insP_len (ps := qs) (p := (g t.one, g t.other))
          have l2 := insP_len (ps := insP qs (g t.one, g t.other)) (p := (g t.other, g t.one))
          refine ⟨T, _, rfl, DPut.t (k := [Sum.inl (g t.other), Sum.inl (g t.one)]) (c2 _ _ hD5) upd_same (by rw [kP_len]; exact small1000 (by omega)), ?_⟩
          rw [kP_put]
          exact ⟨_, _, _, _, rfl, upd_same, by omega, Same.mut (s5.trans c2) nT⟩
      · rintro σ' H4 ⟨y4, y5, y6, qs, rfl, hD4, lps, s4⟩
        exact ⟨_, _, _, qs, rfl, hD4, s4⟩
    clear hTT sT
    rintro σ' H1 ⟨y4, y5, y6, qs, rfl, hT1, s1⟩
    refine ⟨Nat.zero_le _, fun e0 ne0 => ⟨by show 1 ≤ sizeLine; decide, fun F0 nF0 => ?_⟩⟩
    have s2 := (same_new (o := .tup []) ne0).trans (same_new (o := .lst [.ref e0]) nF0)
    have hF0 : RwsAt (upd (upd H1 e0 (.tup [])) F0 (.lst [.ref e0])) F0 [[]] := ⟨[e0], upd_same, .cons (same_new nF0 _ _ upd_same) .nil⟩
    have s02 := s1.trans s2
    have hT2 := s2 _ _ hT1
    have nF0H : H F0 = none := (s1.trans (same_new (o := .tup []) ne0)).free nF0
    generalize upd (upd H1 e0 (.tup [])) F0 (.lst [.ref e0]) = H2 at s2 hF0 s02 hT2
    refine ⟨.int k, rfl, k, 1, rfl, rfl, k + 1, rfl, by omega, by omega, ?_⟩
    refine for_range (lo := 0) (n := (k + 1).toNat) (fun s σ' H' => ∃ (y4 y5 y6 y8 y9 y10 y11 : Option V) (F : Addr) (rows : List (List Int)), σ' = [some (.ref wa), some (.int k), some (.ref G), some (.ref T), y4, y5, y6, some (.ref F), y8, y9, y10, y11] ∧ RwsAt H' F rows ∧ rows.length ≤ 5 ^ s ∧ (∀ xs ∈ rows, Rw n g s xs) ∧ Same H2 H' ∧ H F = none) ⟨y4, y5, y6, none, none, none, none, F0, [[]], rfl, hF0, Nat.le_refl _, fun xs hx => by rw [List.mem_singleton.mp hx]; exact ⟨rfl, fun x z => by cases z⟩, Same.refl _, nF0H⟩ ?_ ?_
    · rintro s σ' H3 hs ⟨y4, y5, y6, y8, y9, y10, y11, F, rows, rfl, hF, lr, each, s3, nFH⟩
      refine ⟨Nat.zero_le _, fun L nL => ?_⟩
      have sL := same_new (o := .lst []) nL
      have hL : RwsAt (upd H3 L (.lst [])) L [] := ⟨[], upd_same, .nil⟩
      have hF4 := hF.same sL
      have hLF : L ≠ F := by
        obtain ⟨cs, h1, _⟩ := hF
        exact (ne_of_none h1 nL).symm
      have nL2 : H2 L = none := s3.free nL
      have nLH : H L = none := s02.free nL2
      have s34 := s3.trans sL
      generalize upd H3 L (.lst []) = H4 at sL hL hF4 s34
      obtain ⟨cs, hFc, hcs⟩ := id hF4
      have lcs := Paired.length hcs
      have p5 := pow5 (s := s) (by omega)
      have p6 := pow5 (s := s + 1) (by omega)
      have pe : 5 ^ (s + 1) = 5 * 5 ^ s := by rw [Nat.pow_succ, Nat.mul_comm]
      refine ⟨.ref F, rfl, F, rfl, ⟨_, SqL.of hFc⟩, ?_⟩
      refine for_list (xs := cs.map V.ref) (fun i σ' H' => ∃ (y4 y5 y6 y10 y11 : Option V) (more : List (List Int)), σ' = [some (.ref wa), some (.int k), some (.ref G), some (.ref T), y4, y5, y6, some (.ref F), some (.int (0 + (s : Nat))), some (.ref L), y10, y11] ∧ RwsAt H' L more ∧ more.length ≤ 5 * i ∧ (∀ xs ∈ more, Rw n g (s + 1) xs) ∧ H' F = some (.lst (cs.map V.ref)) ∧ Paired (fun c xs => H' c = some (.tup (xs.map V.int))) cs rows ∧ Same H2 H') ⟨y4, y5, y6, y10, y11, [], rfl, hL, Nat.le_refl _, fun xs hx => (by cases hx), hFc, hcs, s34⟩ (fun i σ' H' _ h => by
        obtain ⟨_, _, _, _, _, _, _, _, _, _, h, _⟩ := h
        exact SqL.of h) ?_ ?_
      · rintro i x σ' H5 ex ⟨y4, y5, y6, y10, y11, more, rfl, hL5, lm, eachm, hF5, hcs5, s5⟩
        rw [List.getElem?_map] at ex
        obtain ⟨c, ec, rfl⟩ := Option.map_eq_some_iff.mp ex
        obtain ⟨xs, exs, hc⟩ := Paired.at hcs5 ec
        have hi := (List.getElem?_eq_some_iff.mp exs).1
        have rw' := each xs (List.mem_of_getElem? exs)
        refine ⟨1, rfl, by show 1 ≤ sizeLine; decide, fun m1 nm1 => ?_⟩
        have c1 := same_new (o := .tup [.int (-1)]) nm1
        refine ⟨.ref c, rfl, m1, c, _, _, rfl, rfl, upd_same, c1 _ _ hc, by rw [List.length_map, rw'.len]; show 1 + s ≤ 100000; omega, fun m2 H6 s6 h6 => ?_⟩
        have h6 : H6 m2 = some (.tup ((-1 :: xs).map V.int)) := h6
        refine ⟨m2, -1 :: xs, rfl, SqT.of h6, by simp, fun mx hmx hle => ?_⟩
        have c6 := c1.trans s6
        have m0 : -1 ≤ mx := hle (-1) (by simp)
        have mn : mx < 5 := by
          rcases List.mem_cons.mp hmx with z | z
          · omega
          · have := (rw'.rg mx z).1; omega
        have s26 := s5.trans c6
        have hw6 := s26 _ _ (s02 _ _ hwa)
        refine ⟨mx, 1, rfl, rfl, .ref wa, rfl, wa, _, 0, .int n, rfl, rfl, SqT.of hw6, rfl, mx + 1, n, rfl, ⟨by omega, by omega, by omega, by omega⟩, ?_⟩
        have hL6 := hL5.same c6
        have hF6 := c6 _ _ hF5
        have hcs6 : Paired (fun c xs => H6 c = some (.tup (xs.map V.int))) cs rows := Paired.mono (fun _ _ e => c6 _ _ e) hcs5
        clear c1 s6 h6 hle hL5 hF5 hcs5 c6
        refine for_range (lo := mx + 1) (n := ((n : Int) - (mx + 1)).toNat) (fun j σ' H' => ∃ (y4 y5 y6 y11 : Option V) (more2 : List (List Int)), σ' = [some (.ref wa), some (.int k), some (.ref G), some (.ref T), y4, y5, y6, some (.ref F), some (.int (0 + (s : Nat))), some (.ref L), some (.ref c), y11] ∧ RwsAt H' L more2 ∧ more2.length ≤ 5 * i + j ∧ (∀ xs ∈ more2, Rw n g (s + 1) xs) ∧ H' F = some (.lst (cs.map V.ref)) ∧ Paired (fun c xs => H' c = some (.tup (xs.map V.int))) cs rows ∧ Same H2 H') ⟨y4, y5, y6, y11, more, rfl, hL6, by omega, eachm, hF6, hcs6, s26⟩ ?_ ?_
        · rintro j σ' H7 hj ⟨y4, y5, y6, y11, more2, rfl, hL7, lm2, each2, hF7, hcs7, s7⟩
          obtain ⟨pl, hpl⟩ : ∃ pl : Int, mx + 1 + (j : Nat) = pl := ⟨_, rfl⟩
          have pr : 0 ≤ pl ∧ pl < (n : Int) := by omega
          rw [hpl]
          have hG7 := s7 _ _ (s02 _ _ hG)
          have hc7 := Paired.at hcs7 ec
          obtain ⟨xs', exs', hc7⟩ := hc7
          rw [exs] at exs'
          cases exs'
          refine ⟨.ref G, rfl, .int pl, rfl, G, _, pl, _, rfl, rfl, SqL.of hG7, lf_at g pr.1 pr.2, .int pl, rfl, rfl, _, rfl, ?_⟩
          by_cases eg : g pl = pl
          rotate_left
          · rw [show decide (V.int (g pl) = V.int pl) = false from decide_eq_false (fun z => eg (by injection z))]
            exact ⟨_, _, _, _, more2, rfl, hL7, by omega, each2, hF7, hcs7, s7⟩
          rw [show decide (V.int (g pl) = V.int pl) = true from decide_eq_true (by rw [eg])]
          refine ⟨.ref c, rfl, c, rfl, ⟨_, SqT.of hc7⟩, fun B nB => ?_⟩
          refine lc_it (walk_tup (xs := xs.map V.int)) (fun i2 H' => ∃ ws : List V, H' B = some (.lst ws) ∧ ws.length ≤ i2 ∧ Same H7 H') ⟨[], upd_same, Nat.le_refl _, same_new nB⟩ (fun i2 H' _ ⟨_, _, _, s⟩ => SqT.of (s _ _ hc7)) ?_ ?_
          · rintro i2 z H8 H9 hi2 ⟨ws, hB, lw, s8⟩ ⟨rfl, ez⟩
            rw [List.getElem?_map] at ez
            obtain ⟨z, ez, rfl⟩ := Option.map_eq_some_iff.mp ez
            rw [List.length_map, rw'.len] at hi2
            refine ⟨rfl, .int z, rfl, .int pl, rfl, by show 2 ≤ sizeLine; decide, fun t nt => ?_⟩
            have st := same_new (o := .tup [.int z, .int pl]) nt
            refine ⟨.ref T, rfl, T, _, rfl, DGet.t (k := [Sum.inl z, Sum.inl pl]) ((s7.trans (s8.trans st)) _ _ hT2) upd_same, _, rfl, ?_⟩
            cases hv : !(valV (kP qs) [Sum.inl z, Sum.inl pl]).isSome with
            | true => exact ⟨.int z, rfl, _, st _ _ hB, small1000 (by omega), ws ++ [.int z], upd_same, by rw [List.length_append]; show ws.length + 1 ≤ _; omega, Same.mut (s8.trans st) nB⟩
            | false => exact ⟨ws, st _ _ hB, by omega, s8.trans st⟩
          rintro H8 ⟨ws, hB, lw, s8⟩
          refine ⟨by show 0 ≤ sizeLine; decide, fun p0 np0 => ?_⟩
          have c0 := same_new (o := .lst []) np0
          refine ⟨B, p0, _, rfl, rfl, SqL.of (c0 _ _ hB), SqL.of upd_same, _, rfl, ?_⟩
          have s89 := s8.trans c0
          have hL9 := hL7.same s89
          have hF9 := s89 _ _ hF7
          have hcs9 : Paired (fun c xs => (upd H8 p0 (.lst [])) c = some (.tup (xs.map V.int))) cs rows := Paired.mono (fun _ _ e => s89 _ _ e) hcs7
          have hc9 := s89 _ _ hc7
          have s79 := s7.trans s89
          generalize upd H8 p0 (.lst []) = H9 at hL9 hF9 hcs9 hc9 s79
          cases ws with
          | cons a0 ws' => exact ⟨_, _, _, _, more2, rfl, hL9, by omega, each2, hF9, hcs9, s79⟩
          | nil =>
            obtain ⟨ls, hLl, hls⟩ := hL9
            have lls := Paired.length hls
            refine ⟨.ref L, rfl, .inl ⟨rfl, _, SqL.of hLl⟩, .ref c, rfl, .int pl, rfl, by show 1 ≤ sizeLine; decide, fun t1 nt1 => ?_⟩
            have d1 := same_new (o := .tup [.int pl]) nt1
            refine ⟨c, t1, _, [.int pl], rfl, rfl, d1 _ _ hc9, upd_same, by rw [List.length_map, rw'.len, List.length_singleton]; show s + 1 ≤ 100000; omega, fun r H10 s10 h10 => ?_⟩
            rw [show xs.map V.int ++ [V.int pl] = (xs ++ [pl]).map V.int from by rw [List.map_append]; rfl] at h10
            have dd := d1.trans s10
            have hL10 := dd _ _ hLl
            have hls10 : Paired (fun c xs => H10 c = some (.tup (xs.map V.int))) ls more2 := Paired.mono (fun _ _ e => dd _ _ e) hls
            refine ⟨L, _, _, rfl, rfl, hL10, by rw [List.length_map, sizeLine_eq]; omega, _, _, _, _, more2 ++ [xs ++ [pl]], rfl, RwsAt.snoc hL10 hls10 h10, by rw [List.length_append]; show more2.length + 1 ≤ _; omega, fun ys hy => ?_, ?_, ?_, Same.mut (s79.trans dd) nL2⟩
            · rcases List.mem_append.mp hy with h | h
              · exact each2 ys h
              · rw [List.mem_singleton.mp h]
                refine ⟨by rw [List.length_append, rw'.len]; rfl, fun x hx => ?_⟩
                rcases List.mem_append.mp hx with h | h
                · exact rw'.rg x h
                · rw [List.mem_singleton.mp h]; exact ⟨pr, eg⟩
            · rw [upd_ne hLF.symm]; exact dd _ _ hF9
            · refine Paired.mono (fun c2 ys e => ?_) hcs9
              rw [upd_ne (ne_of (dd _ _ e) hL10 (by intro z; cases z))]
              exact dd _ _ e
        · rintro σ' H7 ⟨y4, y5, y6, y11, more2, rfl, hL7, lm2, each2, hF7, hcs7, s7⟩
          exact ⟨_, _, _, _, _, more2, rfl, hL7, by omega, each2, hF7, hcs7, s7⟩
      · rintro σ' H5 ⟨y4, y5, y6, y10, y11, more, rfl, hL5, lm, eachm, hF5, hcs5, s5⟩
        rw [List.length_map, lcs] at lm
        exact ⟨.ref L, rfl, _, _, _, _, _, _, _, L, more, rfl, hL5, by rw [pe]; omega, eachm, s5, nLH⟩
    · rintro σ' H3 ⟨y4, y5, y6, y8, y9, y10, y11, F, rows, rfl, hF, lr, each, s3, nFH⟩
      have := pow5 (s := (k + 1).toNat) (by omega)
      exact ⟨.ref F, rfl, q F rows _ (s02.trans s3) hF (by omega) each nFH⟩
end
/-! ### papers made -/
/-- all is kept but the deck and one list under construction -/
def K68 (d c L : Addr) (H H' : Hp) : Prop := ∀ b o, b ≠ d → b ≠ c → b ≠ L → H b = some o → H' b = some o
section
variable {d c L : Addr} {H H1 H2 : Hp}
theorem K68.of (s : Kp d c H H1) : K68 d c L H H1 := fun b o h1 h2 _ e => s b o h1 h2 e
theorem K68.kp (k : K68 d c L H H1) (s : Kp d c H1 H2) : K68 d c L H H2 := fun b o h1 h2 h3 e => s b o h1 h2 (k b o h1 h2 h3 e)
theorem K68.same (k : K68 d c L H H1) (s : Same H1 H2) : K68 d c L H H2 := k.kp (Same.kp s)
theorem K68.mut {o : HO} (k : K68 d c L H H1) : K68 d c L H (upd H1 L o) := fun b u h1 h2 h3 e => by rw [upd_ne h3]; exact k b u h1 h2 h3 e
theorem K68.tk (k : K68 d c L H H1) (D : Deck H d c) (nL : H L = none) : Tk H H1 := fun b xs e => by
  obtain ⟨cells, st, m, h1, h2, _⟩ := D
  exact k b _ (ne_of e h1 (by intro z; cases z)) (ne_of e h2 (by intro z; cases z)) (ne_of_none e nL) e
theorem K68.lst (k : K68 d c L H H1) {a : Addr} {o : HO} (e : H a = some o) (n : a ≠ d ∧ a ≠ c) (nL : H L = none) : H1 a = some o := k a _ n.1 n.2 (ne_of_none e nL) e
theorem K68.prl {Z : Addr} {ps : List (Int × Int)} (k : K68 d c L H H1) (h : PrL H Z ps) (n : Z ≠ d ∧ Z ≠ c) (D : Deck H d c) (nL : H L = none) : PrL H1 Z ps := by
  obtain ⟨bs, h1, h2⟩ := h
  exact ⟨bs, k.lst h1 n nL, Paired.mono (fun _ _ e => k.tk D nL _ _ e) h2⟩
theorem PrL.keep68 {ps : List (Int × Int)} (h : PrL H L ps) (s : Kp d c H H1) (n : L ≠ d ∧ L ≠ c) (D : Deck H d c) : PrL H1 L ps := by
  obtain ⟨bs, h1, h2⟩ := h
  exact ⟨bs, s _ _ n.1 n.2 h1, Paired.mono (fun _ _ e => s.tk D _ _ e) h2⟩
theorem K68.end (k : K68 d c L H H1) (k0 : Kp d c H2 H) (nL : H2 L = none) : Kp d c H2 H1 := fun b o h1 h2 e => k b o h1 h2 (ne_of_none e nL) (k0 b o h1 h2 e)
theorem PrL.snocK {b : Addr} {ps : List (Int × Int)} {p : Int × Int} (h : PrL H L ps) (hb : H b = some (.tup [.int p.1, .int p.2])) {vs : List V} (e : H L = some (.lst vs)) : PrL (upd H L (.lst (vs ++ [.ref b]))) L (ps ++ [p]) :=
  h.snoc (Same.refl H) hb fun bs hbs => by
    rw [e] at hbs
    injection hbs with hbs
    injection hbs with hbs
    rw [hbs, List.map_append]
    rfl
end
theorem pick68 {v : Int} (h0 : 0 ≤ v) (h1 : v < 2) (a b : V) : atI [a, b] v = some (if v = 0 then a else b) := by
  have h : v = 0 ∨ v = 1 := by omega
  rcases h with rfl | rfl <;> rfl
theorem at_mem68 {xs : List V} {v : Int} (h0 : 0 ≤ v) (h1 : v < (xs.length : Int)) : ∃ x, x ∈ xs ∧ atI xs v = some x := by
  have hl : v.toNat < xs.length := by omega
  refine ⟨xs[v.toNat], List.getElem_mem hl, ?_⟩
  unfold atI ixN
  rw [if_pos h0, if_pos h1]
  exact List.getElem?_eq_getElem hl
def spMade (d : Nat) : Sp := fun vs H Q _ => ∃ (dk c : Addr) (v : V) (k : Int) (n : Nat) (ts : List Tie) (e : Nat), vs = [.ref dk, v, .int k, .int e] ∧ Deck H dk c ∧ WebAt H v n ts ∧ (2 ≤ n ∧ n ≤ 5) ∧ (∀ t ∈ ts, TieOk n t) ∧ ts.length + e ≤ 100 ∧ (0 ≤ k ∧ k ≤ 5) ∧ e ≤ d ∧ ∀ y t H', Deck H' dk c → Kp dk c H H' → NTV H' y t → t.sml → t.dep ≤ e → t.siz + 1 ≤ 2 ^ (e + 1) → Q y H'
def spMadeR : Nat → Sp
  | 0 => fun _ _ _ _ => False
  | d + 1 => spMade d
theorem spMadeR_up {d e : Nat} (h : e < d) : ∃ d', d = d' + 1 ∧ e ≤ d' := ⟨d - 1, by omega, by omega⟩
section
variable {P : Program} {w : World} {K : PySem.W.Frag} {mg : Str → Option Value} {base : Heap}
set_option maxHeartbeats 4000000 in
theorem made_step68 (d : Nat) {f : Addr} {fd : FuncData} (F : Fun K "_law_made" "_law_made" s_l_made f fd) (M : Free mg) (m_sorted : mg "sorted" = none) (D_l_groups : Df P w K mg base 1 "_law_groups" ["_law_web", "_law_kinds"] spGroups2) (D_l_draw : Df P w K mg base 1 "_law_draw" ["_law_deck_here", "_law_most"] spDraw) (D_l_crowds : Df P w K mg base 1 "_law_crowds" ["_law_web", "_law_k", "_law_groups_here"] spCrowds) (D_l_made : Df P w K mg base (2 + d) "_law_made" ["_law_deck_here", "_law_web", "_law_k", "_law_deep"] (spMadeR d)) : FnOk P w K mg base CX0 (2 + d + 1) f fd ["_law_deck_here", "_law_web", "_law_k", "_law_deep"] (spMade d) := by
  obtain ⟨f_l_groups, fd_l_groups, G_l_groups, g_l_groups, k_l_groups, b_l_groups⟩ := D_l_groups
  obtain ⟨f_l_draw, fd_l_draw, G_l_draw, g_l_draw, k_l_draw, b_l_draw⟩ := D_l_draw
  obtain ⟨f_l_crowds, fd_l_crowds, G_l_crowds, g_l_crowds, k_l_crowds, b_l_crowds⟩ := D_l_crowds
  obtain ⟨f_l_made, fd_l_made, G_l_made, g_l_made, k_l_made, b_l_made⟩ := D_l_made
  refine F.ok sc_l_made (fun vs H Q E h => ?_) (fun cdv A outer s H vs Q E hr h => ?_)
  · obtain ⟨dk, c, v, k, n, ts, e, rfl, _⟩ := h
    rfl
  · obtain ⟨dk, c, v, k, n, ts, e, rfl, hD, hW, n25, ok, few, kb, ed, q⟩ := h
    refine ⟨_, (pss_cons (ps_set (i := 4) sc_l_made.nd rfl (.inr rfl) (pe_call G_l_groups (hr.mono (by omega)) (by rfl) g_l_groups k_l_groups b_l_groups .nil pass0 (pa_cons (pv 1) (pa_cons (pe_tup (pa_cons pe_str pa_nil)) pa_nil))))
      (pss_cons (ps_setLc (i := 5) (own := [("_law_tie", 6)]) (g := (gName 6)) (te := tVar 6) rfl sc_l_made.nd rfl rfl (sw_true rfl rfl rfl (by decide +kernel)) (pi_tup (pe_ix ix_tup (pv 1) pe_int (fun _ _ => rfl))) (blkOk_by (N := N_l_made) (sc := defScope s_l_made) (own := [("_law_tie", 6)]) (by decide +kernel)) (fun _ _ _ _ _ => (pg_name (i := 6) sc_l_made.nd rfl (.inl rfl))) (fun _ _ _ _ _ => (pts_one (PW.pt (pw_and (pt_cmpR op_eq (pe_ix (r := rIxT K) ix_tup (pv 6) pe_int (fun _ _ => rfl)) pe_str (nomark _)) (pw_and1 (pt_cmpR op_eq (pe_ix (r := rIxL K) ix_list (pv 4) (pe_ix (r := rIxT K) ix_tup (pv 6) pe_int (fun _ _ => rfl)) (fun _ _ => rfl)) (pe_ix (r := rIxL K) ix_list (pv 4) (pe_ix (r := rIxT K) ix_tup (pv 6) pe_int (fun _ _ => rfl)) (fun _ _ => rfl)) (nomark _))))))) (fun _ _ _ _ _ => (pv 6)))
      (pss_cons (ps_if (pt_cmpR (op_neE hr.units0) (pv 5) (pe_lst pa_nil) (nomark _))
        (pss_cons (ps_asg (pe_ix ix_list (pv 5) (pe_call G_l_draw (hr.mono (by omega)) (by rfl) g_l_draw k_l_draw b_l_draw .nil pass0 (pa_cons (pv 0) (pa_cons (pe_callB call_len_seq (by rfl) M.len PySem.boot_len (pa_cons (pv 5) pa_nil)) pa_nil))) (fun _ _ => rfl)) (pg_tup rfl (pgs_cons (pg_name (i := 7) sc_l_made.nd rfl (.inl rfl)) (pgs_cons (pg_name (i := 8) sc_l_made.nd rfl (.inl rfl)) (pgs_cons (pg_name (i := 9) sc_l_made.nd rfl (.inl rfl)) pgs_nil)))))
        (pss_one (ps_ret (pe_op op_catU (pe_tup (pa_cons pe_str pa_nil)) (pe_ix ix_list (pe_lst (pa_cons (pe_tup (pa_cons (pv 7) (pa_cons (pv 8) pa_nil))) (pa_cons (pe_tup (pa_cons (pv 8) (pa_cons (pv 7) pa_nil))) pa_nil))) (pe_call G_l_draw (hr.mono (by omega)) (by rfl) g_l_draw k_l_draw b_l_draw .nil pass0 (pa_cons (pv 0) (pa_cons pe_int pa_nil))) (fun _ _ => rfl))))))
        pss_nil)
      (pss_cons (ps_set (i := 10) sc_l_made.nd rfl (.inl rfl) (pe_call G_l_crowds (hr.mono (by omega)) (by rfl) g_l_crowds k_l_crowds b_l_crowds .nil pass0 (pa_cons (pv 1) (pa_cons (pv 2) (pa_cons (pv 4) pa_nil)))))
      (pss_cons (ps_if (pt_cmpR (op_neE hr.units0) (pv 10) (pe_lst pa_nil) (nomark _))
        (pss_cons (ps_set (i := 11) sc_l_made.nd rfl (.inl rfl) (pe_lst pa_nil))
        (pss_cons (ps_for PassesOwn.never rfl (pi_tup (pe_ix ix_list (pv 10) (pe_call G_l_draw (hr.mono (by omega)) (by rfl) g_l_draw k_l_draw b_l_draw .nil pass0 (pa_cons (pv 0) (pa_cons (pe_callB call_len_seq (by rfl) M.len PySem.boot_len (pa_cons (pv 10) pa_nil)) pa_nil))) (fun _ _ => rfl))) (pg_name (i := 12) sc_l_made.nd rfl (.inr rfl))
          (pss_cons (ps_setLc (i := 13) (own := [("_law_one", 7)]) (g := (gName 7)) (te := tVar 7) rfl sc_l_made.nd rfl rfl (sw_true rfl rfl rfl (by decide +kernel)) (pi_range1 (by rfl) M.range (pa_cons (pe_ix ix_tup (pv 1) pe_int (fun _ _ => rfl)) pa_nil)) (blkOk_by (N := N_l_made) (sc := defScope s_l_made) (own := [("_law_one", 7)]) (by decide +kernel)) (fun _ _ _ _ _ => (pg_name (i := 7) sc_l_made.nd rfl (.inl rfl))) (fun _ _ _ _ _ => (pts_one (pt_cmpR op_eq (pe_ix (r := rIxL K) ix_list (pv 4) (pv 7) (fun _ _ => rfl)) (pv 12) (nomark _)))) (fun _ _ _ _ _ => (pv 7)))
          (pss_one (ps_expr (pe_bm PySem.F.plainAttrs_list PySem.F.slot_list_append PySem.F.type_list_append mt_append (pv 11) (pa_cons (pe_ix ix_list (pv 13) (pe_call G_l_draw (hr.mono (by omega)) (by rfl) g_l_draw k_l_draw b_l_draw .nil pass0 (pa_cons (pv 0) (pa_cons (pe_callB call_len_seq (by rfl) M.len PySem.boot_len (pa_cons (pv 13) pa_nil)) pa_nil))) (fun _ _ => rfl)) pa_nil))))))
        (pss_one (ps_ret (pe_tup (pa_cons pe_str (pa_cons (pe_callTy call_tuple_of (by rfl) M.tuple (by decide +kernel) (pa_cons (pe_callB cr_sortedI (by rfl) m_sorted (by decide +kernel) (pa_cons (pv 11) pa_nil)) pa_nil)) pa_nil)))))))
        pss_nil)
      (pss_cons (ps_setLc (i := 14) (own := [("_law_one", 7), ("_law_other", 8), ("_law_kind", 9)]) (g := (gTup K 3 (gCons (gName 7) (gCons (gName 8) (gCons (gName 9) gNil))))) rfl sc_l_made.nd rfl rfl (sw_true rfl rfl rfl (by decide +kernel)) (pi_tup (pe_ix ix_tup (pv 1) pe_int (fun _ _ => rfl))) (blkOk_by (N := N_l_made) (sc := defScope s_l_made) (own := [("_law_one", 7), ("_law_other", 8), ("_law_kind", 9)]) (by decide +kernel)) (fun _ _ _ _ _ => (pg_tup rfl (pgs_cons (pg_name (i := 7) sc_l_made.nd rfl (.inl rfl)) (pgs_cons (pg_name (i := 8) sc_l_made.nd rfl (.inl rfl)) (pgs_cons (pg_name (i := 9) sc_l_made.nd rfl (.inl rfl)) pgs_nil))))) (fun _ _ _ _ _ => (pts_one (pt_cmpR op_eq (pv 9) pe_str (nomark _)))) (fun _ _ _ _ _ => (pe_tup (pa_cons (pe_ix (r := rIxL K) ix_list (pv 4) (pv 7) (fun _ _ => rfl)) (pa_cons (pe_ix (r := rIxL K) ix_list (pv 4) (pv 8) (fun _ _ => rfl)) pa_nil)))))
      (pss_cons (ps_set (i := 15) sc_l_made.nd rfl (.inl rfl) (pe_lst pa_nil))
      (pss_cons (ps_for PassesOwn.never rfl (pi_range1 (by rfl) M.range (pa_cons (pe_ix ix_tup (pv 1) pe_int (fun _ _ => rfl)) pa_nil)) (pg_name (i := 7) sc_l_made.nd rfl (.inl rfl))
        (pss_one (ps_for PassesOwn.never rfl (pi_range1 (by rfl) M.range (pa_cons (pv 7) pa_nil)) (pg_name (i := 8) sc_l_made.nd rfl (.inl rfl))
          (pss_cons (ps_set (i := 16) sc_l_made.nd rfl (.inl rfl) (pe_tup (pa_cons (pe_ix ix_list (pv 4) (pv 7) (fun _ _ => rfl)) (pa_cons (pe_ix ix_list (pv 4) (pv 8) (fun _ _ => rfl)) pa_nil))))
          (pss_one (ps_if (PW.pt (pw_and (pt_cmpR op_ne (pe_ix ix_tup (pv 16) pe_int (fun _ _ => rfl)) (pe_ix ix_tup (pv 16) pe_int (fun _ _ => rfl)) (nomark _)) (pw_and (pt_cmpR  (op_notInD (room65 hr)) (pv 16) (pv 14) rfl) (pw_and1 (pt_cmpR  (op_notInD (room65 hr)) (pe_revT (pv 16)) (pv 14) rfl)))))
            (pss_one (ps_expr (pe_bm PySem.F.plainAttrs_list PySem.F.slot_list_append PySem.F.type_list_append mt_append (pv 15) (pa_cons (pe_ix ix_list (pe_lst (pa_cons (pe_tup (pa_cons (pv 7) (pa_cons (pv 8) pa_nil))) (pa_cons (pe_tup (pa_cons (pv 8) (pa_cons (pv 7) pa_nil))) pa_nil))) (pe_call G_l_draw (hr.mono (by omega)) (by rfl) g_l_draw k_l_draw b_l_draw .nil pass0 (pa_cons (pv 0) (pa_cons pe_int pa_nil))) (fun _ _ => rfl)) pa_nil))))
            pss_nil))))))
      (pss_cons (ps_if (PW.pt (pw_or (pt_cmpR (op_eqE hr.units0) (pv 15) (pe_lst pa_nil) (nomark _)) (pw_or1 (pt_cmpR op_eq (pv 3) pe_int (nomark _)))))
        (pss_one (ps_ret (pe_tup (pa_cons pe_str (pa_cons (pe_tupRg rfl (by rfl) M.tuple (prg_1 (by rfl) M.range (pe_op op_add (pv 2) pe_int))) pa_nil)))))
        pss_nil)
      (pss_cons (ps_asg (pe_ix ix_list (pv 15) (pe_call G_l_draw (hr.mono (by omega)) (by rfl) g_l_draw k_l_draw b_l_draw .nil pass0 (pa_cons (pv 0) (pa_cons (pe_callB call_len_seq (by rfl) M.len PySem.boot_len (pa_cons (pv 15) pa_nil)) pa_nil))) (fun _ _ => rfl)) (pg_tup rfl (pgs_cons (pg_name (i := 7) sc_l_made.nd rfl (.inl rfl)) (pgs_cons (pg_name (i := 8) sc_l_made.nd rfl (.inl rfl)) pgs_nil))))
      (pss_cons (ps_set (i := 17) sc_l_made.nd rfl (.inl rfl) (pe_call G_l_made (hr.mono (by omega)) (by rfl) g_l_made k_l_made b_l_made .nil pass0 (pa_cons (pv 0) (pa_cons (pe_tup (pa_cons (pe_ix ix_tup (pv 1) pe_int (fun _ _ => rfl)) (pa_cons (pe_op op_catU (pe_ix ix_tup (pv 1) pe_int (fun _ _ => rfl)) (pe_tup (pa_cons (pe_tup (pa_cons (pv 7) (pa_cons (pv 8) (pa_cons pe_str pa_nil)))) pa_nil))) pa_nil))) (pa_cons (pv 2) (pa_cons (pe_op op_sub (pv 3) pe_int) pa_nil))))))
      (pss_one (ps_ret (pe_tup (pa_cons pe_str (pa_cons (pv 7) (pa_cons (pv 8) (pa_cons (pv 17) (pa_cons (pe_call G_l_made (hr.mono (by omega)) (by rfl) g_l_made k_l_made b_l_made .nil pass0 (pa_cons (pv 0) (pa_cons (pe_tup (pa_cons (pe_ix ix_tup (pv 1) pe_int (fun _ _ => rfl)) (pa_cons (pe_op op_catU (pe_ix ix_tup (pv 1) pe_int (fun _ _ => rfl)) (pe_tup (pa_cons (pe_tup (pa_cons (pv 7) (pa_cons (pv 8) (pa_cons pe_str pa_nil)))) pa_nil))) pa_nil))) (pa_cons (pv 2) (pa_cons (pe_op op_sub (pv 3) pe_int) pa_nil))))) pa_nil))))))))))))))))))), ?_⟩
    obtain ⟨wa, wb, us, rfl, hwa, hwb, hp⟩ := id hW
    have lu : us.length = ts.length := Paired.length hp
    have wl : WebL n ts := ⟨by omega, by omega, by omega, ok⟩
    have two : ∀ (e : Nat), 2 ≤ 2 ^ (e + 1) := fun e => by
      have := Nat.one_le_two_pow (n := e)
      rw [Nat.pow_succ]
      omega
    refine ⟨.ref wa, rfl, by show 1 ≤ sizeLine; decide, fun e0 ne => ?_⟩
    have se := same_new (o := .tup [.str "friend"]) ne
    refine ⟨.ref wa, e0, n, ts, false, rfl, hW.tk (Same.tk se), wl, upd_same, fun L g H1 s1 hG lab nG0 => ?_⟩
    have s01 := se.trans s1
    have nG : H L = none := se.free nG0
    have hLd := hD.ned nG
    have gr : ∀ x : Int, 0 ≤ x → x < n → 0 ≤ g x ∧ g x < n := fun x a b => by
      have := lab.le x a b
      omega
    have D1 := hD.same s01
    have K1 : Kp dk c H H1 := Same.kp s01
    refine ⟨.ref wa, rfl, wa, _, 1, .ref wb, rfl, rfl, SqT.of (s01 _ _ hwa), rfl, wb, rfl, ⟨_, SqT.of (s01 _ _ hwb)⟩, fun Z nZ => ?_⟩
    refine lc_it (walk_tup (xs := us)) (fun i H' => ∃ vs : List V, H' Z = some (.lst vs) ∧ vs.length ≤ i ∧ (∀ x ∈ vs, x ∈ us) ∧ Same H1 H') ⟨[], upd_same, Nat.le_refl _, (fun x h => by cases h), same_new nZ⟩ (fun i H' _ ⟨_, _, _, _, s⟩ => SqT.of ((s01.trans s) _ _ hwb)) ?_ ?_
    · rintro i x1 H2 H3 hi ⟨vs, hZ, lv, sub, s2⟩ ⟨rfl, ex⟩
      obtain ⟨t, et, c1, rfl, hc⟩ := Paired.at hp ex
      have hc3 := (s01.trans s2) _ _ hc
      have hG3 := s2 _ _ hG
      have o := ok t (List.mem_of_getElem? et)
      refine ⟨rfl, .ref c1, rfl, c1, _, 2, .str (kindS t.foe), rfl, rfl, SqT.of hc3, rfl, rfl, _, rfl, ?_⟩
      have ek : decide (V.str (kindS t.foe) = V.str "foe") = t.foe := by cases t.foe <;> decide +kernel
      rw [ek]
      cases hf : t.foe with
      | false => exact ⟨vs, hZ, by omega, sub, s2⟩
      | true =>
        refine ⟨.ref L, rfl, .ref c1, rfl, c1, _, 0, .int t.one, rfl, rfl, SqT.of hc3, rfl, L, _, t.one, _, rfl, rfl, SqL.of hG3, lf_at g o.1 o.2.1, .ref L, rfl, .ref c1, rfl, c1, _, 1, .int t.other, rfl, rfl, SqT.of hc3, rfl, L, _, t.other, _, rfl, rfl, SqL.of hG3, lf_at g o.2.2.1 o.2.2.2.1, rfl, _, rfl, ?_⟩
        cases hb : decide (V.int (g t.one) = V.int (g t.other)) with
        | false => exact ⟨vs, hZ, by omega, sub, s2⟩
        | true =>
          refine ⟨.ref c1, rfl, _, hZ, small1000 (by omega), vs ++ [.ref c1], upd_same, by rw [List.length_append]; show vs.length + 1 ≤ _; omega, fun x h => ?_, Same.mut s2 nZ⟩
          rcases List.mem_append.mp h with h | h
          · exact sub x h
          · rw [List.mem_singleton.mp h]; exact List.mem_of_getElem? ex
    rintro H2 ⟨vs, hZ, lv, sub, s2⟩
    rw [lu] at lv
    refine ⟨.ref Z, rfl, by show 0 ≤ sizeLine; decide, fun p0 np0 => ?_⟩
    have c0 := same_new (o := .lst []) np0
    refine ⟨Z, p0, _, rfl, rfl, SqL.of (c0 _ _ hZ), SqL.of upd_same, _, rfl, ?_⟩
    have hZ2 := c0 _ _ hZ
    have s12 := s2.trans c0
    generalize upd H2 p0 (.lst []) = H3 at hZ2 s12
    have D3 := D1.same s12
    have s03 := s01.trans s12
    have K3 := K1.trans (Same.kp s12)
    clear c0 hZ np0 s2
    cases vs with
    | cons x0 vs' =>
      refine ⟨.ref Z, rfl, .ref dk, rfl, .ref Z, rfl, Z, _, rfl, .inl (SqL.of hZ2), dk, c, _, rfl, D3, by rw [List.length_cons]; omega, by rw [List.length_cons] at lv ⊢; omega, fun a H4 a0 a1 D4 K4 => ?_⟩
      have nZH : H Z = none := s01.free nZ
      have hZd := hD.ned nZH
      obtain ⟨x1, mx, ax⟩ := at_mem68 a0 a1
      obtain ⟨ix, hix⟩ := List.getElem?_of_mem (sub x1 mx)
      obtain ⟨t, et, c1, rfl, hc⟩ := Paired.at hp hix
      have o := ok t (List.mem_of_getElem? et)
      refine ⟨Z, _, a, _, rfl, rfl, SqL.of (K4 _ _ hZd.1 hZd.2 hZ2), ax, c1, _, rfl, SqT.of (K4.tk D3 _ _ (s03 _ _ hc)), rfl, _, _, rfl, _, _, rfl, _, _, rfl, rfl, ?_⟩
      have K04 := K3.trans K4
      generalize hx : t.one = x at o
      generalize hy : t.other = y at o
      refine ⟨by show 1 ≤ sizeLine; decide, fun p1 np1 => ?_⟩
      have c1' := same_new (o := .tup [.str "clash"]) np1
      have hp1 := upd_same (H := H4) (a := p1) (o := .tup [.str "clash"])
      generalize upd H4 p1 (.tup [.str "clash"]) = H5 at c1' hp1
      refine ⟨.int x, rfl, .int y, rfl, by show 2 ≤ sizeLine; decide, fun p2 np2 => ?_⟩
      have c2 := same_new (o := .tup [.int x, .int y]) np2
      have hp2 := upd_same (H := H5) (a := p2) (o := .tup [.int x, .int y])
      generalize upd H5 p2 (.tup [.int x, .int y]) = H6 at c2 hp2
      refine ⟨.int y, rfl, .int x, rfl, by show 2 ≤ sizeLine; decide, fun p3 np3 => ?_⟩
      have c3 := same_new (o := .tup [.int y, .int x]) np3
      have hp3 := upd_same (H := H6) (a := p3) (o := .tup [.int y, .int x])
      generalize upd H6 p3 (.tup [.int y, .int x]) = H7 at c3 hp3
      refine ⟨by show 2 ≤ sizeLine; decide, fun p4 np4 => ?_⟩
      have c4 := same_new (o := .lst [.ref p2, .ref p3]) np4
      have hp4 := upd_same (H := H7) (a := p4) (o := .lst [.ref p2, .ref p3])
      generalize upd H7 p4 (.lst [.ref p2, .ref p3]) = H8 at c4 hp4
      have s48 := ((c1'.trans c2).trans c3).trans c4
      have D8 := D4.same s48
      have hd4 := D8.ne
      refine ⟨.ref dk, rfl, dk, c, 2, rfl, D8, by decide, by decide, fun b H9 b0 b1 D9 K9 => ?_⟩
      have n4 := D4.ned ((c1'.trans (c2.trans c3)).free np4)
      refine ⟨p4, _, b, _, rfl, rfl, SqL.of (K9 _ _ n4.1 n4.2 hp4), pick68 b0 b1 _ _, ?_⟩
      have tk9 := K9.tk D8
      have K09 := (K04.trans (Same.kp s48)).trans K9
      have fin : ∀ (r : Addr) (x y : Int), Sml x → Sml y → H9 r = some (.tup [.int x, .int y]) → ∀ s' : V, s' = V.ref r → ∃ a b xs ys, V.ref p1 = V.ref a ∧ s' = V.ref b ∧ H9 a = some (.tup xs) ∧ H9 b = some (.tup ys) ∧ xs.length + ys.length ≤ 100000 ∧ ∀ r H', Same H9 H' → H' r = some (.tup (xs ++ ys)) → Q (.ref r) H' := fun r x y sx sy hr s' e => by
        subst e
        refine ⟨p1, r, _, _, rfl, rfl, tk9 _ _ ((c2.trans (c3.trans c4)) _ _ hp1), hr, by show 3 ≤ 100000; decide, fun r H10 s10 h10 => ?_⟩
        exact q _ (.clash x y) H10 (D9.same s10) (K09.trans (Same.kp s10)) ⟨r, rfl, h10⟩ ⟨sx, sy⟩ (Nat.zero_le _) (two e)
      have sx : Sml x := ⟨by have := o.1; omega, by have := o.2.1; omega⟩
      have sy : Sml y := ⟨by have := o.2.2.1; omega, by have := o.2.2.2.1; omega⟩
      by_cases hb : b = 0
      · exact fin p2 x y sx sy (tk9 _ _ ((c3.trans c4) _ _ hp2)) _ (if_pos hb)
      · exact fin p3 y x sy sx (tk9 _ _ (c4 _ _ hp3)) _ (if_neg hb)
    | nil =>
    have hG3 := s12 _ _ hG
    refine ⟨.ref wa, rfl, .int k, rfl, .ref L, rfl, .ref wa, k, L, n, ts, g, rfl, hW.tk (Same.tk s03), ok, by omega, by omega, kb, hG3, fun C rows H4 s4 hC lr each nC0 => ?_⟩
    have s04 := s03.trans s4
    have D4 := D3.same s4
    have K4 : Kp dk c H H4 := Same.kp s04
    have hG4 := s4 _ _ hG3
    obtain ⟨cs, hC4, hcs⟩ := id hC
    refine ⟨.ref C, rfl, by show 0 ≤ sizeLine; decide, fun p1 np1 => ?_⟩
    have c1 := same_new (o := .lst []) np1
    refine ⟨C, p1, _, rfl, rfl, SqL.of (c1 _ _ hC4), SqL.of upd_same, _, rfl, ?_⟩
    have hC5 := c1 _ _ hC4
    have hcs5 : Paired (fun c xs => (upd H4 p1 (.lst [])) c = some (.tup (xs.map V.int))) cs rows := Paired.mono (fun _ _ e => c1 _ _ e) hcs
    have hG5 := c1 _ _ hG4
    have D5 := D4.same c1
    have s05 := s04.trans c1
    have K5 : Kp dk c H (upd H4 p1 (.lst [])) := Same.kp s05
    generalize upd H4 p1 (.lst []) = H5 at hC5 hcs5 hG5 D5 s05 K5
    have nCd := hD.ned (s03.free nC0)
    clear hC hC4 hcs c1 np1 D4 K4 s04 hG4 D3 K3 s12 hZ2 lv sub
    cases cs with
    | cons cx cs' =>
      refine ⟨by show 0 ≤ sizeLine; decide, fun F nF => ?_⟩
      have cF := same_new (o := .lst []) nF
      have hF := upd_same (H := H5) (a := F) (o := .lst [])
      have nFH := s05.free nF
      have nFd := hD.ned nFH
      have hC6 := cF _ _ hC5
      have hcs6 : Paired (fun c xs => (upd H5 F (.lst [])) c = some (.tup (xs.map V.int))) (cx :: cs') rows := Paired.mono (fun _ _ e => cF _ _ e) hcs5
      have hG6 := cF _ _ hG5
      have D6 := D5.same cF
      have s06 := s05.trans cF
      have nC := nF
      generalize upd H5 F (.lst []) = H6 at cF hF hC6 hcs6 hG6 D6 s06
      have lcs := Paired.length hcs6
      refine ⟨.ref C, rfl, .ref dk, rfl, .ref C, rfl, C, _, rfl, .inl (SqL.of hC6), dk, c, _, rfl, D6, by rw [List.length_map, List.length_cons]; omega, by rw [List.length_map, lcs]; omega, fun a H7 a0 a1 D7 K7 => ?_⟩
      obtain ⟨x1, mx, ax⟩ := at_mem68 a0 a1
      obtain ⟨cr, hcr, rfl⟩ := List.mem_map.mp mx
      obtain ⟨ix, hix⟩ := List.getElem?_of_mem hcr
      obtain ⟨xs, exs, hxs⟩ := Paired.at hcs6 hix
      have row := each xs (List.mem_of_getElem? exs)
      have K07 : Kp dk c H H7 := (Kp.trans (Same.kp s06) K7)
      have hF7 := K7 _ _ nFd.1 nFd.2 hF
      have hG7 := K7 _ _ hLd.1 hLd.2 hG6
      have hxs7 := K7.tk D6 _ _ hxs
      refine ⟨C, _, a, _, rfl, rfl, SqL.of (K7 _ _ nCd.1 nCd.2 hC6), ax, cr, rfl, ⟨_, SqT.of hxs7⟩, ?_⟩
      have tk5 : ∀ {H' : Hp}, K68 dk c F H5 H' → Tk H H' := fun k b o h => k.tk D5 nC _ _ (Same.tk s05 _ _ h)
      have kxs : ∀ {H' : Hp}, K68 dk c F H5 H' → H' cr = some (.tup (xs.map V.int)) := fun k => by
        obtain ⟨xs', exs', h'⟩ := Paired.at hcs5 hix
        rw [exs] at exs'
        cases exs'
        exact k.tk D5 nC _ _ h'
      refine for_tup (xs := xs.map V.int) (fun i σ' H' => ∃ (y5 y6 y7 y8 y9 y12 y13 y14 y15 y16 y17 : Option V) (zs : List Int), σ' = [some (.ref dk), some (.ref wa), some (.int k), some (.int e), some (.ref L), y5, y6, y7, y8, y9, some (.ref C), some (.ref F), y12, y13, y14, y15, y16, y17] ∧ H' F = some (.lst (zs.map V.int)) ∧ zs.length ≤ i ∧ (∀ z ∈ zs, 0 ≤ z ∧ z < (n : Int)) ∧ Deck H' dk c ∧ K68 dk c F H5 H') ⟨_, _, _, _, _, _, _, _, _, _, _, [], rfl, hF7, Nat.le_refl _, (fun x h => by cases h), D7, K68.of ((Same.kp cF).trans K7)⟩ (fun i σ' H' _ h => by
        obtain ⟨_, _, _, _, _, _, _, _, _, _, _, _, _, _, _, _, _, h⟩ := h
        exact SqT.of (kxs h)) ?_ ?_
      · rintro i x σ' H8 ex ⟨y5, y6, y7, y8, y9, y12, y13, y14, y15, y16, y17, zs, rfl, hF8, lz, zr, D8, K8⟩
        rw [List.getElem?_map] at ex
        obtain ⟨x, ex2, rfl⟩ := Option.map_eq_some_iff.mp ex
        have hi := (List.getElem?_eq_some_iff.mp ex2).1
        have xr := row.rg x (List.mem_of_getElem? ex2)
        rw [row.len] at hi
        have hG8 := K8.lst hG5 hLd nC
        refine ⟨.ref wa, rfl, wa, _, 0, .int n, rfl, rfl, SqT.of (tk5 K8 _ _ hwa), rfl, n, rfl, by omega, by omega, fun B nB => ?_⟩
        have nBH := (K8.end K5 nFH).free nB (D8.ned nB).1 (D8.ned nB).2
        have hBd := D8.ned nB
        have hBF : B ≠ F := (ne_of_none hF8 nB).symm
        refine lc_it (walk_range (lo := 0) (n := (n : Int).toNat)) (fun j H' => ∃ ws : List Int, H' B = some (.lst (ws.map V.int)) ∧ ws.length ≤ j ∧ (∀ z ∈ ws, 0 ≤ z ∧ z < (n : Int)) ∧ (x < (j : Int) → ws ≠ []) ∧ Same H8 H') ⟨[], upd_same, Nat.le_refl _, (fun x h => by cases h), fun z => absurd z (by have := xr.1; omega), same_new nB⟩ (fun _ _ _ _ => trivial) ?_ ?_
        · rintro j _ H9 _ hj ⟨ws, hB, lw, wr, wn, s9⟩ ⟨rfl, rfl⟩
          refine ⟨rfl, .ref L, rfl, .int (0 + (j : Nat)), rfl, L, _, 0 + (j : Int), _, rfl, rfl, SqL.of (s9 _ _ hG8), lf_at g (by omega) (by omega), .int x, rfl, rfl, _, rfl, ?_⟩
          by_cases eg : g (0 + (j : Int)) = x
          · rw [show decide (V.int (g (0 + (j : Int))) = V.int x) = true from decide_eq_true (by rw [eg])]
            refine ⟨.int (0 + (j : Nat)), rfl, _, hB, by rw [List.length_map]; exact small1000 (by omega), ws ++ [0 + (j : Int)], by rw [upd_same, List.map_append]; rfl, by rw [List.length_append]; show ws.length + 1 ≤ _; omega, fun z hz => ?_, fun _ => by simp, Same.mut s9 nB⟩
            rcases List.mem_append.mp hz with h | h
            · exact wr z h
            · rw [List.mem_singleton.mp h]; omega
          · rw [show decide (V.int (g (0 + (j : Int))) = V.int x) = false from decide_eq_false (fun z => eg (by injection z))]
            refine ⟨ws, hB, by omega, wr, fun hx => ?_, s9⟩
            by_cases hxj : x = (j : Int)
            · exact absurd (by rw [show (0 : Int) + (j : Int) = x from by omega]; exact xr.2) eg
            · exact wn (by omega)
        rintro H9 ⟨ws, hB, lw, wr, wn, s9⟩
        have wn := wn (by have := xr.1; omega)
        have K9 := K8.same s9
        have D9 := D8.same s9
        have hF9 := s9 _ _ hF8
        refine ⟨.ref F, rfl, .inl ⟨rfl, _, SqL.of hF9⟩, .ref B, rfl, .ref dk, rfl, .ref B, rfl, B, _, rfl, .inl (SqL.of hB), dk, c, _, rfl, D9, ?_, ?_, fun b H10 b0 b1 D10 K10 => ?_⟩
        · rw [List.length_map]
          cases ws with
          | nil => exact absurd rfl wn
          | cons a ws' => rw [List.length_cons]; omega
        · rw [List.length_map]; omega
        have hB10 := K10 _ _ hBd.1 hBd.2 hB
        have hF10 := K10 _ _ nFd.1 nFd.2 hF9
        obtain ⟨wv, mw, aw⟩ := at_mem68 b0 b1
        obtain ⟨z, hz, rfl⟩ := List.mem_map.mp mw
        refine ⟨B, _, b, _, rfl, rfl, SqL.of hB10, aw, F, _, _, rfl, rfl, hF10, by rw [List.length_map]; exact small1000 (by have := row.len; omega), _, _, _, _, _, _, _, _, _, _, _, zs ++ [z], rfl, by rw [upd_same, List.map_append]; rfl, by rw [List.length_append]; show zs.length + 1 ≤ _; omega, fun y hy => ?_, D10.mut nFd.1 nFd.2, (K9.kp K10).mut⟩
        rcases List.mem_append.mp hy with h | h
        · exact zr y h
        · rw [List.mem_singleton.mp h]; exact wr z hz
      · rintro σ' H8 ⟨y5, y6, y7, y8, y9, y12, y13, y14, y15, y16, y17, zs, rfl, hF8, lz, zr, D8, K8⟩
        rw [List.length_map, row.len] at lz
        refine ⟨.ref F, rfl, F, zs, rfl, SqL.of hF8, fun zs' r perm srt nr => ?_⟩
        have pl := perm.length_eq
        have c9 := same_new (o := .lst (zs'.map V.int)) nr
        refine ⟨r, _, rfl, .inl ⟨SqL.of upd_same, fun z nz => ⟨by show 2 ≤ sizeLine; decide, fun y ny => ?_⟩⟩⟩
        have c10 := same_new (o := .tup (zs'.map V.int)) nz
        have hz10 := upd_same (H := upd H8 r (.lst (zs'.map V.int))) (a := z) (o := .tup (zs'.map V.int))
        generalize upd (upd H8 r (.lst (zs'.map V.int))) z (.tup (zs'.map V.int)) = H10 at c10 hz10 ny
        have c11 := same_new (o := .tup [.str "crowd", .ref z]) ny
        refine q _ (.crowd zs') _ (D8.same ((c9.trans c10).trans c11)) ((K8.end K5 nFH).trans (Same.kp ((c9.trans c10).trans c11))) ⟨y, z, rfl, upd_same, c11 _ _ hz10⟩ ⟨by omega, fun x hx => ?_⟩ (Nat.zero_le _) (two e)
        have := zr x (perm.mem_iff.mp hx)
        exact ⟨by omega, by omega⟩
    | nil =>
    have kT : ∀ {H' : Hp}, Same H5 H' → Tk H H' := fun k => Same.tk (s05.trans k)
    refine ⟨.ref wa, rfl, wa, _, 1, .ref wb, rfl, rfl, SqT.of (s05 _ _ hwa), rfl, wb, rfl, ⟨_, SqT.of (s05 _ _ hwb)⟩, fun M1 nM => ?_⟩
    refine lc_it (walk_tup (xs := us)) (fun i H' => ∃ ms : List (Int × Int), PrL H' M1 ms ∧ ms.length ≤ i ∧ Same H5 H') ⟨[], ⟨[], upd_same, .nil⟩, Nat.le_refl _, same_new nM⟩ (fun i H' _ ⟨_, _, _, s⟩ => SqT.of ((s05.trans s) _ _ hwb)) ?_ ?_
    · rintro i x1 H6 H7 hi ⟨ms, hM, lm, s6⟩ ⟨rfl, ex⟩
      obtain ⟨t, et, c1, rfl, hc⟩ := Paired.at hp ex
      have hc3 := (s05.trans s6) _ _ hc
      have hG6 := s6 _ _ hG5
      have o := ok t (List.mem_of_getElem? et)
      refine ⟨c1, _, rfl, SqT.of hc3, rfl, _, _, rfl, _, _, rfl, _, _, rfl, rfl, rfl, .str (kindS t.foe), rfl, rfl, _, rfl, ?_⟩
      have ek : decide (V.str (kindS t.foe) = V.str "foe") = t.foe := by cases t.foe <;> decide +kernel
      rw [ek]
      cases hf : t.foe with
      | false => exact ⟨ms, hM, by omega, s6⟩
      | true =>
        refine ⟨.ref L, rfl, .int t.one, rfl, L, _, t.one, _, rfl, rfl, SqL.of hG6, lf_at g o.1 o.2.1, .ref L, rfl, .int t.other, rfl, L, _, t.other, _, rfl, rfl, SqL.of hG6, lf_at g o.2.2.1 o.2.2.2.1, by show 2 ≤ sizeLine; decide, fun r nr => ?_⟩
        have c7 := same_new (o := .tup [.int (g t.one), .int (g t.other)]) nr
        have hM7 := hM.same c7
        obtain ⟨bs, hb1, hb2⟩ := id hM7
        have lb := Paired.length hb2
        exact ⟨_, hb1, by rw [List.length_map, lb]; exact small1000 (by omega), ms ++ [(g t.one, g t.other)], hM7.snocK upd_same hb1, by rw [List.length_append]; show ms.length + 1 ≤ _; omega, Same.mut (s6.trans c7) nM⟩
    rintro H6 ⟨ms, hM, lm, s6⟩
    have s06 := s05.trans s6
    have K6 : Kp dk c H H6 := Same.kp s06
    have D6 := D5.same s6
    have hG6 := s6 _ _ hG5
    have hMd := hD.ned (s05.free nM)
    refine ⟨by show 0 ≤ sizeLine; decide, fun PL nP => ?_⟩
    have nPH := s06.free nP
    have nPd := hD.ned nPH
    have cP := same_new (o := .lst []) nP
    have kP : K68 dk c PL H6 (upd H6 PL (.lst [])) := K68.of (Same.kp cP)
    have hP : PrL (upd H6 PL (.lst [])) PL [] := ⟨[], upd_same, .nil⟩
    have D7 := D6.same cP
    have hwa7 := cP _ _ (s06 _ _ hwa)
    generalize upd H6 PL (.lst []) = H7 at kP hP D7 hwa7
    clear cP
    refine ⟨.ref wa, rfl, wa, _, 0, .int n, rfl, rfl, SqT.of hwa7, rfl, n, rfl, by omega, by omega, ?_⟩
    refine for_range (lo := 0) (n := (n : Int).toNat) (fun i σ' H' => ∃ (y5 y6 y7 y8 y9 y10 y11 y12 y13 y16 y17 : Option V) (ps : List (Int × Int)), σ' = [some (.ref dk), some (.ref wa), some (.int k), some (.int e), some (.ref L), y5, y6, y7, y8, y9, y10, y11, y12, y13, some (.ref M1), some (.ref PL), y16, y17] ∧ PrL H' PL ps ∧ ps.length ≤ 5 * i ∧ (∀ p ∈ ps, (0 ≤ p.1 ∧ p.1 < (n : Int)) ∧ (0 ≤ p.2 ∧ p.2 < (n : Int)) ∧ p.1 ≠ p.2) ∧ Deck H' dk c ∧ K68 dk c PL H6 H') ⟨_, _, _, _, _, _, _, _, _, _, _, [], rfl, hP, Nat.zero_le _, (fun x h => by cases h), D7, kP⟩ ?_ ?_
    · rintro i σ' H8 hi ⟨y5, y6, y7, y8, y9, y10, y11, y12, y13, y16, y17, ps, rfl, hP8, lp, pr, D8, K8⟩
      refine ⟨.int (0 + (i : Nat)), rfl, _, rfl, by omega, by omega, ?_⟩
      refine for_range (lo := 0) (n := (0 + (i : Int)).toNat) (fun j σ' H' => ∃ (y5 y6 y8 y9 y10 y11 y12 y13 y16 y17 : Option V) (ps : List (Int × Int)), σ' = [some (.ref dk), some (.ref wa), some (.int k), some (.int e), some (.ref L), y5, y6, some (.int (0 + (i : Nat))), y8, y9, y10, y11, y12, y13, some (.ref M1), some (.ref PL), y16, y17] ∧ PrL H' PL ps ∧ ps.length ≤ 5 * i + j ∧ (∀ p ∈ ps, (0 ≤ p.1 ∧ p.1 < (n : Int)) ∧ (0 ≤ p.2 ∧ p.2 < (n : Int)) ∧ p.1 ≠ p.2) ∧ Deck H' dk c ∧ K68 dk c PL H6 H') ⟨_, _, _, _, _, _, _, _, _, _, ps, rfl, hP8, by omega, pr, D8, K8⟩ ?_ ?_
      · rintro j σ' H9 hj ⟨y5, y6, y8, y9, y10, y11, y12, y13, y16, y17, ps, rfl, hP9, lp, pr, D9, K9⟩
        have hx0 : 0 ≤ (0 + (i : Int)) ∧ (0 + (i : Int)) < (n : Int) := by omega
        have hy0 : 0 ≤ (0 + (j : Int)) ∧ (0 + (j : Int)) < (n : Int) := by omega
        have hxy : (0 + (i : Int)) ≠ (0 + (j : Int)) := by omega
        have hG9 := K9.lst hG6 hLd nP
        have hM9 := K9.prl hM hMd D6 nP
        refine ⟨.ref L, rfl, .int (0 + (i : Int)), rfl, L, _, (0 + (i : Int)), _, rfl, rfl, SqL.of hG9, lf_at g hx0.1 hx0.2, .ref L, rfl, .int (0 + (j : Int)), rfl, L, _, (0 + (j : Int)), _, rfl, rfl, SqL.of hG9, lf_at g hy0.1 hy0.2, by show 2 ≤ sizeLine; decide, fun T nT => ?_⟩
        generalize hgx : g (0 + (i : Int)) = gx
        generalize hgy : g (0 + (j : Int)) = gy
        have cT := same_new (o := .tup [.int gx, .int gy]) nT
        have hT := upd_same (H := H9) (a := T) (o := .tup [.int gx, .int gy])
        generalize upd H9 T (.tup [.int gx, .int gy]) = H10 at cT hT
        have hP10 := hP9.same cT
        have K10 := K9.same cT
        have D10 := D9.same cT
        have hM10 := hM9.same cT
        clear hG9 hM9 hP9 K9 D9
        refine ⟨.ref T, rfl, T, _, 0, .int gx, rfl, rfl, SqT.of hT, rfl, .ref T, rfl, T, _, 1, .int gy, rfl, rfl, SqT.of hT, rfl, rfl, _, rfl, ?_⟩
        cases h1 : !decide (V.int gx = V.int gy) with
        | false => exact ⟨_, _, _, _, _, _, _, _, _, _, ps, rfl, hP10, by omega, pr, D10, K10⟩
        | true =>
        obtain ⟨ds, d1, d2, d3⟩ := hM10.dp (K := K)
        refine ⟨.ref T, rfl, .ref M1, rfl, intsD [gx, gy], ds, .tup (SqT.of hT) (dp_ints [gx, gy]), d1, shaped_intsD _, d2, _, rfl, ?_⟩
        cases h2 : !ds.any fun z => PyData.eqv z (intsD [gx, gy]) with
        | false => exact ⟨_, _, _, _, _, _, _, _, _, _, ps, rfl, hP10, by omega, pr, D10, K10⟩
        | true =>
        refine ⟨.ref T, rfl, T, _, rfl, SqT.of hT, fun T2 nT2 => ?_⟩
        have c2 := same_new (o := .tup [.int gy, .int gx]) nT2
        have hT2 := upd_same (H := H10) (a := T2) (o := .tup [.int gy, .int gx])
        rw [show [V.int gx, V.int gy].reverse = [V.int gy, V.int gx] from rfl]
        have hM11 := hM10.same c2
        have hP11 := hP10.same c2
        have K11 := K10.same c2
        have D11 := D10.same c2
        clear hM10 hP10 K10 D10 d1 d2 d3
        obtain ⟨ds, d1, d2, d3⟩ := hM11.dp (K := K)
        refine ⟨.ref M1, rfl, intsD [gy, gx], ds, .tup (SqT.of hT2) (dp_ints [gy, gx]), d1, shaped_intsD _, d2, _, rfl, ?_⟩
        generalize upd H10 T2 (.tup [.int gy, .int gx]) = H11 at hM11 hP11 K11 D11
        cases h3 : !ds.any fun z => PyData.eqv z (intsD [gy, gx]) with
        | false => exact ⟨_, _, _, _, _, _, _, _, _, _, ps, rfl, hP11, by omega, pr, D11, K11⟩
        | true =>
        clear d1 d2 d3 hT2 h1 h2 h3 hT cT
        obtain ⟨bs0, hb0, _⟩ := id hP11
        refine ⟨.ref PL, rfl, .inl ⟨rfl, _, SqL.of hb0⟩, .int (0 + (i : Int)), rfl, .int (0 + (j : Int)), rfl, by show 2 ≤ sizeLine; decide, fun p2 np2 => ?_⟩
        have c2' := same_new (o := .tup [.int (0 + (i : Int)), .int (0 + (j : Int))]) np2
        have hp2 := upd_same (H := H11) (a := p2) (o := .tup [.int (0 + (i : Int)), .int (0 + (j : Int))])
        generalize upd H11 p2 (.tup [.int (0 + (i : Int)), .int (0 + (j : Int))]) = H12 at c2' hp2
        refine ⟨.int (0 + (j : Int)), rfl, .int (0 + (i : Int)), rfl, by show 2 ≤ sizeLine; decide, fun p3 np3 => ?_⟩
        have c3 := same_new (o := .tup [.int (0 + (j : Int)), .int (0 + (i : Int))]) np3
        have hp3 := upd_same (H := H12) (a := p3) (o := .tup [.int (0 + (j : Int)), .int (0 + (i : Int))])
        generalize upd H12 p3 (.tup [.int (0 + (j : Int)), .int (0 + (i : Int))]) = H13 at c3 hp3
        refine ⟨by show 2 ≤ sizeLine; decide, fun p4 np4 => ?_⟩
        have c4 := same_new (o := .lst [.ref p2, .ref p3]) np4
        have hp4 := upd_same (H := H13) (a := p4) (o := .lst [.ref p2, .ref p3])
        generalize upd H13 p4 (.lst [.ref p2, .ref p3]) = H14 at c4 hp4
        have s14 := (c2'.trans c3).trans c4
        have D14 := D11.same s14
        have n4 := D11.ned ((c2'.trans c3).free np4)
        have hP14 := hP11.same s14
        have K14 := K11.same s14
        refine ⟨.ref dk, rfl, dk, c, 2, rfl, D14, by decide, by decide, fun b H15 b0 b1 D15 K15 => ?_⟩
        have hp2' := K15.tk D14 _ _ ((c3.trans c4) _ _ hp2)
        have hp3' := K15.tk D14 _ _ (c4 _ _ hp3)
        have hP15 := hP14.keep68 K15 nPd D14
        have pk := pick68 b0 b1 (.ref p2) (.ref p3)
        obtain ⟨r, pq, er, hr', prq⟩ : ∃ (r : Addr) (pq : Int × Int), (if b = 0 then V.ref p2 else V.ref p3) = V.ref r ∧ H15 r = some (.tup [.int pq.1, .int pq.2]) ∧ (0 ≤ pq.1 ∧ pq.1 < (n : Int)) ∧ (0 ≤ pq.2 ∧ pq.2 < (n : Int)) ∧ pq.1 ≠ pq.2 := by
          by_cases hb : b = 0
          · exact ⟨p2, ((0 + (i : Int)), (0 + (j : Int))), if_pos hb, hp2', hx0, hy0, hxy⟩
          · exact ⟨p3, ((0 + (j : Int)), (0 + (i : Int))), if_neg hb, hp3', hy0, hx0, hxy.symm⟩
        rw [er] at pk
        obtain ⟨bs, hb1, hb2⟩ := id hP15
        have lb := Paired.length hb2
        refine ⟨p4, _, b, _, rfl, rfl, SqL.of (K15 _ _ n4.1 n4.2 hp4), pk, PL, _, _, rfl, rfl, hb1, by rw [List.length_map, lb]; exact small1000 (by omega), _, _, _, _, _, _, _, _, _, _, ps ++ [pq], rfl, hP15.snocK hr' hb1, by rw [List.length_append]; show ps.length + 1 ≤ _; omega, fun p hp => ?_, D15.mut nPd.1 nPd.2, (K14.kp K15).mut⟩
        rcases List.mem_append.mp hp with h | h
        · exact pr p h
        · rw [List.mem_singleton.mp h]; exact prq
      · rintro σ' H9 ⟨y5, y6, y8, y9, y10, y11, y12, y13, y16, y17, ps, rfl, hP9, lp, pr, D9, K9⟩
        exact ⟨_, _, _, _, _, _, _, _, _, _, _, ps, rfl, hP9, by omega, pr, D9, K9⟩
    rintro σ' H8 ⟨y5, y6, y7, y8, y9, y10, y11, y12, y13, y16, y17, ps, rfl, hP8, lp, pr, D8, K8⟩
    have er : rgV 0 (k + 1) = (rng (k + 1).toNat).map V.int := by rw [← rgV_rng, Int.toNat_of_nonneg (by omega)]
    obtain ⟨bs, hb1, hb2⟩ := id hP8
    have lb := Paired.length hb2
    refine ⟨.ref PL, rfl, by show 0 ≤ sizeLine; decide, fun p1 np1 => ?_⟩
    have c1 := same_new (o := .lst []) np1
    refine ⟨PL, p1, _, rfl, rfl, SqL.of (c1 _ _ hb1), SqL.of upd_same, _, rfl, ?_⟩
    have K08 := (K8.end K6 nPH).trans (Same.kp c1)
    have D8 := D8.same c1
    have hP8 := hP8.same c1
    have hb1 := c1 _ _ hb1
    have hb2 : Paired (fun b (p : Int × Int) => (upd H8 p1 (.lst [])) b = some (.tup [.int p.1, .int p.2])) bs ps := Paired.mono (fun _ _ e => c1 _ _ e) hb2
    generalize upd H8 p1 (.lst []) = H9 at K08 D8 hP8 hb1 hb2
    cases bs with
    | nil =>
      refine ⟨.int k, rfl, k, 1, rfl, rfl, k + 1, rfl, RgOk.of_le (by omega) (by omega) (by omega) (by omega), fun r nr => ?_⟩
      rw [er]
      refine ⟨by show 2 ≤ sizeLine; decide, fun y ny => ?_⟩
      have c9 := same_new (o := .tup ((rng (k + 1).toNat).map V.int)) nr
      have c10 := same_new (o := .tup [.str "crowd", .ref r]) ny
      refine q _ (.crowd (rng (k + 1).toNat)) _ (D8.same (c9.trans c10)) (K08.trans (Same.kp (c9.trans c10))) ⟨y, r, rfl, upd_same, c10 _ _ upd_same⟩ ⟨by rw [rng_length]; omega, fun x hx => ?_⟩ (Nat.zero_le _) (two e)
      have := mem_rng.mp hx
      exact ⟨by omega, by omega⟩
    | cons b0 bs' =>
    refine ⟨.int e, rfl, rfl, _, rfl, ?_⟩
    cases e with
    | zero =>
      refine ⟨.int k, rfl, k, 1, rfl, rfl, k + 1, rfl, RgOk.of_le (by omega) (by omega) (by omega) (by omega), fun r nr => ?_⟩
      rw [er]
      refine ⟨by show 2 ≤ sizeLine; decide, fun y ny => ?_⟩
      have c9 := same_new (o := .tup ((rng (k + 1).toNat).map V.int)) nr
      have c10 := same_new (o := .tup [.str "crowd", .ref r]) ny
      refine q _ (.crowd (rng (k + 1).toNat)) _ (D8.same (c9.trans c10)) (K08.trans (Same.kp (c9.trans c10))) ⟨y, r, rfl, upd_same, c10 _ _ upd_same⟩ ⟨by rw [rng_length]; omega, fun x hx => ?_⟩ (Nat.zero_le _) (two 0)
      have := mem_rng.mp hx
      exact ⟨by omega, by omega⟩
    | succ e' =>
    obtain ⟨d', rfl, hd⟩ := spMadeR_up (show e' < d from by omega)
    have ne0 : decide (V.int ((e' + 1 : Nat) : Int) = V.int 0) = false := decide_eq_false (fun z => by injection z with z; omega)
    rw [ne0]
    refine ⟨.ref PL, rfl, .ref dk, rfl, .ref PL, rfl, PL, _, rfl, .inl (SqL.of hb1), dk, c, _, rfl, D8, by rw [List.length_map, List.length_cons]; omega, by rw [List.length_map, lb]; omega, fun a H10 a0 a1 D10 K10 => ?_⟩
    obtain ⟨x1, mx, ax⟩ := at_mem68 a0 a1
    obtain ⟨pb, hpb, rfl⟩ := List.mem_map.mp mx
    obtain ⟨ix, hix⟩ := List.getElem?_of_mem hpb
    obtain ⟨⟨x, y⟩, exs, hxs⟩ := Paired.at hb2 hix
    have pxy := pr _ (List.mem_of_getElem? exs)
    have K010 := K08.trans K10
    refine ⟨PL, _, a, _, rfl, rfl, SqL.of (K10 _ _ nPd.1 nPd.2 hb1), ax, pb, _, rfl, SqT.of (K10.tk D8 _ _ hxs), rfl, _, _, rfl, _, _, rfl, rfl, ?_⟩
    have tok : ∀ f : Bool, ∀ t ∈ ts ++ [⟨x, y, f⟩], TieOk n t := fun f t ht => by
      rcases List.mem_append.mp ht with h | h
      · exact ok t h
      · rw [List.mem_singleton.mp h]
        exact ⟨pxy.1.1, pxy.1.2, pxy.2.1.1, pxy.2.1.2, pxy.2.2⟩
    have sx : Sml x := ⟨by have := pxy.1.1; show -5 ≤ x; omega, by have := pxy.1.2; show x < 100; omega⟩
    have sy : Sml y := ⟨by have := pxy.2.1.1; show -5 ≤ y; omega, by have := pxy.2.1.2; show y < 100; omega⟩
    refine ⟨.ref dk, rfl, .ref wa, rfl, wa, _, 0, .int n, rfl, rfl, SqT.of (K010.tk hD _ _ hwa), rfl, .ref wa, rfl, wa, _, 1, .ref wb, rfl, rfl, SqT.of (K010.tk hD _ _ hwa), rfl, .int x, rfl, .int y, rfl, by show 3 ≤ sizeLine; decide, fun T1 nT1 => ?_⟩
    have c1 := same_new (o := .tup [.int x, .int y, .str "friend"]) nT1
    refine ⟨by show 1 ≤ sizeLine; decide, fun T2 nT2 => ?_⟩
    have c2 := same_new (o := .tup [.ref T1]) nT2
    have hT1 := c2 _ _ (upd_same (H := H10) (a := T1) (o := .tup [.int x, .int y, .str "friend"]))
    refine ⟨wb, T2, us, _, rfl, rfl, (c1.trans c2) _ _ (K010.tk hD _ _ hwb), upd_same, by rw [lu]; show ts.length + 1 ≤ _; omega, fun r7 H10a s7 hr7 => ?_⟩
    refine ⟨by show 2 ≤ sizeLine; decide, fun W1 nW1 => ?_⟩
    have c3 := same_new (o := .tup [.int n, .ref r7]) nW1
    have c13 := ((c1.trans c2).trans s7).trans c3
    have hw11 : WebAt (upd H10a W1 (.tup [.int n, .ref r7])) (.ref W1) n (ts ++ [⟨x, y, false⟩]) := ⟨W1, r7, us ++ [.ref T1], rfl, upd_same, c3 _ _ hr7, Paired.snoc65 (ties_tk (Same.tk c13) (ties_tk (K010.tk hD) hp)) ⟨T1, rfl, (s7.trans c3) _ _ hT1⟩⟩
    have D11a := D10.same c13
    have K11a := K010.trans (Same.kp c13)
    refine ⟨.int k, rfl, .int (e' + 1 : Nat), rfl, ((e' + 1 : Nat) : Int), 1, rfl, rfl, dk, c, .ref W1, k, n, _, e', by show [V.ref dk, V.ref W1, V.int k, V.int (((e' + 1 : Nat) : Int) - 1)] = _; rw [show ((e' + 1 : Nat) : Int) - 1 = (e' : Int) from by omega], D11a, hw11, n25, tok _, by rw [List.length_append]; show ts.length + 1 + e' ≤ 100; omega, kb, hd, fun y11 t11 H11 D11 K11 h11 sm11 dp11 sz11 => ?_⟩
    have K011 := K11a.trans K11
    clear c1 c2 hT1 hr7 c3 c13 s7 hw11 K11a
    refine ⟨.int x, rfl, .int y, rfl, y11, rfl, .ref dk, rfl, .ref wa, rfl, wa, _, 0, .int n, rfl, rfl, SqT.of (K011.tk hD _ _ hwa), rfl, .ref wa, rfl, wa, _, 1, .ref wb, rfl, rfl, SqT.of (K011.tk hD _ _ hwa), rfl, .int x, rfl, .int y, rfl, by show 3 ≤ sizeLine; decide, fun T1 nT1 => ?_⟩
    have c1 := same_new (o := .tup [.int x, .int y, .str "foe"]) nT1
    refine ⟨by show 1 ≤ sizeLine; decide, fun T2 nT2 => ?_⟩
    have c2 := same_new (o := .tup [.ref T1]) nT2
    have hT1 := c2 _ _ (upd_same (H := H11) (a := T1) (o := .tup [.int x, .int y, .str "foe"]))
    refine ⟨wb, T2, us, _, rfl, rfl, (c1.trans c2) _ _ (K011.tk hD _ _ hwb), upd_same, by rw [lu]; show ts.length + 1 ≤ _; omega, fun r7 H11a s7 hr7 => ?_⟩
    refine ⟨by show 2 ≤ sizeLine; decide, fun W1 nW1 => ?_⟩
    have c3 := same_new (o := .tup [.int n, .ref r7]) nW1
    have c13 := ((c1.trans c2).trans s7).trans c3
    have hw12 : WebAt (upd H11a W1 (.tup [.int n, .ref r7])) (.ref W1) n (ts ++ [⟨x, y, true⟩]) := ⟨W1, r7, us ++ [.ref T1], rfl, upd_same, c3 _ _ hr7, Paired.snoc65 (ties_tk (Same.tk c13) (ties_tk (K011.tk hD) hp)) ⟨T1, rfl, (s7.trans c3) _ _ hT1⟩⟩
    have h11' := NTV.tk (Same.tk c13) h11
    have D12a := D11.same c13
    have K12a := K011.trans (Same.kp c13)
    refine ⟨.int k, rfl, .int (e' + 1 : Nat), rfl, ((e' + 1 : Nat) : Int), 1, rfl, rfl, dk, c, .ref W1, k, n, _, e', by show [V.ref dk, V.ref W1, V.int k, V.int (((e' + 1 : Nat) : Int) - 1)] = _; rw [show ((e' + 1 : Nat) : Int) - 1 = (e' : Int) from by omega], D12a, hw12, n25, tok _, by rw [List.length_append]; show ts.length + 1 + e' ≤ 100; omega, kb, hd, fun y12 t12 H12 D12 K12 h12 sm12 dp12 sz12 => ?_⟩
    have K012 := K12a.trans K12
    clear c1 c2 hT1 hr7 c3 c13 s7 hw12 K12a
    refine ⟨by show 5 ≤ sizeLine; decide, fun r nr => ?_⟩
    have cr := same_new (o := .tup [.str "case", .int x, .int y, y11, y12]) nr
    refine q _ (.case x y t11 t12) _ (D12.same cr) (K012.trans (Same.kp cr)) ⟨r, y11, y12, rfl, upd_same, NTV.tk (Same.tk cr) (NTV.tk (K12.tk D12a) h11'), NTV.tk (Same.tk cr) h12⟩ ⟨⟨sx, sy⟩, sm11, sm12⟩ ?_ ?_
    · show 1 + max t11.dep t12.dep ≤ e' + 1
      omega
    · show 1 + t11.siz + t12.siz + 1 ≤ 2 ^ (e' + 1 + 1)
      rw [Nat.pow_succ 2 (e' + 1)]
      omega
theorem ok_made68 {f : Addr} {fd : FuncData} (F : Fun K "_law_made" "_law_made" s_l_made f fd) (M : Free mg) (m_sorted : mg "sorted" = none) (g : mg "_law_made" = some (.ref f)) (b : L2.Binds K fd ["_law_deck_here", "_law_web", "_law_k", "_law_deep"] []) (D_l_groups : Df P w K mg base 1 "_law_groups" ["_law_web", "_law_kinds"] spGroups2) (D_l_draw : Df P w K mg base 1 "_law_draw" ["_law_deck_here", "_law_most"] spDraw) (D_l_crowds : Df P w K mg base 1 "_law_crowds" ["_law_web", "_law_k", "_law_groups_here"] spCrowds) : ∀ d, FnOk P w K mg base CX0 (2 + d) f fd ["_law_deck_here", "_law_web", "_law_k", "_law_deep"] (spMadeR d)
  | 0 => ⟨fun vs H Q E h => h.elim, fun B out z H ar us vs Q E _ _ _ _ h => h.elim⟩
  | d + 1 => by
    rw [show 2 + (d + 1) = 2 + d + 1 from by omega]
    exact made_step68 d F M m_sorted D_l_groups D_l_draw D_l_crowds ⟨f, fd, ok_made68 F M m_sorted g b D_l_groups D_l_draw D_l_crowds d, g, F.kp, b⟩
end
/-! ### k67: odd things -/
theorem same_new2 {H : Hp} {p : Addr} {o o' : HO} (h : H p = none) : Same H (upd (upd H p o) p o') := fun b x e => by
  rw [upd_ne (ne_of_none e h), upd_ne (ne_of_none e h)]
  exact e
/-- a thing of any kind that is no paper and can be told -/
def Th67 (K : PySem.W.Frag) (H : Hp) (v : V) : Prop := (Kn H v ∧ BadV H v) ∧ ∃ d, RdX K H v d ∧ FineX 3 1000 d
theorem bad_of {H : Hp} {v : V} (h : Kn H v) (n : isT H v = false) : Kn H v ∧ BadV H v := ⟨h, .inl ⟨h, n⟩⟩
theorem bad_nilT67 {H : Hp} {a : Addr} (h : H a = some (.tup [])) : Kn H (.ref a) ∧ BadV H (.ref a) := ⟨.inr (.inl ⟨_, h⟩), .inr ⟨a, _, rfl, h, .inl rfl⟩⟩
theorem bad_tup {H : Hp} {a : Addr} {x : V} {xs : List V} (h : H a = some (.tup (x :: xs))) (k : Kn H x) (n : ∀ s : Str, x ≠ .str s) : Kn H (.ref a) ∧ BadV H (.ref a) := ⟨.inr (.inl ⟨_, h⟩), .inr ⟨a, _, rfl, h, .inr ⟨x, xs, rfl, k, fun z => n _ z.1, fun z => n _ z.1, fun z => n _ z.1⟩⟩⟩
theorem bad_lst {H : Hp} {a : Addr} {xs : List V} (h : H a = some (.lst xs)) : Kn H (.ref a) ∧ BadV H (.ref a) := bad_of (.inl ⟨xs, h⟩) (by unfold isT; simp only [h])
theorem bad_dct {H : Hp} {a : Addr} {xs : List (Key × V)} (h : H a = some (.dK xs)) : Kn H (.ref a) ∧ BadV H (.ref a) := bad_of (.inr (.inr ⟨xs, h⟩)) (by unfold isT; simp only [h])
theorem td_int {K : PySem.W.Frag} {H : Hp} {i : Int} (h : i.natAbs < 10 ^ 70) : Th67 K H (.int i) := ⟨bad_of trivial rfl, _, .inr (.int i), (FineX.int h).mono (by decide) (by decide)⟩
theorem td_bl {K : PySem.W.Frag} {H : Hp} (b : Bool) : Th67 K H (.bl b) := ⟨bad_of trivial rfl, _, .inr (.bl b), (FineX.bool b).mono (by decide) (by decide)⟩
theorem td_str {K : PySem.W.Frag} {H : Hp} {x : Str} (h1 : (PyData.str x).leavesShort 80 = true) (h2 : x.cps.size ≤ 100) : Th67 K H (.str x) := ⟨bad_of trivial rfl, _, .inr (.str x), (FineX.str h1 h2).mono (by decide) (by decide)⟩
def spOdd67 (K : PySem.W.Frag) : Sp := fun vs H Q _ => ∃ (d c : Addr), vs = [.ref d] ∧ Deck H d c ∧ ∀ v H', Deck H' d c → Kp d c H H' → (∀ H2, Kp d c H' H2 → Th67 K H2 v) → Q v H'
section
variable {P : Program} {w : World} {K : PySem.W.Frag} {mg : Str → Option Value} {base : Heap}
theorem ok_l_odd {f : Addr} {fd : FuncData} (F : Fun K "_law_odd" "_law_odd" s_l_odd f fd) (D_l_draw : Df P w K mg base 1 "_law_draw" ["_law_deck_here", "_law_most"] spDraw) : FnOk P w K mg base CX0 2 f fd ["_law_deck_here"] (spOdd67 K) := by
  obtain ⟨f_l_draw, fd_l_draw, G_l_draw, g_l_draw, k_l_draw, b_l_draw⟩ := D_l_draw
  refine F.ok sc_l_odd (fun vs H Q E h => ?_) (fun cdv A outer s H vs Q E hr h => ?_)
  · obtain ⟨d, c, rfl, _⟩ := h
    rfl
  · obtain ⟨d, c, rfl, hD, q⟩ := h
    refine ⟨_, (pss_cons (ps_set (i := 1) sc_l_odd.nd rfl (.inl rfl) (pe_lst (pa_cons pe_int (pa_cons (pe_un un_neg pe_int) (pa_cons pe_bl (pa_cons pe_bl (pa_cons pe_non (pa_cons pe_str (pa_cons pe_str (pa_cons (pe_tup (pa_cons pe_int pa_nil)) (pa_cons (pe_tup pa_nil) (pa_cons (pe_lst (pa_cons pe_int pa_nil)) (pa_cons pe_dnewK (pa_cons (pe_op op_pow pe_int pe_int) (pa_cons (pe_op op_sub pe_int (pe_op op_pow pe_int pe_int)) (pa_cons pe_int (pa_cons pe_str (pa_cons (pe_tup (pa_cons (pe_tup pa_nil) pa_nil)) (pa_cons (pe_lst pa_nil) (pa_cons (pe_disp (pps_cons pe_int pe_int pps_nil) (by rfl) (by rfl) (fun z => by cases z) (by decide)) pa_nil))))))))))))))))))))
      (pss_one (ps_ret (pe_ix ix_list (pv 1) (pe_call G_l_draw (hr.mono (by decide)) (by rfl) g_l_draw k_l_draw b_l_draw .nil pass0 (pa_cons (pv 0) (pa_cons pe_int pa_nil))) (fun _ _ => rfl))))), ?_⟩
    refine ⟨1, rfl, by show 1 ≤ sizeLine; decide, fun p1 n1 => ?_⟩
    have s1 : Same H _ := same_new (o := .tup [.int 0]) n1
    have h1 : (upd H p1 (.tup [.int 0])) p1 = some (.tup [.int 0]) := upd_same
    generalize upd H p1 (.tup [.int 0]) = H1 at s1 h1
    refine ⟨Nat.zero_le _, fun p2 n2 => ?_⟩
    have s2 : Same H1 _ := same_new (o := .tup []) n2
    have h2 : (upd H1 p2 (.tup [])) p2 = some (.tup []) := upd_same
    generalize upd H1 p2 (.tup []) = H2 at s2 h2
    refine ⟨by show 1 ≤ sizeLine; decide, fun p3 n3 => ?_⟩
    have e3 := (hD.same (s1.trans s2)).ned n3
    have s3 : Same H2 _ := same_new (o := .lst [.int 0]) n3
    have h3 : (upd H2 p3 (.lst [.int 0])) p3 = some (.lst [.int 0]) := upd_same
    generalize upd H2 p3 (.lst [.int 0]) = H3 at s3 h3
    refine fun p4 n4 => ?_
    have e4 := (hD.same ((s1.trans s2).trans s3)).ned n4
    have s4 : Same H3 _ := same_new (o := .dK []) n4
    have h4 : (upd H3 p4 (.dK [])) p4 = some (.dK []) := upd_same
    generalize upd H3 p4 (.dK []) = H4 at s4 h4
    refine ⟨10, 59, rfl, rfl, ⟨by decide, by decide, by decide⟩, 10, 59, rfl, rfl, ⟨by decide, by decide, by decide⟩, 0, _, rfl, rfl, Nat.zero_le _, fun p5 n5 => ?_⟩
    have s5 : Same H4 _ := same_new (o := .tup []) n5
    have h5 : (upd H4 p5 (.tup [])) p5 = some (.tup []) := upd_same
    generalize upd H4 p5 (.tup []) = H5 at s5 h5
    refine ⟨by show 1 ≤ sizeLine; decide, fun p6 n6 => ?_⟩
    have s6 : Same H5 _ := same_new (o := .tup [.ref p5]) n6
    have h6 : (upd H5 p6 (.tup [.ref p5])) p6 = some (.tup [.ref p5]) := upd_same
    generalize upd H5 p6 (.tup [.ref p5]) = H6 at s6 h6
    refine ⟨Nat.zero_le _, fun p7 n7 => ?_⟩
    have t6 : Same H H6 := ((((s1.trans s2).trans s3).trans s4).trans s5).trans s6
    have e7 := (hD.same t6).ned n7
    have s7 : Same H6 _ := same_new (o := .lst []) n7
    have h7 : (upd H6 p7 (.lst [])) p7 = some (.lst []) := upd_same
    generalize upd H6 p7 (.lst []) = H7 at s7 h7
    refine fun p8 n8 => ⟨upd_same, [(Sum.inl 0, .int 1)], rfl, by decide, ?_⟩
    have e8 := (hD.same (t6.trans s7)).ned n8
    have s8 : Same H7 _ := same_new2 (o := .dK []) (o' := .dK (mergeK [] [((Sum.inl 0 : Key), V.int 1)])) n8
    have h8 : (upd (upd H7 p8 (.dK [])) p8 (.dK (mergeK [] [((Sum.inl 0 : Key), V.int 1)]))) p8 = some (.dK [(Sum.inl 0, .int 1)]) := upd_same
    generalize upd (upd H7 p8 (.dK [])) p8 (.dK (mergeK [] [((Sum.inl 0 : Key), V.int 1)])) = H8 at s8 h8
    refine ⟨by show 18 ≤ sizeLine; decide, fun S nS => ?_⟩
    have t8 : Same H H8 := (t6.trans s7).trans s8
    have eS := (hD.same t8).ned nS
    refine ⟨.ref S, rfl, .ref d, rfl, d, c, 18, rfl, (hD.same t8).new nS, by decide, by decide, fun v H9 a9 b9 D9 K9 => ?_⟩
    have D8 := (hD.same t8).new (o := .lst []) nS
    have sS : ∀ o, Same H8 (upd H8 S o) := fun o => same_new nS
    have K : Kp d c H H9 := (Kp.trans (Same.kp t8) (Kp.new nS)).trans K9
    have hS := K9 _ _ eS.1 eS.2 upd_same
    have kp : ∀ b o, b ≠ d → b ≠ c → H8 b = some o → H9 b = some o := fun b o x y z => K9 b o x y (sS _ _ _ z)
    have ned : ∀ b xs, H8 b = some (.tup xs) → b ≠ d ∧ b ≠ c := fun b xs e => by
      obtain ⟨cells, st, n, z1, z2, _⟩ := hD.same t8
      exact ⟨ne_of e z1 (by intro z; cases z), ne_of e z2 (by intro z; cases z)⟩
    have kt : ∀ b xs, H8 b = some (.tup xs) → H9 b = some (.tup xs) := fun b xs e => kp b _ (ned b xs e).1 (ned b xs e).2 e
    have u7 := s7.trans s8
    have u6 := s6.trans u7
    have u5 := s5.trans u6
    have u4 := s4.trans u5
    have u3 := s3.trans u4
    have u2 := s2.trans u3
    have g1 := kt _ _ (u2 _ _ h1)
    have g2 := kt _ _ (u3 _ _ h2)
    have g3 := kp _ _ e3.1 e3.2 (u4 _ _ h3)
    have g4 := kp _ _ e4.1 e4.2 (u5 _ _ h4)
    have g5 := kt _ _ (u6 _ _ h5)
    have g6 := kt _ _ (u7 _ _ h6)
    have g7 := kp _ _ e7.1 e7.2 (s8 _ _ h7)
    have g8 := kp _ _ e8.1 e8.2 h8
    have tk9 := fun (H2 : Hp) (k2 : Kp d c H9 H2) => k2.tk D9
    have go : ∀ z : V, (∀ H2, Kp d c H9 H2 → Th67 _ H2 z) → Q z H9 := fun z hz => q z H9 D9 K hz
    have zero : FineX 0 240 (.int 0) := FineX.int (by decide)
    have t5 : FineX 1 0 (.tuple []) := (FineX.tup (k := 0) (w := 0) (n := 0) (fun x hx => by simp at hx) (Nat.le_refl _)).mono (Nat.le_refl _) (by decide)
    obtain ⟨k, rfl⟩ : ∃ k : Nat, v = k := ⟨v.toNat, by omega⟩
    have hk : k < 18 := by omega
    refine ⟨S, _, k, _, rfl, rfl, SqL.of hS, atI_nat (List.getElem?_eq_getElem (by exact hk)), ?_⟩
    match k, hk with
    | 0, _ => exact go _ fun H2 k2 => (td_int (by decide))
    | 1, _ => exact go _ fun H2 k2 => (td_int (by decide))
    | 2, _ => exact go _ fun H2 k2 => (td_bl _)
    | 3, _ => exact go _ fun H2 k2 => (td_bl _)
    | 4, _ => exact go _ fun H2 k2 => ⟨bad_of trivial rfl, _, .inr .non, FineX.non.mono (by decide) (by decide)⟩
    | 5, _ => exact go _ fun H2 k2 => (td_str (by decide +kernel) (by decide +kernel))
    | 6, _ => exact go _ fun H2 k2 => (td_str (by decide +kernel) (by decide +kernel))
    | 7, _ => exact go _ fun H2 k2 => ⟨bad_tup (k2.tk D9 _ _ g1) trivial (fun s z => by cases z), _, .inr (.tup (SqT.of (k2.tk D9 _ _ g1)) (.cons (.int _) .nil)), (FineX.tup (k := 0) (w := 240) (n := 1) (fun x hx => by rw [List.mem_singleton.mp hx]; exact zero) (Nat.le_refl _)).mono (by decide) (by decide)⟩
    | 8, _ => exact go _ fun H2 k2 => ⟨bad_nilT67 (k2.tk D9 _ _ g2), _, .inr (.tup (SqT.of (k2.tk D9 _ _ g2)) .nil), t5.mono (by decide) (by decide)⟩
    | 9, _ => exact go _ fun H2 k2 => ⟨bad_lst (k2 _ _ e3.1 e3.2 g3), _, .inl ⟨.lst (SqL.of (k2 _ _ e3.1 e3.2 g3)) (.cons (.int _) .nil), rfl⟩, (FineX.lst (k := 0) (w := 240) (n := 1) (fun x hx => by rw [List.mem_singleton.mp hx]; exact zero) (Nat.le_refl _)).mono (by decide) (by decide)⟩
    | 10, _ => exact go _ fun H2 k2 => ⟨bad_dct (k2 _ _ e4.1 e4.2 g4), _, .inr (.d0 (k2 _ _ e4.1 e4.2 g4)), FineX.d0.mono (by decide) (by decide)⟩
    | 11, _ => exact go _ fun H2 k2 => (td_int (by decide +kernel))
    | 12, _ => exact go _ fun H2 k2 => (td_int (by decide +kernel))
    | 13, _ => exact go _ fun H2 k2 => (td_int (by decide))
    | 14, _ => exact go _ fun H2 k2 => (td_str (by decide +kernel) (by decide +kernel))
    | 15, _ => exact go _ fun H2 k2 => ⟨bad_tup (k2.tk D9 _ _ g6) (.inr (.inl ⟨_, (k2.tk D9 _ _ g5)⟩)) (fun s z => by cases z), _, .inr (.tup (SqT.of (k2.tk D9 _ _ g6)) (.cons (.tup (SqT.of (k2.tk D9 _ _ g5)) .nil) .nil)), (FineX.tup (k := 1) (w := 0) (n := 1) (fun x hx => by rw [List.mem_singleton.mp hx]; exact t5) (Nat.le_refl _)).mono (by decide) (by decide)⟩
    | 16, _ => exact go _ fun H2 k2 => ⟨bad_lst (k2 _ _ e7.1 e7.2 g7), _, .inl ⟨.lst (SqL.of (k2 _ _ e7.1 e7.2 g7)) .nil, rfl⟩, (FineX.lst (k := 0) (w := 0) (n := 0) (fun x hx => by simp at hx) (Nat.le_refl _)).mono (by decide) (by decide)⟩
    | 17, _ => exact go _ fun H2 k2 => ⟨bad_dct (k2 _ _ e8.1 e8.2 g8), _, .inr (.d1 (k2 _ _ e8.1 e8.2 g8) (.int _)), (FineX.d1 (k := 0) (w := 240) (by decide) (FineX.int (by decide))).mono (by decide) (by decide)⟩
end
/-! ### k67: numbers and odd things, papers within cases -/
/-- a thing that is told, and is put in a paper -/
def At67 (K : PySem.W.Frag) (H : Hp) (v : V) : Prop := Kn H v ∧ ∃ d, RdX K H v d ∧ FineX 3 1000 d
def spNum67 (K : PySem.W.Frag) : Sp := fun vs H Q _ => ∃ (d c : Addr) (m : Int), vs = [.ref d, .int m] ∧ Deck H d c ∧ (0 ≤ m ∧ m ≤ 40) ∧ ∀ v H', Deck H' d c → Kp d c H H' → (∀ H2, Kp d c H' H2 → At67 K H2 v) → Q v H'
def spWithin : Sp := fun vs H Q _ => ∃ (dk c : Addr) (v x : V) (n : Nat) (ts : List Tie) (t : NT), vs = [.ref dk, v, x] ∧ Deck H dk c ∧ WebAt H v n ts ∧ (2 ≤ n ∧ n ≤ 5) ∧ (∀ t ∈ ts, TieOk n t) ∧ ts.length ≤ 100 ∧ NTV H x t ∧ t.sml ∧ ∀ y u H', Deck H' dk c → Kp dk c H H' → NTV H' y u → u.sml → u.dep ≤ t.dep + 18 → u.siz ≤ t.siz + 36 → Q y H'
section
variable {P : Program} {w : World} {K : PySem.W.Frag} {mg : Str → Option Value} {base : Heap}
set_option maxHeartbeats 4000000 in
theorem ok_l_number {f : Addr} {fd : FuncData} (F : Fun K "_law_number" "_law_number" s_l_number f fd) (D_l_draw : Df P w K mg base 1 "_law_draw" ["_law_deck_here", "_law_most"] spDraw) (D_l_odd : Df P w K mg base 2 "_law_odd" ["_law_deck_here"] (spOdd67 K)) : FnOk P w K mg base CX0 3 f fd ["_law_deck_here", "_law_many"] (spNum67 K) := by
  obtain ⟨f_l_draw, fd_l_draw, G_l_draw, g_l_draw, k_l_draw, b_l_draw⟩ := D_l_draw
  obtain ⟨f_l_odd, fd_l_odd, G_l_odd, g_l_odd, k_l_odd, b_l_odd⟩ := D_l_odd
  refine F.ok sc_l_number (fun vs H Q E h => ?_) (fun cdv A outer s H vs Q E hr h => ?_)
  · obtain ⟨d, c, m, rfl, _⟩ := h
    rfl
  · obtain ⟨d, c, m, rfl, hD, mb, q⟩ := h
    refine ⟨_, (pss_cons (ps_if (pt_cmpR op_eq (pe_call G_l_draw (hr.mono (by decide)) (by rfl) g_l_draw k_l_draw b_l_draw .nil pass0 (pa_cons (pv 0) (pa_cons pe_int pa_nil))) pe_int (nomark _))
        (pss_one (ps_ret (pe_call G_l_odd (hr.mono (by decide)) (by rfl) g_l_odd k_l_odd b_l_odd .nil pass0 (pa_cons (pv 0) pa_nil))))
        pss_nil)
      (pss_one (ps_ret (pe_op op_sub (pe_call G_l_draw (hr.mono (by decide)) (by rfl) g_l_draw k_l_draw b_l_draw .nil pass0 (pa_cons (pv 0) (pa_cons (pe_op op_add (pv 1) pe_int) pa_nil))) pe_int)))), ?_⟩
    refine ⟨.ref d, rfl, d, c, 3, rfl, hD, by decide, by decide, fun v H1 a0 a1 D1 K1 => ⟨rfl, _, rfl, ite2 (fun _ => ?_) (fun _ => ?_)⟩⟩
    · exact ⟨.ref d, rfl, d, c, rfl, D1, fun z H2 D2 K2 h => q z H2 D2 (K1.trans K2) fun H3 k3 => ⟨(h H3 k3).1.1, (h H3 k3).2⟩⟩
    · refine ⟨.ref d, rfl, .int m, rfl, m, 2, rfl, rfl, d, c, m + 2, rfl, D1, by omega, by omega, fun z H2 z0 z1 D2 K2 => ⟨z, 1, rfl, rfl, ?_⟩⟩
      exact q (.int (z - 1)) H2 D2 (K1.trans K2) fun H3 k3 => ⟨trivial, _, .inr (.int _), (small_int (by omega) (by omega)).mono (by decide) (by decide)⟩
set_option maxHeartbeats 4000000 in
theorem ok_l_within {f : Addr} {fd : FuncData} (F : Fun K "_law_within" "_law_within" s_l_within f fd) (M : Free mg) (D_l_draw : Df P w K mg base 1 "_law_draw" ["_law_deck_here", "_law_most"] spDraw) : FnOk P w K mg base CX0 2 f fd ["_law_deck_here", "_law_web", "_law_paper"] spWithin := by
  obtain ⟨f_l_draw, fd_l_draw, G_l_draw, g_l_draw, k_l_draw, b_l_draw⟩ := D_l_draw
  refine F.ok sc_l_within (fun vs H Q E h => ?_) (fun cdv A outer s H vs Q E hr h => ?_)
  · obtain ⟨dk, c, v, x, n, ts, t, rfl, _⟩ := h
    rfl
  · obtain ⟨dk, c, v, x, n, ts, t, rfl, hD, hW, n25, ok, few, hx, sml, q⟩ := h
    refine ⟨_, (pss_cons (ps_set (i := 3) sc_l_within.nd rfl (.inl rfl) (pv 2))
      (pss_cons (ps_setLc (i := 4) (own := [("_law_tie", 5)]) (g := (gName 5)) (te := tVar 5) rfl sc_l_within.nd rfl rfl (sw_true rfl rfl rfl (by decide +kernel)) (pi_tup (pe_ix ix_tup (pv 1) pe_int (fun _ _ => rfl))) (blkOk_by (N := N_l_within) (sc := defScope s_l_within) (own := [("_law_tie", 5)]) (by decide +kernel)) (fun _ _ _ _ _ => (pg_name (i := 5) sc_l_within.nd rfl (.inl rfl))) (fun _ _ _ _ _ => (pts_one (pt_cmpR op_eq (pe_ix (r := rIxT K) ix_tup (pv 5) pe_int (fun _ _ => rfl)) pe_str (nomark _)))) (fun _ _ _ _ _ => (pv 5)))
      (pss_cons (ps_for PassesOwn.never rfl (pi_range1 (by rfl) M.range (pa_cons (pe_call G_l_draw (hr.mono (by decide)) (by rfl) g_l_draw k_l_draw b_l_draw .nil pass0 (pa_cons (pv 0) (pa_cons pe_int pa_nil))) pa_nil)) (pg_name (i := 6) sc_l_within.nd rfl (.inl rfl))
        (pss_cons (ps_set (i := 7) sc_l_within.nd rfl (.inl rfl) (pe_call G_l_draw (hr.mono (by decide)) (by rfl) g_l_draw k_l_draw b_l_draw .nil pass0 (pa_cons (pv 0) (pa_cons pe_int pa_nil))))
        (pss_cons (ps_set (i := 8) sc_l_within.nd rfl (.inl rfl) (pe_op op_sub pe_int (pv 7)))
        (Evl.pss_cut (ps_if (PW.pt (pw_and (pt_cmpR (op_neE hr.units0) (pv 4) (pe_lst pa_nil) (nomark _)) (pw_and1 (pt_cmpR op_gt (pe_call G_l_draw (hr.mono (by decide)) (by rfl) g_l_draw k_l_draw b_l_draw .nil pass0 (pa_cons (pv 0) (pa_cons pe_int pa_nil))) pe_int (nomark _)))))
          (pss_one (ps_asg (pe_ix ix_list (pv 4) (pe_call G_l_draw (hr.mono (by decide)) (by rfl) g_l_draw k_l_draw b_l_draw .nil pass0 (pa_cons (pv 0) (pa_cons (pe_callB call_len_seq (by rfl) M.len PySem.boot_len (pa_cons (pv 4) pa_nil)) pa_nil))) (fun _ _ => rfl)) (pg_tup rfl (pgs_cons (pg_name (i := 7) sc_l_within.nd rfl (.inl rfl)) (pgs_cons (pg_name (i := 8) sc_l_within.nd rfl (.inl rfl)) (pgs_cons (pg_name (i := 9) sc_l_within.nd rfl (.inl rfl)) pgs_nil))))))
          pss_nil)
        (pss_one (ps_set (i := 3) sc_l_within.nd rfl (.inl rfl) (pe_tup (pa_cons pe_str (pa_cons (pv 7) (pa_cons (pv 8) (pa_cons (pe_tup (pa_cons pe_str (pa_cons (pv 7) (pa_cons (pv 8) pa_nil)))) (pa_cons (pv 3) pa_nil))))))))))))
      (pss_one (ps_ret (pv 3)))))), ?_⟩
    obtain ⟨wa, wb, us, rfl, hwa, hwb, hp⟩ := id hW
    have lu : us.length = ts.length := Paired.length hp
    refine ⟨x, rfl, ?_⟩
    refine ⟨.ref wa, rfl, wa, _, 1, .ref wb, rfl, rfl, SqT.of hwa, rfl, wb, rfl, ⟨_, SqT.of hwb⟩, fun Z nZ => ?_⟩
    refine lc_it (walk_tup (xs := us)) (fun i H' => ∃ vs : List V, H' Z = some (.lst vs) ∧ vs.length ≤ i ∧ (∀ x ∈ vs, x ∈ us) ∧ Same H H') ⟨[], upd_same, Nat.le_refl _, (fun x h => by cases h), same_new nZ⟩ (fun i H' _ ⟨_, _, _, _, s⟩ => SqT.of (s _ _ hwb)) ?_ ?_
    · rintro i x1 H2 H3 hi ⟨vs, hZ, lv, sub, s2⟩ ⟨rfl, ex⟩
      obtain ⟨t1, et, c1, rfl, hc⟩ := Paired.at hp ex
      have hc3 := s2 _ _ hc
      refine ⟨rfl, .ref c1, rfl, c1, _, 2, .str (kindS t1.foe), rfl, rfl, SqT.of hc3, rfl, rfl, _, rfl, ?_⟩
      cases decide (V.str (kindS t1.foe) = V.str "foe") with
      | false => exact ⟨vs, hZ, by omega, sub, s2⟩
      | true =>
        refine ⟨.ref c1, rfl, _, hZ, small1000 (by omega), vs ++ [.ref c1], upd_same, by rw [List.length_append]; show vs.length + 1 ≤ _; omega, fun x h => ?_, Same.mut s2 nZ⟩
        rcases List.mem_append.mp h with h | h
        · exact sub x h
        · rw [List.mem_singleton.mp h]; exact List.mem_of_getElem? ex
    rintro H2 ⟨vs, hZ, lv, sub, s2⟩
    rw [lu] at lv
    have D2 := hD.same s2
    have Zd := hD.ned nZ
    have hx2 := NTV.tk (Same.tk s2) hx
    refine ⟨.ref dk, rfl, dk, c, 19, rfl, D2, by decide, by decide, fun m H3 m0 m1 D3 K3 => ?_⟩
    refine ⟨m, rfl, by omega, by omega, ?_⟩
    have K03 : Kp dk c H H3 := (Same.kp s2).trans K3
    have hZ3 := K3 _ _ Zd.1 Zd.2 hZ
    have hx3 := NTV.tk (K3.tk D2) hx2
    refine for_range (lo := 0) (n := m.toNat) (fun i σ' H' => ∃ (y5 y6 y7 y8 y9 : Option V) (y : V) (u : NT), σ' = [some (.ref dk), some (.ref wa), some x, some y, some (.ref Z), y5, y6, y7, y8, y9] ∧ Deck H' dk c ∧ Kp dk c H H' ∧ H' Z = some (.lst vs) ∧ NTV H' y u ∧ u.sml ∧ u.dep ≤ t.dep + i ∧ u.siz ≤ t.siz + 2 * i) ⟨_, _, _, _, _, x, t, rfl, D3, K03, hZ3, hx3, sml, Nat.le_refl _, Nat.le_refl _⟩ ?_ ?_
    · rintro i σ' H4 hi ⟨y5, y6, y7, y8, y9, y, u, rfl, D4, K4, hZ4, hy, su, du, zu⟩
      refine ⟨.ref dk, rfl, dk, c, 2, rfl, D4, by decide, by decide, fun a H5 a0 a1 D5 K5 => ?_⟩
      refine ⟨.int a, rfl, 1, a, rfl, rfl, ?_⟩
      have K05 := K4.trans K5
      have hZ5 := K5 _ _ Zd.1 Zd.2 hZ4
      have hy5 := NTV.tk (K5.tk D4) hy
      clear K4 hZ4 hy D4 K5
      refine ⟨fun σ' H' => ∃ (p q : Int) (y9 : Option V), σ' = [some (.ref dk), some (.ref wa), some x, some y, some (.ref Z), y5, some (.int (0 + (i : Nat))), some (.int p), some (.int q), y9] ∧ Sml p ∧ Sml q ∧ Deck H' dk c ∧ Kp dk c H H' ∧ H' Z = some (.lst vs) ∧ NTV H' y u, ?_, ?_⟩
      · refine ⟨.ref Z, rfl, by show 0 ≤ sizeLine; decide, fun p0 np0 => ?_⟩
        have c0 := same_new (o := .lst []) np0
        refine ⟨Z, p0, _, rfl, rfl, SqL.of (c0 _ _ hZ5), SqL.of upd_same, _, rfl, ?_⟩
        have hZ6 := c0 _ _ hZ5
        have D6 := D5.same c0
        have K06 := K05.trans (Same.kp c0)
        have hy6 := NTV.tk (Same.tk c0) hy5
        generalize upd H5 p0 (.lst []) = H6 at hZ6 D6 K06 hy6
        have here : ∀ (H' : Hp), Deck H' dk c → Kp dk c H H' → H' Z = some (.lst vs) → NTV H' y u → ∃ (p q : Int) (y9' : Option V), [some (.ref dk), some (.ref wa), some x, some y, some (.ref Z), y5, some (.int (0 + (i : Nat))), some (.int a), some (.int (1 - a)), y9] = [some (.ref dk), some (.ref wa), some x, some y, some (.ref Z), y5, some (.int (0 + (i : Nat))), some (.int p), some (.int q), y9'] ∧ Sml p ∧ Sml q ∧ Deck H' dk c ∧ Kp dk c H H' ∧ H' Z = some (.lst vs) ∧ NTV H' y u := fun H' D K z h => ⟨a, 1 - a, _, rfl, ⟨by omega, by omega⟩, ⟨by omega, by omega⟩, D, K, z, h⟩
        cases vs with
        | nil => exact here _ D6 K06 hZ6 hy6
        | cons v0 vs' =>
        refine ⟨.ref dk, rfl, dk, c, 16, rfl, D6, by decide, by decide, fun b H7 b0 b1 D7 K7 => ?_⟩
        have hZ7 := K7 _ _ Zd.1 Zd.2 hZ6
        have hy7 := NTV.tk (K7.tk D6) hy6
        have K07 := K06.trans K7
        refine ⟨b, 0, rfl, rfl, _, rfl, ite2 (fun _ => ?_) (fun _ => here _ D7 K07 hZ7 hy7)⟩
        refine ⟨.ref Z, rfl, .ref dk, rfl, .ref Z, rfl, Z, _, rfl, .inl (SqL.of hZ7), dk, c, _, rfl, D7, by rw [List.length_cons]; omega, by rw [List.length_cons] at lv ⊢; omega, fun e H8 e0 e1 D8 K8 => ?_⟩
        obtain ⟨x1, mx, ax⟩ := at_mem68 e0 e1
        obtain ⟨ix, hix⟩ := List.getElem?_of_mem (sub x1 mx)
        obtain ⟨t1, et, c1, rfl, hc⟩ := Paired.at hp hix
        have o := ok t1 (List.mem_of_getElem? et)
        have K08 := K07.trans K8
        refine ⟨Z, _, e, _, rfl, rfl, SqL.of (K8 _ _ Zd.1 Zd.2 hZ7), ax, c1, _, rfl, SqT.of (K08.tk hD _ _ hc), rfl, _, _, rfl, _, _, rfl, _, _, rfl, rfl, ?_⟩
        exact ⟨t1.one, t1.other, _, rfl, ⟨by have := o.1; omega, by have := o.2.1; omega⟩, ⟨by have := o.2.2.1; omega, by have := o.2.2.2.1; omega⟩, D8, K08, K8 _ _ Zd.1 Zd.2 hZ7, NTV.tk (K8.tk D7) hy7⟩
      clear hy5 hZ5 K05 D5
      rintro σ' H6 ⟨p, q', y9, rfl, sp, sq, D6, K6, hZ6, hy6⟩
      refine ⟨.int p, rfl, .int q', rfl, .int p, rfl, .int q', rfl, by show 3 ≤ sizeLine; decide, fun r1 n1 => ?_⟩
      have s1 := same_new (o := .tup [.str "clash", .int p, .int q']) n1
      have h1 := upd_same (H := H6) (a := r1) (o := .tup [.str "clash", .int p, .int q'])
      generalize upd H6 r1 (.tup [.str "clash", .int p, .int q']) = H7 at s1 h1
      refine ⟨y, rfl, by show 5 ≤ sizeLine; decide, fun r2 n2 => ?_⟩
      have s3 := same_new (o := .tup [.str "case", .int p, .int q', .ref r1, y]) n2
      have s2 := s1.trans s3
      refine ⟨_, _, _, _, _, .ref r2, .case p q' (.clash p q') u, rfl, D6.same s2, K6.trans (Same.kp s2), s2 _ _ hZ6, ⟨r2, .ref r1, y, rfl, upd_same, ⟨r1, rfl, s3 _ _ h1⟩, NTV.tk (Same.tk s2) hy6⟩, ⟨⟨sp, sq⟩, ⟨sp, sq⟩, su⟩, ?_, ?_⟩
      · show 1 + max 0 u.dep ≤ t.dep + (i + 1)
        omega
      · show 1 + 1 + u.siz ≤ t.siz + 2 * (i + 1)
        omega
    rintro σ' H4 ⟨y5, y6, y7, y8, y9, y, u, rfl, D4, K4, hZ4, hy, su, du, zu⟩
    exact ⟨y, rfl, q y u H4 D4 K4 hy su (by omega) (by omega)⟩
end
/-! ### k67: right -/
mutual
theorem NTV.dp68 {K : PySem.W.Frag} {H : Hp} : ∀ {t : NT} {v : V}, NTV H v t → Dp K H v t.d
  | .crowd xs, v, ⟨a, c, e, h1, h2⟩ => by
    subst e
    exact .tup (SqT.of h1) (.cons (.str _) (.cons (.tup (SqT.of h2) (dp_ints xs)) .nil))
  | .clash a b, v, ⟨c, e, h⟩ => by
    subst e
    exact .tup (SqT.of h) (.cons (.str _) (.cons (.int _) (.cons (.int _) .nil)))
  | .case a b t u, v, ⟨c, x, y, e, h, h1, h2⟩ => by
    subst e
    exact .tup (SqT.of h) (.cons (.str _) (.cons (.int _) (.cons (.int _) (.cons (NTV.dp68 h1) (.cons (NTV.dp68 h2) .nil)))))
end
theorem NT.nod68 : ∀ t : NT, t.d.hasDict = false
  | .crowd xs => by
    have h : (PyData.tuple (xs.map PyData.int)).hasDict = false := by
      rw [PyData.hasDict]
      induction xs with
      | nil => rfl
      | cons x xs ih =>
        rw [List.map_cons, PyData.hasDictAll, ih]
        rfl
    show (PyData.tuple [PyData.str "crowd", .tuple (xs.map .int)]).hasDict = false
    rw [PyData.hasDict, PyData.hasDictAll, PyData.hasDictAll, h]
    rfl
  | .clash a b => rfl
  | .case a b t u => by
    show (PyData.tuple [PyData.str "case", .int a, .int b, t.d, u.d]).hasDict = false
    rw [PyData.hasDict, PyData.hasDictAll, PyData.hasDictAll, PyData.hasDictAll, PyData.hasDictAll, PyData.hasDictAll, NT.nod68 t, NT.nod68 u]
    rfl
theorem NTV.qs68 {H : Hp} : ∀ {t : NT} {v : V}, NTV H v t → t.sml → QTV H v t.q
  | .crowd xs, v, ⟨a, c, e, h1, h2⟩, o => ⟨a, .ref c, e, h1, c, rfl, h2, fun x hx => by
      obtain ⟨z, _, rfl⟩ := List.mem_map.mp hx
      trivial, by have := o.1; rw [List.length_map]; omega⟩
  | .clash a b, v, ⟨c, e, h⟩, o => ⟨c, e, h, trivial, trivial⟩
  | .case a b t u, v, ⟨c, x, y, e, h, h1, h2⟩, o => ⟨c, x, y, e, h, trivial, trivial, NTV.qs68 h1 o.2.1, NTV.qs68 h2 o.2.2⟩
/-- a thing that is judged and told -/
def Tg68 (K : PySem.W.Frag) (H : Hp) (x : V) : Prop := ∃ (t : QT) (d : PyData), QTV H x t ∧ t.dep ≤ 90 ∧ RdX K H x d ∧ FineX 50 100000 d
theorem Tg68.nt {K : PySem.W.Frag} {H : Hp} {x : V} {t : NT} (h : NTV H x t) (s : t.sml) (d : t.dep ≤ 40) (z : t.siz ≤ 200) : Tg68 K H x :=
  ⟨t.q, t.d, h.qs68 s, by rw [NT.q_dep]; omega, .inl ⟨h.dp68, NT.nod68 t⟩, (NT.fine s).mono (by omega) (by omega)⟩
theorem Tg68.kt {K : PySem.W.Frag} {Ps : List Addr} {H H' : Hp} {x : V} (h : Tg68 K H x) (k : Kt Ps H H') (t : Tabs Ps H) : Tg68 K H' x := by
  obtain ⟨q, d, h1, h2, h3, h4⟩ := h
  exact ⟨q, d, h1.kt k t, h2, h3.kp (KpD.kt68 t k), h4⟩
/-- so it stays, however the deck is drawn from -/
def Td68 (K : PySem.W.Frag) (d c : Addr) (H : Hp) (x : V) : Prop := ∀ H', Kp d c H H' → Tg68 K H' x
theorem Td68.kp {K : PySem.W.Frag} {d c : Addr} {H H' : Hp} {x : V} (h : Td68 K d c H x) (k : Kp d c H H') : Td68 K d c H' x := fun H2 k2 => h H2 (k.trans k2)
theorem Td68.nt {K : PySem.W.Frag} {d c : Addr} {H : Hp} {x : V} {t : NT} (D : Deck H d c) (h : NTV H x t) (s : t.sml) (e : t.dep ≤ 40) (z : t.siz ≤ 200) : Td68 K d c H x := fun _ k => Tg68.nt (NTV.tk (k.tk D) h) s e z
def spRight67 (K : PySem.W.Frag) (Ps : List Addr) : Sp := fun vs H Q _ => ∃ (v : V) (k : Int) (x : V) (n : Nat) (ts : List Tie), vs = [v, .int k, x] ∧ WebAt H v n ts ∧ WebOk n ts ∧ Tg68 K H x ∧ Tabs Ps H ∧ ∀ H', Kt Ps H H' → Q (.bl true) H'
section
variable {P : Program} {w : World} {K : PySem.W.Frag} {mg : Str → Option Value} {base : Heap}
set_option maxHeartbeats 4000000 in
theorem ok_l_right {f : Addr} {fd : FuncData} {Ps : List Addr} (F : Fun K "_law_right" "_law_right" s_l_right f fd) (m_max : mg "max" = none) (m_repr : mg "repr" = none) (D_l_none : Df P w K mg base 3 "_law_none" ["_law_web", "_law_k", "_law_thing"] spLNone) (D_none_holds : Df P w K mg base 191 "none_holds" ["web", "k", "thing"] (spNoneH Ps)) (D_l_same : Df P w K mg base 1 "_law_same" ["_law_found", "_law_due"] spSameB) : FnG P w K mg base 192 f fd ["_law_web", "_law_k", "_law_thing"] (spRight67 K Ps) := by
  obtain ⟨f_l_none, fd_l_none, G_l_none, g_l_none, k_l_none, b_l_none⟩ := D_l_none
  obtain ⟨f_none_holds, fd_none_holds, G_none_holds, g_none_holds, k_none_holds, b_none_holds⟩ := D_none_holds
  obtain ⟨f_l_same, fd_l_same, G_l_same, g_l_same, k_l_same, b_l_same⟩ := D_l_same
  refine okG F sc_l_right (fun vs H Q E h => ?_) (fun cdv A outer s H vs Q E hG hr h => ?_)
  · obtain ⟨v, k, x, n, ts, rfl, _⟩ := h
    rfl
  · obtain ⟨v, k, x, n, ts, rfl, hW, ok, tg, hT, q⟩ := h
    refine ⟨_, (pss_cons (ps_set (i := 3) sc_l_right.nd rfl (.inl rfl) (pe_callB (call_reprX hG hr.units) (by rfl) m_repr (by decide +kernel) (pa_cons (pe_tup (pa_cons (pv 0) (pa_cons (pv 2) pa_nil))) pa_nil)))
      (pss_cons (ps_for PassesOwn.never rfl (pi_tup (pe_tup (pa_cons (pv 1) (pa_cons (pe_op op_add (pv 1) pe_int) (pa_cons (pe_callB (call_max2 rfl) (by rfl) m_max (by decide +kernel) (pa_cons pe_int (pa_cons (pe_op op_sub (pv 1) pe_int) pa_nil))) (pa_cons (pv 1) pa_nil)))))) (pg_name (i := 4) sc_l_right.nd rfl (.inl rfl))
        (pss_one (ps_if (pt_not (pt_val (pe_call G_l_same (hr.mono (by decide)) (by rfl) g_l_same k_l_same b_l_same .nil pass0 (pa_cons (pe_call G_none_holds (hr.mono (by decide)) (by rfl) g_none_holds k_none_holds b_none_holds .nil pass0 (pa_cons (pv 0) (pa_cons (pv 4) (pa_cons (pv 2) pa_nil)))) (pa_cons (pe_call G_l_none (hr.mono (by decide)) (by rfl) g_l_none k_l_none b_l_none .nil pass0 (pa_cons (pv 0) (pa_cons (pv 4) (pa_cons (pv 2) pa_nil)))) pa_nil)))))
          (pss_one (ps_ret pe_bl))
          pss_nil)))
      (pss_one (ps_ret (pe_cmpR op_eq (pe_callB (call_reprX hG hr.units) (by rfl) m_repr (by decide +kernel) (pa_cons (pe_tup (pa_cons (pv 0) (pa_cons (pv 2) pa_nil))) pa_nil)) (pv 3) (nomark _)))))), ?_⟩
    obtain ⟨t, dd, hx, dp, rd, fd⟩ := tg
    have n40 : 1 ≤ n ∧ n ≤ 40 := ⟨by have := ok.lo; omega, by have := ok.hi; omega⟩
    have few := ok.few
    have fw := FineX.web ok
    have fp := fine_pair fw fd
    have hlen := fp.len (by decide)
    refine ⟨v, rfl, x, rfl, by show 2 ≤ sizeLine; decide, fun p np => ?_⟩
    have sp := same_new (o := .tup [v, x]) np
    have hp := upd_same (H := H) (a := p) (o := .tup [v, x])
    generalize upd H p (.tup [v, x]) = H1 at sp hp
    have k1 := Kt.same hT sp
    have hW1 := hW.tk (Same.tk sp)
    refine ⟨p, _, rfl, RdX.pair hp hW1 (rd.kp (KpD.same sp)), fp.shw, Nat.le_trans fp.dep (by decide), hlen, ?_⟩
    refine ⟨.int k, rfl, .int k, rfl, k, 1, rfl, rfl, .int k, rfl, k, 1, rfl, rfl, 1, k - 1, rfl, ?_⟩
    generalize (if k - 1 > 1 then k - 1 else 1) = mx
    refine ⟨.int k, rfl, by show 4 ≤ sizeLine; decide, fun I nI => ?_⟩
    have sI := same_new (o := .tup [.int k, .int (k + 1), .int mx, .int k]) nI
    have hI := upd_same (H := H1) (a := I) (o := .tup [.int k, .int (k + 1), .int mx, .int k])
    have k2 := k1.trans (Kt.same k1.tab sI)
    generalize upd H1 I (.tup [.int k, .int (k + 1), .int mx, .int k]) = H2 at sI hI k2
    refine ⟨I, rfl, ⟨_, SqT.of hI⟩, ?_⟩
    refine for_tup (xs := [V.int k, .int (k + 1), .int mx, .int k]) (fun i σ' H' => ∃ y4 : Option V, σ' = [some v, some (.int k), some x, some (.str (PyData.tuple [webD n ts, dd]).shown), y4] ∧ Kt Ps H2 H') ⟨_, rfl, Kt.refl k2.tab⟩ (fun i σ' H' _ ⟨_, _, k⟩ => SqT.of (k.tup k2.tab hI)) ?_ ?_
    · rintro i kv σ' H3 ek ⟨y4, rfl, k3⟩
      obtain ⟨kz, rfl⟩ : ∃ z : Int, kv = .int z := by
        have := List.mem_of_getElem? ek
        simp only [List.mem_cons, List.not_mem_nil, or_false] at this
        rcases this with rfl | rfl | rfl | rfl <;> exact ⟨_, rfl⟩
      have k03 := k2.trans k3
      have hW3 := hW.tk (k03.tk hT)
      refine ⟨v, rfl, .int kz, rfl, x, rfl, v, kz, x, n, ts, t, rfl, hW3, ok, hx.kt k03 hT, dp, k03.tab, fun H4 k4 => ?_⟩
      have k04 := k03.trans k4
      have hW4 := hW.tk (k04.tk hT)
      refine ⟨v, rfl, .int kz, rfl, x, rfl, v, kz, x, n, ts, t, rfl, hW4, n40, ok.ok, hx.kt k04 hT, by omega, fun H5 s5 => ?_⟩
      have k35 := (k3.trans k4).trans (Kt.same k4.tab s5)
      exact ⟨_, rfl, _, rfl, _, rfl, k35⟩
    rintro σ' H3 ⟨y4, rfl, k3⟩
    have k03 := k2.trans k3
    refine ⟨v, rfl, x, rfl, by show 2 ≤ sizeLine; decide, fun p2 np2 => ?_⟩
    have sp2 := same_new (o := .tup [v, x]) np2
    have hp2 := upd_same (H := H3) (a := p2) (o := .tup [v, x])
    generalize upd H3 p2 (.tup [v, x]) = H4 at sp2 hp2
    have k4 := k03.trans (Kt.same k03.tab sp2)
    refine ⟨p2, _, rfl, RdX.pair hp2 (hW.tk (k4.tk hT)) (rd.kp (KpD.kt68 hT k4)), fp.shw, Nat.le_trans fp.dep (by decide), hlen, _, rfl, rfl, ?_⟩
    rw [decide_eq_true rfl]
    exact q _ k4
end
/-! ### k67: what bent papers come to -/
/-- all but the deck and the tables is kept -/
structure Kdt (Ps : List Addr) (d c : Addr) (H H' : Hp) : Prop where
  tab : Tabs Ps H'
  dk : Deck H' d c
  keep : ∀ b o, b ≠ d → b ≠ c → b ∉ Ps → H b = some o → H' b = some o
theorem Kdt.trans {Ps : List Addr} {d c : Addr} {H H1 H2 : Hp} (a : Kdt Ps d c H H1) (b : Kdt Ps d c H1 H2) : Kdt Ps d c H H2 := ⟨b.tab, b.dk, fun x o h1 h2 h3 e => b.keep x o h1 h2 h3 (a.keep x o h1 h2 h3 e)⟩
theorem Kdt.kt {Ps : List Addr} {d c : Addr} {H H' : Hp} (k : Kt Ps H H') (t : Tabs Ps H) (D : Deck H d c) : Kdt Ps d c H H' := ⟨k.tab, k.deck t D, fun b o _ _ h e => k.keep b o h e⟩
theorem Kdt.kp {Ps : List Addr} {d c : Addr} {H H' : Hp} (k : Kp d c H H') (t : Tabs Ps H) (D : Deck H d c) (D' : Deck H' d c) : Kdt Ps d c H H' := ⟨t.kp k D, D', fun b o h1 h2 _ e => k b o h1 h2 e⟩
theorem Kdt.tk {Ps : List Addr} {d c : Addr} {H H' : Hp} (k : Kdt Ps d c H H') (t : Tabs Ps H) (D : Deck H d c) : Tk H H' := fun b xs e => by
  obtain ⟨cells, st, m, h1, h2, _⟩ := D
  exact k.keep b _ (ne_of e h1 (by intro z; cases z)) (ne_of e h2 (by intro z; cases z)) (t.out e fun _ z => by cases z) e
/-- a paper bent: of any kind, of no more cases than the paper -/
def Bt67 (K : PySem.W.Frag) (dk c : Addr) (H : Hp) (y : V) (t : NT) : Prop := ∀ H2, Kp dk c H H2 → ∃ q d, QTV H2 y q ∧ q.dep ≤ t.dep ∧ RdX K H2 y d ∧ FineX (t.dep + 6) (600 * t.siz + 2000) d
def spBent67 (K : PySem.W.Frag) (d : Nat) : Sp := fun vs H Q _ => ∃ (dk c : Addr) (x : V) (m : Int) (e : Nat) (t : NT), vs = [.ref dk, x, .int m, .int e] ∧ Deck H dk c ∧ NTV H x t ∧ t.sml ∧ (0 ≤ m ∧ m ≤ 38) ∧ e ≤ d ∧ ∀ y H', Deck H' dk c → Kp dk c H H' → Bt67 K dk c H' y t → Q y H'
def spBent67R (K : PySem.W.Frag) : Nat → Sp
  | 0 => fun _ _ _ _ => False
  | d + 1 => spBent67 K d
theorem Tg68.of67 {K : PySem.W.Frag} {H : Hp} {v : V} (h : Th67 K H v) : Tg68 K H v := by
  obtain ⟨⟨_, h1⟩, d, h2, h3⟩ := h
  exact ⟨.bad, d, h1, Nat.zero_le _, h2, h3.mono (by decide) (by decide)⟩
/-! ### k67: values told, with one odd one among them -/
/-- told in both ways -/
def Bo67 (K : PySem.W.Frag) (H : Hp) (v : V) (k w : Nat) : Prop := Kn H v ∧ ∃ d, Dp K H v d ∧ d.hasDict = false ∧ DpL K H v d ∧ FineX k w d
/-- told in one of the two ways -/
def Rx67 (K : PySem.W.Frag) (H : Hp) (v : V) (k w : Nat) : Prop := Kn H v ∧ ∃ d, RdX K H v d ∧ FineX k w d
def BoL67 (K : PySem.W.Frag) (H : Hp) (vs : List V) (k w : Nat) : Prop := (∀ v ∈ vs, Kn H v) ∧ ∃ ds, DpAll K H vs ds ∧ PyData.hasDictAll ds = false ∧ DpLAll K H vs ds ∧ FineX (k + 1) w (.tuple ds)
def RxL67 (K : PySem.W.Frag) (H : Hp) (vs : List V) (k w : Nat) : Prop := (∀ v ∈ vs, Kn H v) ∧ ∃ ds, ((DpAll K H vs ds ∧ PyData.hasDictAll ds = false) ∨ DpLAll K H vs ds) ∧ FineX (k + 1) w (.tuple ds)
section
variable {K : PySem.W.Frag} {H : Hp} {k : Nat}
theorem Bo67.mono {v : V} {k' w w' : Nat} (h : Bo67 K H v k w) (hk : k ≤ k') (hw : w ≤ w') : Bo67 K H v k' w' := by
  obtain ⟨h0, d, h1, h2, h3, h4⟩ := h
  exact ⟨h0, d, h1, h2, h3, h4.mono hk hw⟩
theorem Bo67.int {z : Int} (h0 : -1000 ≤ z) (h1 : z < 1000) : Bo67 K H (.int z) k 10 := ⟨trivial, _, .int z, rfl, .int z, (small_int h0 h1).mono (Nat.zero_le _) (Nat.le_refl _)⟩
theorem Bo67.str {s : Str} (h1 : (PyData.str s).leavesShort 80 = true) (h2 : s.cps.size ≤ 100) : Bo67 K H (.str s) k 100 := ⟨trivial, _, .str s, rfl, .str s, (FineX.str h1 h2).mono (Nat.zero_le _) (Nat.le_refl _)⟩
theorem Bo67.non : Bo67 K H .non k 0 := ⟨trivial, _, .non, rfl, .non, FineX.non.mono (Nat.zero_le _) (Nat.le_refl _)⟩
theorem Bo67.rx {v : V} {w : Nat} (h : Bo67 K H v k w) : Rx67 K H v k w := by
  obtain ⟨h0, d, h1, h2, h3, h4⟩ := h
  exact ⟨h0, d, .inr h3, h4⟩
theorem BoL67.nil : BoL67 K H [] k 0 := ⟨fun v h => by (cases h), [], .nil, rfl, .nil, FineX.nilT k⟩
theorem BoL67.cons {v : V} {vs : List V} {w W : Nat} (h : Bo67 K H v k w) (g : BoL67 K H vs k W) : BoL67 K H (v :: vs) k (w + 1 + W) := by
  obtain ⟨h0, d, h1, h2, h3, h4⟩ := h
  obtain ⟨g0, ds, g1, g2, g3, g4⟩ := g
  refine ⟨fun x hx => ?_, d :: ds, .cons h1 g1, by rw [PyData.hasDictAll, h2, g2]; rfl, .cons h3 g3, FineX.cons2 h4 g4⟩
  rcases List.mem_cons.mp hx with rfl | hx
  · exact h0
  · exact g0 x hx
theorem BoL67.rx {vs : List V} {W : Nat} (g : BoL67 K H vs k W) : RxL67 K H vs k W := by
  obtain ⟨g0, ds, g1, g2, g3, g4⟩ := g
  exact ⟨g0, ds, .inr g3, g4⟩
theorem RxL67.cons {v : V} {vs : List V} {w W : Nat} (h : Bo67 K H v k w) (g : RxL67 K H vs k W) : RxL67 K H (v :: vs) k (w + 1 + W) := by
  obtain ⟨h0, d, h1, h2, h3, h4⟩ := h
  obtain ⟨g0, ds, g1, g4⟩ := g
  refine ⟨fun x hx => ?_, d :: ds, g1.imp (fun g => ⟨.cons h1 g.1, by rw [PyData.hasDictAll, h2, g.2]; rfl⟩) (fun g => .cons h3 g), FineX.cons2 h4 g4⟩
  rcases List.mem_cons.mp hx with rfl | hx
  · exact h0
  · exact g0 x hx
theorem RxL67.head {v : V} {vs : List V} {w W : Nat} (h : Rx67 K H v k w) (g : BoL67 K H vs k W) : RxL67 K H (v :: vs) k (w + 1 + W) := by
  obtain ⟨h0, d, h1, h4⟩ := h
  obtain ⟨g0, ds, g1, g2, g3, g4⟩ := g
  refine ⟨fun x hx => ?_, d :: ds, h1.imp (fun h => ⟨.cons h.1 g1, by rw [PyData.hasDictAll, h.2, g2]; rfl⟩) (fun h => .cons h g3), FineX.cons2 h4 g4⟩
  rcases List.mem_cons.mp hx with rfl | hx
  · exact h0
  · exact g0 x hx
theorem BoL67.all {w : Nat} : ∀ {vs : List V}, (∀ v ∈ vs, Bo67 K H v k w) → BoL67 K H vs k (vs.length * (w + 1))
  | [], _ => by rw [List.length_nil, Nat.zero_mul]; exact BoL67.nil
  | v :: vs, h => by
    have g := BoL67.cons (h v (by simp)) (BoL67.all fun x hx => h x (List.mem_cons_of_mem v hx))
    rw [List.length_cons, Nat.succ_mul, Nat.add_comm]
    exact g
theorem RxL67.mid {v : V} {w : Nat} (h : Rx67 K H v k w) {u : Nat} {r : List V} (hr : ∀ x ∈ r, Bo67 K H x k u) : ∀ {l : List V}, (∀ x ∈ l, Bo67 K H x k u) → RxL67 K H (l ++ v :: r) k ((l.length + r.length) * (u + 1) + (w + 1))
  | [], _ => by
    have g := RxL67.head h (BoL67.all hr)
    rw [List.nil_append, List.length_nil, Nat.zero_add, Nat.add_comm]
    exact g
  | x :: l, hl => by
    have g := RxL67.cons (hl x (by simp)) (RxL67.mid h hr (l := l) fun y hy => hl y (List.mem_cons_of_mem x hy))
    have e : u + 1 + ((l.length + r.length) * (u + 1) + (w + 1)) = ((x :: l).length + r.length) * (u + 1) + (w + 1) := by
      rw [List.length_cons, show l.length + 1 + r.length = (l.length + r.length) + 1 from by omega, Nat.succ_mul]
      omega
    rw [← e]
    exact g
/-- a tuple, a list of such values -/
theorem BoL67.tup {a : Addr} {vs : List V} {w : Nat} (ha : H a = some (.tup vs)) (g : BoL67 K H vs k w) : Bo67 K H (.ref a) (k + 1) w := by
  obtain ⟨g0, ds, g1, g2, g3, g4⟩ := g
  exact ⟨.inr (.inl ⟨vs, ha⟩), _, .tup (SqT.of ha) g1, by rw [PyData.hasDict]; exact g2, .tup (SqT.of ha) g3, g4⟩
theorem RxL67.tup {a : Addr} {vs : List V} {w : Nat} (ha : H a = some (.tup vs)) (g : RxL67 K H vs k w) : Rx67 K H (.ref a) (k + 1) w := by
  obtain ⟨g0, ds, g1, g4⟩ := g
  refine ⟨.inr (.inl ⟨vs, ha⟩), _, ?_, g4⟩
  rcases g1 with ⟨g1, g2⟩ | g1
  · exact .inl ⟨.tup (SqT.of ha) g1, by rw [PyData.hasDict]; exact g2⟩
  · exact .inr (.tup (SqT.of ha) g1)
end
theorem NTV.bo67 {K : PySem.W.Frag} {H : Hp} : ∀ {t : NT} {v : V}, NTV H v t → t.sml → Bo67 K H v (t.dep + 2) (290 * t.siz)
  | .crowd xs, v, ⟨a, c, e, h1, h2⟩, ⟨s1, s2⟩ => by
    subst e
    have row : Bo67 K H (.ref c) 1 187 := ((BoL67.all (k := 0) (w := 10) (vs := xs.map V.int) fun v hv => by
      obtain ⟨z, hz, rfl⟩ := List.mem_map.mp hv
      have := s2 z hz
      exact Bo67.int (by have := this.1; omega) (by have := this.2; omega)).tup h2).mono (Nat.le_refl _) (by rw [List.length_map]; omega)
    exact ((BoL67.cons (k := 1) (Bo67.str (s := "crowd") (by decide +kernel) (by decide +kernel)) (BoL67.cons row BoL67.nil)).tup h1).mono (Nat.le_refl _) (by show 100 + 1 + (187 + 1 + 0) ≤ 290 * 1; decide)
  | .clash a b, v, ⟨c, e, h⟩, ⟨s1, s2⟩ => by
    subst e
    exact ((BoL67.cons (k := 1) (Bo67.str (s := "clash") (by decide +kernel) (by decide +kernel)) (BoL67.cons (Bo67.int (by have := s1.1; omega) (by have := s1.2; omega)) (BoL67.cons (Bo67.int (by have := s2.1; omega) (by have := s2.2; omega)) BoL67.nil))).tup h).mono (Nat.le_refl _) (by show 100 + 1 + (10 + 1 + (10 + 1 + 0)) ≤ 290 * 1; decide)
  | .case a b t u, v, ⟨c, x, y, e, h, h1, h2⟩, ⟨⟨s1, s2⟩, s3, s4⟩ => by
    subst e
    have b1 := NTV.bo67 (K := K) h1 s3
    have b2 := NTV.bo67 (K := K) h2 s4
    have m1 : t.dep ≤ max t.dep u.dep := Nat.le_max_left _ _
    have m2 : u.dep ≤ max t.dep u.dep := Nat.le_max_right _ _
    exact ((BoL67.cons (k := max t.dep u.dep + 2) (Bo67.str (s := "case") (by decide +kernel) (by decide +kernel)) (BoL67.cons (Bo67.int (by have := s1.1; omega) (by have := s1.2; omega)) (BoL67.cons (Bo67.int (by have := s2.1; omega) (by have := s2.2; omega)) (BoL67.cons (b1.mono (by omega) (Nat.le_refl _)) (BoL67.cons (b2.mono (by omega) (Nat.le_refl _)) BoL67.nil))))).tup h).mono (by show max t.dep u.dep + 2 + 1 ≤ 1 + max t.dep u.dep + 2; omega) (by show 100 + 1 + (10 + 1 + (10 + 1 + (290 * t.siz + 1 + (290 * u.siz + 1 + 0)))) ≤ 290 * (1 + t.siz + u.siz); omega)
/-- what a bent paper comes to, at one heap -/
def Bh67 (K : PySem.W.Frag) (H : Hp) (y : V) (t : NT) : Prop := ∃ q d, QTV H y q ∧ q.dep ≤ t.dep ∧ RdX K H y d ∧ FineX (t.dep + 6) (600 * t.siz + 2000) d
section
variable {K : PySem.W.Frag} {H : Hp} {t : NT}
theorem Bh67.nt {y : V} {u : NT} (h : NTV H y u) (s : u.sml) (d : u.dep ≤ t.dep) (z : u.siz ≤ 2 * t.siz) : Bh67 K H y t := by
  obtain ⟨_, dd, h1, h2, _, h4⟩ := NTV.bo67 (K := K) h s
  exact ⟨u.q, dd, h.qs68 s, by rw [NT.q_dep]; exact d, .inl ⟨h1, h2⟩, h4.mono (by omega) (by omega)⟩
/-- a tuple whose head goes not with its length -/
theorem Bh67.bad {a : Addr} {h : V} {rest : List V} {k w : Nat} (ha : H a = some (.tup (h :: rest))) (n1 : ¬ (h = .str "crowd" ∧ rest.length = 1)) (n2 : ¬ (h = .str "clash" ∧ rest.length = 2)) (n3 : ¬ (h = .str "case" ∧ rest.length = 4)) (g : RxL67 K H (h :: rest) k w) (hk : k + 1 ≤ t.dep + 6) (hw : w ≤ 600 * t.siz + 2000) : Bh67 K H (.ref a) t := by
  obtain ⟨_, d, h1, h2⟩ := g.tup ha
  exact ⟨.bad, d, .inr ⟨a, _, rfl, ha, .inr ⟨h, rest, rfl, g.1 h (by simp), n1, n2, n3⟩⟩, Nat.zero_le _, h1, h2.mono hk hw⟩
theorem Bh67.nil {a : Addr} (ha : H a = some (.tup [])) : Bh67 K H (.ref a) t := by
  obtain ⟨_, d, h1, h2⟩ := (RxL67.tup ha (BoL67.nil (K := K) (k := 0)).rx)
  exact ⟨.bad, d, .inr ⟨a, _, rfl, ha, .inl rfl⟩, Nat.zero_le _, h1, h2.mono (by omega) (Nat.zero_le _)⟩
theorem Bh67.odd {y : V} (h : Th67 K H y) : Bh67 K H y t := by
  obtain ⟨⟨_, h1⟩, d, h2, h3⟩ := h
  exact ⟨.bad, d, h1, Nat.zero_le _, h2, h3.mono (by omega) (by omega)⟩
theorem Bh67.lst {a : Addr} {vs : List V} {ds : List PyData} {k w : Nat} (ha : H a = some (.lst vs)) (dp : DpAll K H vs ds) (nd : PyData.hasDictAll ds = false) (f : FineX k w (.list ds)) (hk : k ≤ t.dep + 6) (hw : w ≤ 600 * t.siz + 2000) : Bh67 K H (.ref a) t :=
  ⟨.bad, _, .inl ⟨.inl ⟨vs, ha⟩, by
    unfold isT
    simp only [ha]⟩, Nat.zero_le _, .inl ⟨.lst (SqL.of ha) dp, by
    rw [PyData.hasDict]
    exact nd⟩, f.mono hk hw⟩
/-- a crowd of any things -/
theorem Bh67.crowd {a c : Addr} {vs : List V} {k w : Nat} (ha : H a = some (.tup [.str "crowd", .ref c])) (hc : H c = some (.tup vs)) (l : vs.length ≤ 900) (g : RxL67 K H vs k w) (hk : k + 2 ≤ t.dep + 6) (hw : w + 102 ≤ 600 * t.siz + 2000) : Bh67 K H (.ref a) t := by
  have r := g.tup hc
  obtain ⟨_, d, h1, h2⟩ := (RxL67.cons (k := k + 1) (Bo67.str (s := "crowd") (by decide +kernel) (by decide +kernel)) (RxL67.head r BoL67.nil)).tup ha
  exact ⟨.crowd (some vs), d, ⟨a, .ref c, rfl, ha, c, rfl, hc, g.1, l⟩, Nat.zero_le _, h1, h2.mono (by omega) (by omega)⟩
theorem Bh67.crowdL {a c : Addr} {vs : List V} {ds : List PyData} {k w : Nat} (ha : H a = some (.tup [.str "crowd", .ref c])) (hc : H c = some (.lst vs)) (dp : DpAll K H vs ds) (nd : PyData.hasDictAll ds = false) (f : FineX k w (.list ds)) (hk : k + 1 ≤ t.dep + 6) (hw : w + 102 ≤ 600 * t.siz + 2000) : Bh67 K H (.ref a) t := by
  refine ⟨.crowd none, .tuple [.str "crowd", .list ds], ⟨a, .ref c, rfl, ha, .inl ⟨vs, hc⟩, ?_⟩, Nat.zero_le _, .inl ⟨.tup (SqT.of ha) (.cons (.str _) (.cons (.lst (SqL.of hc) dp) .nil)), ?_⟩, (FineX.cons2 (k := k) ((FineX.str (x := "crowd") (by decide +kernel) (by decide +kernel)).mono (Nat.zero_le _) (Nat.le_refl _)) (FineX.cons2 f (FineX.nilT k))).mono hk (by omega)⟩
  · unfold isT
    simp only [hc]
  · have e : (PyData.list ds).hasDict = false := by
      rw [PyData.hasDict]
      exact nd
    rw [PyData.hasDict, PyData.hasDictAll, PyData.hasDictAll, e]
    rfl
/-- a clash, a case, of any places -/
theorem Bh67.clash {r : Addr} {a b : V} {k w : Nat} (ha : H r = some (.tup [.str "clash", a, b])) (g : RxL67 K H [.str "clash", a, b] k w) (hk : k + 1 ≤ t.dep + 6) (hw : w ≤ 600 * t.siz + 2000) : Bh67 K H (.ref r) t := by
  obtain ⟨_, d, h1, h2⟩ := g.tup ha
  exact ⟨.clash a b, d, ⟨r, rfl, ha, g.1 a (by simp), g.1 b (by simp)⟩, Nat.zero_le _, h1, h2.mono hk hw⟩
theorem Bh67.case {r : Addr} {a b x y : V} {p q : QT} {k w : Nat} (ha : H r = some (.tup [.str "case", a, b, x, y])) (hx : QTV H x p) (hy : QTV H y q) (hd : 1 + max p.dep q.dep ≤ t.dep) (g : RxL67 K H [.str "case", a, b, x, y] k w) (hk : k + 1 ≤ t.dep + 6) (hw : w ≤ 600 * t.siz + 2000) : Bh67 K H (.ref r) t := by
  obtain ⟨_, d, h1, h2⟩ := g.tup ha
  exact ⟨.case a b p q, d, ⟨r, x, y, rfl, ha, g.1 a (by simp), g.1 b (by simp), hx, hy⟩, hd, h1, h2.mono hk hw⟩
end
/-! ### k67: a paper bent -/
theorem FineX.lstOf67 {k w : Nat} {ds : List PyData} (h : FineX k w (.tuple ds)) : FineX k w (.list ds) := by
  obtain ⟨h1, h2, h3, h4⟩ := h
  rw [PyData.showable] at h1
  rw [PyData.leavesShort] at h2
  rw [PyData.depth] at h3
  rw [PyData.weight] at h4
  exact ⟨by rw [PyData.showable]; exact h1, by rw [PyData.leavesShort]; exact h2, by rw [PyData.depth]; exact h3, by rw [PyData.weight]; exact h4⟩
theorem Bt67.of {K : PySem.W.Frag} {dk c : Addr} {H : Hp} {y : V} {t : NT} (h : ∀ H2, Kp dk c H H2 → Bh67 K H2 y t) : Bt67 K dk c H y t := h
section
variable {P : Program} {w : World} {K : PySem.W.Frag} {mg : Str → Option Value} {base : Heap}
set_option maxHeartbeats 4000000 in
theorem bent_step67 (d : Nat) {f : Addr} {fd : FuncData} (F : Fun K "_law_bent" "_law_bent" s_l_bent f fd) (M : Free mg) (D_l_draw : Df P w K mg base 1 "_law_draw" ["_law_deck_here", "_law_most"] spDraw) (D_l_bent : Df P w K mg base (4 + d) "_law_bent" ["_law_deck_here", "_law_paper", "_law_many", "_law_deep"] (spBent67R K d)) (D_l_odd : Df P w K mg base 2 "_law_odd" ["_law_deck_here"] (spOdd67 K)) (D_l_number : Df P w K mg base 3 "_law_number" ["_law_deck_here", "_law_many"] (spNum67 K)) : FnOk P w K mg base CX0 (4 + d + 1) f fd ["_law_deck_here", "_law_paper", "_law_many", "_law_deep"] (spBent67 K d) := by
  obtain ⟨f_l_draw, fd_l_draw, G_l_draw, g_l_draw, k_l_draw, b_l_draw⟩ := D_l_draw
  obtain ⟨f_l_bent, fd_l_bent, G_l_bent, g_l_bent, k_l_bent, b_l_bent⟩ := D_l_bent
  obtain ⟨f_l_odd, fd_l_odd, G_l_odd, g_l_odd, k_l_odd, b_l_odd⟩ := D_l_odd
  obtain ⟨f_l_number, fd_l_number, G_l_number, g_l_number, k_l_number, b_l_number⟩ := D_l_number
  refine F.ok sc_l_bent (fun vs H Q E h => ?_) (fun cdv A outer s H vs Q E hr h => ?_)
  · obtain ⟨dk, c, x, m, e, t, rfl, _⟩ := h
    rfl
  · obtain ⟨dk, c, x, m, e, t, rfl, hD, hx, sml, mb, ed, q⟩ := h
    refine ⟨_, (Evl.pss_cut (ps_if (PW.pt (pw_and (pt_cmpR op_eq (pe_ix ix_tup (pv 1) pe_int (fun _ _ => rfl)) pe_str (nomark _)) (pw_and (pt_cmpR op_gt (pv 3) pe_int (nomark _)) (pw_and1 (pt_cmpR op_gt (pe_call G_l_draw (hr.mono (by omega)) (by rfl) g_l_draw k_l_draw b_l_draw .nil pass0 (pa_cons (pv 0) (pa_cons pe_int pa_nil))) pe_int (nomark _))))))
        (pss_cons (ps_set (i := 4) sc_l_bent.nd rfl (.inl rfl) (pe_op op_add pe_int (pe_call G_l_draw (hr.mono (by omega)) (by rfl) g_l_draw k_l_draw b_l_draw .nil pass0 (pa_cons (pv 0) (pa_cons pe_int pa_nil)))))
        (pss_cons (ps_set (i := 5) sc_l_bent.nd rfl (.inl rfl) (pe_call G_l_bent (hr.mono (by omega)) (by rfl) g_l_bent k_l_bent b_l_bent .nil pass0 (pa_cons (pv 0) (pa_cons (pe_ix ix_tup (pv 1) (pv 4) (fun _ _ => rfl)) (pa_cons (pv 2) (pa_cons (pe_op op_sub (pv 3) pe_int) pa_nil))))))
        (pss_one (ps_ret (pe_op op_catU (pe_op op_catU (pe_slice sl_tupU (pv 1) po_none (po_some (pv 4))) (pe_tup (pa_cons (pv 5) pa_nil))) (pe_slice sl_tupU (pv 1) (po_some (pe_op op_add (pv 4) pe_int)) po_none))))))
        pss_nil)
      (pss_cons (ps_set (i := 6) sc_l_bent.nd rfl (.inl rfl) (pe_call G_l_draw (hr.mono (by omega)) (by rfl) g_l_draw k_l_draw b_l_draw .nil pass0 (pa_cons (pv 0) (pa_cons pe_int pa_nil))))
      (pss_cons (ps_if (pt_cmpR op_eq (pv 6) pe_int (nomark _))
        (pss_one (ps_ret (pe_op op_catU (pe_tup (pa_cons (pe_ix ix_list (pe_lst (pa_cons pe_str (pa_cons pe_str (pa_cons pe_str (pa_cons pe_str (pa_cons pe_str (pa_cons pe_non pa_nil))))))) (pe_call G_l_draw (hr.mono (by omega)) (by rfl) g_l_draw k_l_draw b_l_draw .nil pass0 (pa_cons (pv 0) (pa_cons pe_int pa_nil))) (fun _ _ => rfl)) pa_nil)) (pe_slice sl_tupU (pv 1) (po_some pe_int) po_none))))
        pss_nil)
      (pss_cons (ps_if (pt_cmpR op_eq (pv 6) pe_int (nomark _))
        (pss_one (ps_ret (pe_ix ix_list (pe_lst (pa_cons (pe_op op_catU (pv 1) (pe_tup (pa_cons (pe_ix ix_tup (pv 1) (pe_un un_neg pe_int) (fun _ _ => rfl)) pa_nil))) (pa_cons (pe_slice sl_tupU (pv 1) po_none (po_some (pe_un un_neg pe_int))) (pa_cons (pe_callTy call_list_of (by rfl) M.list (by decide +kernel) (pa_cons (pv 1) pa_nil)) (pa_cons (pe_tup (pa_cons (pv 1) pa_nil)) (pa_cons (pe_tup pa_nil) (pa_cons (pe_call G_l_odd (hr.mono (by omega)) (by rfl) g_l_odd k_l_odd b_l_odd .nil pass0 (pa_cons (pv 0) pa_nil)) pa_nil))))))) (pe_call G_l_draw (hr.mono (by omega)) (by rfl) g_l_draw k_l_draw b_l_draw .nil pass0 (pa_cons (pv 0) (pa_cons pe_int pa_nil))) (fun _ _ => rfl))))
        pss_nil)
      (pss_cons (ps_if (PW.pt (pw_and (pt_cmpR op_eq (pe_ix ix_tup (pv 1) pe_int (fun _ _ => rfl)) pe_str (nomark _)) (pw_and1 (pt_cmpR op_lt (pv 6) pe_int (nomark _)))))
        (pss_one (ps_ret (pe_op op_catU (pe_slice sl_tupU (pv 1) po_none (po_some pe_int)) (pe_tup (pa_cons (pe_ix ix_tup (pv 1) pe_int (fun _ _ => rfl)) (pa_cons (pe_ix ix_tup (pv 1) pe_int (fun _ _ => rfl)) pa_nil))))))
        pss_nil)
      (pss_cons (ps_if (PW.pt (pw_and (pt_cmpR op_eq (pe_ix ix_tup (pv 1) pe_int (fun _ _ => rfl)) pe_str (nomark _)) (pw_and1 (pt_cmpR op_eq (pv 6) pe_int (nomark _)))))
        (pss_cons (ps_set (i := 7) sc_l_bent.nd rfl (.inl rfl) (pe_lst (pa_cons (pe_ix ix_tup (pv 1) pe_int (fun _ _ => rfl)) (pa_cons (pe_ix ix_tup (pv 1) pe_int (fun _ _ => rfl)) (pa_cons (pe_op op_catU (pe_slice sl_tupU (pv 1) po_none (po_some pe_int)) (pe_op op_repT (pe_slice sl_tupU (pv 1) (po_some pe_int) (po_some pe_int)) pe_int)) (pa_cons (pe_op op_catU (pe_slice sl_tupU (pv 1) po_none (po_some pe_int)) (pe_op op_repT (pe_slice sl_tupU (pv 1) (po_some pe_int) po_none) pe_int)) pa_nil))))))
        (pss_one (ps_ret (pe_ix ix_list (pv 7) (pe_call G_l_draw (hr.mono (by omega)) (by rfl) g_l_draw k_l_draw b_l_draw .nil pass0 (pa_cons (pv 0) (pa_cons pe_int pa_nil))) (fun _ _ => rfl)))))
        pss_nil)
      (pss_cons (ps_if (pt_cmpR op_eq (pe_ix ix_tup (pv 1) pe_int (fun _ _ => rfl)) pe_str (nomark _))
        (pss_cons (ps_set (i := 8) sc_l_bent.nd rfl (.inl rfl) (pe_ix ix_tup (pv 1) pe_int (fun _ _ => rfl)))
        (pss_cons (ps_set (i := 4) sc_l_bent.nd rfl (.inl rfl) (pe_call G_l_draw (hr.mono (by omega)) (by rfl) g_l_draw k_l_draw b_l_draw .nil pass0 (pa_cons (pv 0) (pa_cons (pe_op op_add (pe_callB call_len_seq (by rfl) M.len PySem.boot_len (pa_cons (pv 8) pa_nil)) pe_int) pa_nil))))
        (pss_cons (ps_set (i := 9) sc_l_bent.nd rfl (.inl rfl) (pe_call G_l_number (hr.mono (by omega)) (by rfl) g_l_number k_l_number b_l_number .nil pass0 (pa_cons (pv 0) (pa_cons (pv 2) pa_nil))))
        (pss_cons (ps_set (i := 7) sc_l_bent.nd rfl (.inl rfl) (pe_lst (pa_cons (pe_op op_catU (pe_op op_catU (pe_slice sl_tupU (pv 8) po_none (po_some (pv 4))) (pe_tup (pa_cons (pv 9) pa_nil))) (pe_slice sl_tupU (pv 8) (po_some (pe_op op_add (pv 4) pe_int)) po_none)) (pa_cons (pe_op op_catU (pe_slice sl_tupU (pv 8) po_none (po_some (pv 4))) (pe_slice sl_tupU (pv 8) (po_some (pe_op op_add (pv 4) pe_int)) po_none)) (pa_cons (pe_revT (pv 8)) (pa_cons (pe_callTy call_list_of (by rfl) M.list (by decide +kernel) (pa_cons (pv 8) pa_nil)) pa_nil))))))
        (pss_cons (ps_set (i := 7) sc_l_bent.nd rfl (.inl rfl) (pe_op op_cat (pv 7) (pe_lst (pa_cons (pe_op op_catU (pe_op op_catU (pe_slice sl_tupU (pv 8) po_none (po_some (pv 4))) (pe_tup (pa_cons (pv 9) pa_nil))) (pe_slice sl_tupU (pv 8) (po_some (pv 4)) po_none)) (pa_cons (pe_op op_catU (pe_op op_catU (pe_slice sl_tupU (pv 8) po_none (po_some (pv 4))) (pe_slice sl_tupU (pv 8) (po_some (pv 4)) (po_some (pe_op op_add (pv 4) pe_int)))) (pe_slice sl_tupU (pv 8) (po_some (pv 4)) po_none)) pa_nil)))))
        (pss_one (ps_ret (pe_tup (pa_cons pe_str (pa_cons (pe_ix ix_list (pv 7) (pe_call G_l_draw (hr.mono (by omega)) (by rfl) g_l_draw k_l_draw b_l_draw .nil pass0 (pa_cons (pv 0) (pa_cons pe_int pa_nil))) (fun _ _ => rfl)) pa_nil))))))))))
        pss_nil)
      (pss_cons (ps_set (i := 4) sc_l_bent.nd rfl (.inl rfl) (pe_op op_add pe_int (pe_call G_l_draw (hr.mono (by omega)) (by rfl) g_l_draw k_l_draw b_l_draw .nil pass0 (pa_cons (pv 0) (pa_cons pe_int pa_nil)))))
      (pss_one (ps_ret (pe_op op_catU (pe_op op_catU (pe_slice sl_tupU (pv 1) po_none (po_some (pv 4))) (pe_tup (pa_cons (pe_call G_l_number (hr.mono (by omega)) (by rfl) g_l_number k_l_number b_l_number .nil pass0 (pa_cons (pv 0) (pa_cons (pv 2) pa_nil))) pa_nil))) (pe_slice sl_tupU (pv 1) (po_some (pe_op op_add (pv 4) pe_int)) po_none)))))))))))), ?_⟩
    have bool : ∀ b : Bool, b = true ∨ b = false := fun b => by cases b <;> simp
    refine ⟨fun σ' H' => σ' = [some (.ref dk), some x, some (.int m), some (.int e), none, none, none, none, none, none] ∧ Deck H' dk c ∧ Kp dk c H H', ?_, ?_⟩
    · cases t with
      | crowd xs =>
        obtain ⟨a, b, rfl, ha, hb⟩ := hx
        refine ⟨.ref a, rfl, a, _, 0, .str "crowd", rfl, rfl, SqT.of ha, rfl, rfl, _, rfl, ?_⟩
        rw [show decide (V.str "crowd" = V.str "case") = false from by decide +kernel]
        exact ⟨rfl, hD, Kp.refl⟩
      | clash p p' =>
        obtain ⟨a, rfl, ha⟩ := hx
        refine ⟨.ref a, rfl, a, _, 0, .str "clash", rfl, rfl, SqT.of ha, rfl, rfl, _, rfl, ?_⟩
        rw [show decide (V.str "clash" = V.str "case") = false from by decide +kernel]
        exact ⟨rfl, hD, Kp.refl⟩
      | case p p' t u =>
        obtain ⟨a, x3, x4, rfl, ha, ht, hu⟩ := hx
        obtain ⟨⟨sp, sp'⟩, st, su⟩ := sml
        refine ⟨.ref a, rfl, a, _, 0, .str "case", rfl, rfl, SqT.of ha, rfl, rfl, _, rfl, ?_⟩
        rw [show decide (V.str "case" = V.str "case") = true from decide_eq_true rfl]
        refine ⟨.int e, rfl, e, 0, rfl, rfl, _, rfl, ?_⟩
        cases he : decide ((e : Int) > 0) with
        | false => exact ⟨rfl, hD, Kp.refl⟩
        | true =>
        have he := of_decide_eq_true he
        refine ⟨.ref dk, rfl, dk, c, 4, rfl, hD, by decide, by decide, fun v H1 v0 v1 D1 K1 => ⟨v, 0, rfl, rfl, _, rfl, ite2 (fun _ => ?_) (fun _ => ⟨rfl, D1, K1⟩)⟩⟩
        refine ⟨.ref dk, rfl, dk, c, 2, rfl, D1, by decide, by decide, fun b H2 b0 b1 D2 K2 => ⟨3, b, rfl, rfl, ?_⟩⟩
        have tk2 := (K1.trans K2).tk hD
        have ha2 := tk2 _ _ ha
        have ht2 := NTV.tk tk2 ht
        have hu2 := NTV.tk tk2 hu
        have m1 : t.dep ≤ max t.dep u.dep := Nat.le_max_left _ _
        have m2 : u.dep ≤ max t.dep u.dep := Nat.le_max_right _ _
        have pi : ∀ (H : Hp) (z : Int), Sml z → Bo67 K H (.int z) (max t.dep u.dep + 6) 10 := fun H z h => Bo67.int (by have := h.1; omega) (by have := h.2; omega)
        have ca : ∀ H : Hp, Bo67 K H (.str "case") (max t.dep u.dep + 6) 100 := fun H => Bo67.str (by decide +kernel) (by decide +kernel)
        have h01 : b = 0 ∨ b = 1 := by omega
        rcases h01 with rfl | rfl
        · show gName 4 (V.int 3) _ _ _
          have e' : ∃ e', e = e' + 1 := ⟨e - 1, by omega⟩
          obtain ⟨e', rfl⟩ := e'
          obtain ⟨d', rfl⟩ : ∃ d', d = d' + 1 := ⟨d - 1, by omega⟩
          refine ⟨.ref dk, rfl, .ref a, rfl, .int 3, rfl, a, _, 3, x3, rfl, rfl, SqT.of ha2, rfl, .int m, rfl, .int (e' + 1 : Nat), rfl, ((e' + 1 : Nat) : Int), 1, rfl, rfl, dk, c, x3, m, e', t, by show [V.ref dk, x3, V.int m, V.int (((e' + 1 : Nat) : Int) - 1)] = _; rw [show ((e' + 1 : Nat) : Int) - 1 = (e' : Int) from by omega], D2, ht2, st, mb, by omega, fun y H3 D3 K3 hb => ?_⟩
          have ha3 := K3.tk D2 _ _ ha2
          have ht3 := NTV.tk (K3.tk D2) ht2
          have hu3 := NTV.tk (K3.tk D2) hu2
          refine ⟨.ref a, rfl, .int 3, rfl, 3, rfl, a, _, rfl, ha3, fun r1 H4 s4 h4 => ?_⟩
          rw [show (3 : Int) = ((3 : Nat) : Int) from rfl, cut_take (by show 3 ≤ 5; decide)] at h4
          refine ⟨y, rfl, by show 1 ≤ sizeLine; decide, fun r2 n2 => ?_⟩
          have s5 := same_new (o := .tup [y]) n2
          refine ⟨r1, r2, _, [y], rfl, rfl, s5 _ _ h4, upd_same, by show 3 + 1 ≤ 100000; decide, fun r3 H6 s6 h6 => ?_⟩
          have s46 := (s4.trans s5).trans s6
          refine ⟨.ref a, rfl, .int 3, rfl, 3, 1, rfl, rfl, _, rfl, a, _, rfl, s46 _ _ ha3, fun r4 H7 s7 h7 => ?_⟩
          rw [show (3 : Int) + 1 = ((3 + 1 : Nat) : Int) from rfl, cut_drop (by show 3 + 1 ≤ 5; decide)] at h7
          refine ⟨r3, r4, _, _, rfl, rfl, s7 _ _ h6, h7, by show 3 + 1 + (4 - 3) ≤ 100000; decide, fun r5 H8 s8 h8 => ?_⟩
          have sA := (s46.trans s7).trans s8
          have h8 : H8 r5 = some (.tup [.str "case", .int p, .int p', y, x4]) := h8
          have D8 := D3.same sA
          refine q (.ref r5) H8 D8 ((K1.trans K2).trans (K3.trans (Same.kp sA))) (Bt67.of fun H9 k9 => ?_)
          have tk := k9.tk D8
          obtain ⟨qq, dd, y1, y2, y3, y4⟩ := hb H9 ((Same.kp sA).trans k9)
          have yk : Rx67 K H9 y (t.dep + 6) (600 * t.siz + 2000) := ⟨y1.kn, dd, y3, y4⟩
          have ub := ((NTV.bo67 (K := K) (NTV.tk tk (NTV.tk (Same.tk sA) hu3)) su).mono (k' := max t.dep u.dep + 6) (by omega) (Nat.le_refl _))
          have yk' : Rx67 K H9 y (max t.dep u.dep + 6) (600 * t.siz + 2000) := ⟨yk.1, dd, y3, y4.mono (by omega) (Nat.le_refl _)⟩
          exact Bh67.case (tk _ _ h8) y1 ((NTV.tk tk (NTV.tk (Same.tk sA) hu3)).qs68 su) (by rw [NT.q_dep]; show 1 + max qq.dep u.dep ≤ 1 + max t.dep u.dep; omega) (RxL67.cons (ca H9) (RxL67.cons (pi H9 p sp) (RxL67.cons (pi H9 p' sp') (RxL67.head yk' (BoL67.cons ub BoL67.nil))))) (by show max t.dep u.dep + 6 + 1 ≤ 1 + max t.dep u.dep + 6; omega) (by show _ ≤ 600 * (1 + t.siz + u.siz) + 2000; omega)
        · show gName 4 (V.int 4) _ _ _
          have e' : ∃ e', e = e' + 1 := ⟨e - 1, by omega⟩
          obtain ⟨e', rfl⟩ := e'
          obtain ⟨d', rfl⟩ : ∃ d', d = d' + 1 := ⟨d - 1, by omega⟩
          refine ⟨.ref dk, rfl, .ref a, rfl, .int 4, rfl, a, _, 4, x4, rfl, rfl, SqT.of ha2, rfl, .int m, rfl, .int (e' + 1 : Nat), rfl, ((e' + 1 : Nat) : Int), 1, rfl, rfl, dk, c, x4, m, e', u, by show [V.ref dk, x4, V.int m, V.int (((e' + 1 : Nat) : Int) - 1)] = _; rw [show ((e' + 1 : Nat) : Int) - 1 = (e' : Int) from by omega], D2, hu2, su, mb, by omega, fun y H3 D3 K3 hb => ?_⟩
          have ha3 := K3.tk D2 _ _ ha2
          have ht3 := NTV.tk (K3.tk D2) ht2
          have hu3 := NTV.tk (K3.tk D2) hu2
          refine ⟨.ref a, rfl, .int 4, rfl, 4, rfl, a, _, rfl, ha3, fun r1 H4 s4 h4 => ?_⟩
          rw [show (4 : Int) = ((4 : Nat) : Int) from rfl, cut_take (by show 4 ≤ 5; decide)] at h4
          refine ⟨y, rfl, by show 1 ≤ sizeLine; decide, fun r2 n2 => ?_⟩
          have s5 := same_new (o := .tup [y]) n2
          refine ⟨r1, r2, _, [y], rfl, rfl, s5 _ _ h4, upd_same, by show 4 + 1 ≤ 100000; decide, fun r3 H6 s6 h6 => ?_⟩
          have s46 := (s4.trans s5).trans s6
          refine ⟨.ref a, rfl, .int 4, rfl, 4, 1, rfl, rfl, _, rfl, a, _, rfl, s46 _ _ ha3, fun r4 H7 s7 h7 => ?_⟩
          rw [show (4 : Int) + 1 = ((4 + 1 : Nat) : Int) from rfl, cut_drop (by show 4 + 1 ≤ 5; decide)] at h7
          refine ⟨r3, r4, _, _, rfl, rfl, s7 _ _ h6, h7, by show 4 + 1 + (4 - 4) ≤ 100000; decide, fun r5 H8 s8 h8 => ?_⟩
          have sA := (s46.trans s7).trans s8
          have h8 : H8 r5 = some (.tup [.str "case", .int p, .int p', x3, y]) := h8
          have D8 := D3.same sA
          refine q (.ref r5) H8 D8 ((K1.trans K2).trans (K3.trans (Same.kp sA))) (Bt67.of fun H9 k9 => ?_)
          have tk := k9.tk D8
          obtain ⟨qq, dd, y1, y2, y3, y4⟩ := hb H9 ((Same.kp sA).trans k9)
          have yk : Rx67 K H9 y (u.dep + 6) (600 * u.siz + 2000) := ⟨y1.kn, dd, y3, y4⟩
          have tb := ((NTV.bo67 (K := K) (NTV.tk tk (NTV.tk (Same.tk sA) ht3)) st).mono (k' := max t.dep u.dep + 6) (by omega) (Nat.le_refl _))
          have yk' : Rx67 K H9 y (max t.dep u.dep + 6) (600 * u.siz + 2000) := ⟨yk.1, dd, y3, y4.mono (by omega) (Nat.le_refl _)⟩
          exact Bh67.case (tk _ _ h8) ((NTV.tk tk (NTV.tk (Same.tk sA) ht3)).qs68 st) y1 (by rw [NT.q_dep]; show 1 + max t.dep qq.dep ≤ 1 + max t.dep u.dep; omega) (RxL67.cons (ca H9) (RxL67.cons (pi H9 p sp) (RxL67.cons (pi H9 p' sp') (RxL67.cons tb (RxL67.head yk' BoL67.nil))))) (by show max t.dep u.dep + 6 + 1 ≤ 1 + max t.dep u.dep + 6; omega) (by show _ ≤ 600 * (1 + t.siz + u.siz) + 2000; omega)
    rintro σ' H1 ⟨rfl, D1, K1⟩
    have hx := NTV.tk (K1.tk hD) hx
    refine ⟨.ref dk, rfl, dk, c, 8, rfl, D1, by decide, by decide, fun way H2 w0 w1 D2 K2 => ?_⟩
    have hx := NTV.tk (K2.tk D1) hx
    have K02 := K1.trans K2
    cases t with
    | crowd xs =>
      obtain ⟨a, b0, rfl, ha, hb⟩ := hx
      obtain ⟨s1, s2⟩ := id sml
      have B1 : ∀ HH, Tk H2 HH → Bo67 K HH (.ref b0) 1 187 := fun HH tk => ((BoL67.all (k := 0) (w := 10) (vs := xs.map V.int) fun v hv => by
        obtain ⟨z, hz, rfl⟩ := List.mem_map.mp hv
        have := s2 z hz
        exact Bo67.int (by have := this.1; omega) (by have := this.2; omega)).tup (tk _ _ hb)).mono (Nat.le_refl _) (by rw [List.length_map]; omega)
      refine ⟨.int way, rfl, rfl, _, rfl, ?_⟩
      by_cases e0 : way = 0
      · rw [show decide (V.int way = V.int 0) = true from decide_eq_true (by rw [e0])]
        refine ⟨by show 6 ≤ sizeLine; decide, fun L nL => ?_⟩
        have s3 := same_new (o := .lst [.str "crowd", .str "clash", .str "case", .str "cases", .str "", .non]) nL
        have hL := upd_same (H := H2) (a := L) (o := .lst [.str "crowd", .str "clash", .str "case", .str "cases", .str "", .non])
        have Ld := D2.ned nL
        generalize upd H2 L (.lst [.str "crowd", .str "clash", .str "case", .str "cases", .str "", .non]) = H3 at s3 hL
        have D3 := D2.same s3
        refine ⟨.ref dk, rfl, dk, c, 6, rfl, D3, by decide, by decide, fun b H4 b0' b1' D4 K4 => ?_⟩
        obtain ⟨h0, mh, ah⟩ := at_mem68 (xs := [.str "crowd", .str "clash", .str "case", .str "cases", .str "", .non]) b0' b1'
        refine ⟨L, _, b, h0, rfl, rfl, SqL.of (K4 _ _ Ld.1 Ld.2 hL), ah, by show 1 ≤ sizeLine; decide, fun r1 n1 => ?_⟩
        have s5 := same_new (o := .tup [h0]) n1
        have h5 := upd_same (H := H4) (a := r1) (o := .tup [h0])
        generalize upd H4 r1 (.tup [h0]) = H5 at s5 h5
        have K25 : Kp dk c H2 H5 := (Kp.trans (Same.kp s3) K4).trans (Same.kp s5)
        refine ⟨.ref a, rfl, 1, rfl, a, _, rfl, K25.tk D2 _ _ ha, fun r2 H6 s6 h6 => ?_⟩
        refine ⟨r1, r2, [h0], _, rfl, rfl, s6 _ _ h5, h6, Nat.le_trans (Nat.add_le_add_left (cutV_length _ _ _) _) (by show 1 + 2 ≤ 100000; decide), fun r3 H7 s7 h7 => ?_⟩
        have h7 : H7 r3 = some (.tup [h0, .ref b0]) := h7
        have D7 := (D4.same s5).same (s6.trans s7)
        have K27 := K25.trans (Same.kp (s6.trans s7))
        refine q (.ref r3) H7 D7 (K02.trans K27) (Bt67.of fun HH k9 => ?_)
        have tk := (K27.trans k9).tk D2
        have h8 := k9.tk D7 _ _ h7
        simp only [List.mem_cons, List.not_mem_nil, or_false] at mh
        rcases mh with rfl | rfl | rfl | rfl | rfl | rfl
        · exact Bh67.nt (u := .crowd xs) ⟨r3, b0, rfl, h8, tk _ _ hb⟩ sml (Nat.le_refl _) (by omega)
        · exact Bh67.bad h8 (fun z => by first | exact absurd z.1 (by decide +kernel) | cases z.2) (fun z => by first | exact absurd z.1 (by decide +kernel) | cases z.2) (fun z => by first | exact absurd z.1 (by decide +kernel) | cases z.2) (BoL67.cons (Bo67.str (s := "clash") (by decide +kernel) (by decide +kernel)) (BoL67.cons (B1 HH tk) BoL67.nil)).rx (by show _ ≤ 0 + 6; omega) (by show _ ≤ 600 * 1 + 2000; omega)
        · exact Bh67.bad h8 (fun z => by first | exact absurd z.1 (by decide +kernel) | cases z.2) (fun z => by first | exact absurd z.1 (by decide +kernel) | cases z.2) (fun z => by first | exact absurd z.1 (by decide +kernel) | cases z.2) (BoL67.cons (Bo67.str (s := "case") (by decide +kernel) (by decide +kernel)) (BoL67.cons (B1 HH tk) BoL67.nil)).rx (by show _ ≤ 0 + 6; omega) (by show _ ≤ 600 * 1 + 2000; omega)
        · exact Bh67.bad h8 (fun z => by first | exact absurd z.1 (by decide +kernel) | cases z.2) (fun z => by first | exact absurd z.1 (by decide +kernel) | cases z.2) (fun z => by first | exact absurd z.1 (by decide +kernel) | cases z.2) (BoL67.cons (Bo67.str (s := "cases") (by decide +kernel) (by decide +kernel)) (BoL67.cons (B1 HH tk) BoL67.nil)).rx (by show _ ≤ 0 + 6; omega) (by show _ ≤ 600 * 1 + 2000; omega)
        · exact Bh67.bad h8 (fun z => by first | exact absurd z.1 (by decide +kernel) | cases z.2) (fun z => by first | exact absurd z.1 (by decide +kernel) | cases z.2) (fun z => by first | exact absurd z.1 (by decide +kernel) | cases z.2) (BoL67.cons (Bo67.str (s := "") (by decide +kernel) (by decide +kernel)) (BoL67.cons (B1 HH tk) BoL67.nil)).rx (by show _ ≤ 0 + 6; omega) (by show _ ≤ 600 * 1 + 2000; omega)
        · exact Bh67.bad h8 (fun z => by first | exact absurd z.1 (by decide +kernel) | cases z.2) (fun z => by first | exact absurd z.1 (by decide +kernel) | cases z.2) (fun z => by first | exact absurd z.1 (by decide +kernel) | cases z.2) (BoL67.cons Bo67.non (BoL67.cons (B1 HH tk) BoL67.nil)).rx (by show _ ≤ 0 + 6; omega) (by show _ ≤ 600 * 1 + 2000; omega)
      rw [show decide (V.int way = V.int 0) = false from decide_eq_false (fun z => e0 (by injection z))]
      refine ⟨.int way, rfl, rfl, _, rfl, ?_⟩
      by_cases e1 : way = 1
      · rw [show decide (V.int way = V.int 1) = true from decide_eq_true (by rw [e1])]
        refine ⟨.ref a, rfl, .ref a, rfl, 1, rfl, a, _, -1, .ref b0, rfl, rfl, SqT.of ha, rfl, by show 1 ≤ sizeLine; decide, fun r1 n1 => ?_⟩
        have s3 := same_new (o := .tup [.ref b0]) n1
        refine ⟨a, r1, _, [.ref b0], rfl, rfl, s3 _ _ ha, upd_same, by show 2 + 1 ≤ 100000; decide, fun r2 H4 s4 h4 => ?_⟩
        have h4 : H4 r2 = some (.tup [.str "crowd", .ref b0, .ref b0]) := h4
        have s24 := s3.trans s4
        refine ⟨.ref a, rfl, 1, rfl, -1, rfl, a, _, rfl, s24 _ _ ha, fun r3 H5 s5 h5 => ?_⟩
        have h5 : H5 r3 = some (.tup [.str "crowd"]) := h5
        have s25 := s24.trans s5
        refine ⟨.ref a, rfl, a, _, rfl, .inr (SqT.of (s25 _ _ ha)), fun r4 n4 => ?_⟩
        have s6 := same_new (o := .lst [.str "crowd", .ref b0]) n4
        have h6 := upd_same (H := H5) (a := r4) (o := .lst [.str "crowd", .ref b0])
        have r4d := (D2.same s25).ned n4
        generalize upd H5 r4 (.lst [.str "crowd", .ref b0]) = H6 at s6 h6
        refine ⟨.ref a, rfl, by show 1 ≤ sizeLine; decide, fun r5 n5 => ?_⟩
        have s7 := same_new (o := .tup [.ref a]) n5
        have h7 := upd_same (H := H6) (a := r5) (o := .tup [.ref a])
        generalize upd H6 r5 (.tup [.ref a]) = H7 at s7 h7
        refine ⟨by show 0 ≤ sizeLine; decide, fun r6 n6 => ?_⟩
        have s8 := same_new (o := .tup []) n6
        have h8 := upd_same (H := H7) (a := r6) (o := .tup [])
        generalize upd H7 r6 (.tup []) = H8 at s8 h8
        have s28 := (s25.trans s6).trans (s7.trans s8)
        have D8 := D2.same s28
        refine ⟨.ref dk, rfl, dk, c, rfl, D8, fun zo H9 D9 K9 hz => ?_⟩
        refine ⟨by show 6 ≤ sizeLine; decide, fun L nL => ?_⟩
        have s10 := same_new (o := .lst [.ref r2, .ref r3, .ref r4, .ref r5, .ref r6, zo]) nL
        have hL := upd_same (H := H9) (a := L) (o := .lst [.ref r2, .ref r3, .ref r4, .ref r5, .ref r6, zo])
        have Ld := D9.ned nL
        generalize upd H9 L (.lst [.ref r2, .ref r3, .ref r4, .ref r5, .ref r6, zo]) = H10 at s10 hL
        have D10 := D9.same s10
        refine ⟨.ref dk, rfl, dk, c, 6, rfl, D10, by decide, by decide, fun b H11 b0' b1' D11 K11 => ?_⟩
        obtain ⟨y, my, ay⟩ := at_mem68 (xs := [.ref r2, .ref r3, .ref r4, .ref r5, .ref r6, zo]) b0' b1'
        refine ⟨L, _, b, y, rfl, rfl, SqL.of (K11 _ _ Ld.1 Ld.2 hL), ay, ?_⟩
        have K8 : Kp dk c H8 H11 := (K9.trans (Same.kp s10)).trans K11
        have K211 : Kp dk c H2 H11 := (Kp.trans (Same.kp s28) K8)
        refine q y H11 D11 (K02.trans K211) (Bt67.of fun HH k9 => ?_)
        have tk := (K211.trans k9).tk D2
        have tk8 := (K8.trans k9).tk D8
        have g4 := tk8 _ _ (((s5.trans s6).trans (s7.trans s8)) _ _ h4)
        have g5 := tk8 _ _ ((s6.trans (s7.trans s8)) _ _ h5)
        have g6 := (K8.trans k9) _ _ r4d.1 r4d.2 ((s7.trans s8) _ _ h6)
        have g7 := tk8 _ _ (s8 _ _ h7)
        have g8 := tk8 _ _ h8
        simp only [List.mem_cons, List.not_mem_nil, or_false] at my
        rcases my with rfl | rfl | rfl | rfl | rfl | rfl
        · exact Bh67.bad g4 (fun z => by first | exact absurd z.1 (by decide +kernel) | cases z.2) (fun z => by first | exact absurd z.1 (by decide +kernel) | cases z.2) (fun z => by first | exact absurd z.1 (by decide +kernel) | cases z.2) (BoL67.cons (Bo67.str (s := "crowd") (by decide +kernel) (by decide +kernel)) (BoL67.cons (B1 HH tk) (BoL67.cons (B1 HH tk) BoL67.nil))).rx (by show _ ≤ 0 + 6; omega) (by show _ ≤ 600 * 1 + 2000; omega)
        · exact Bh67.bad g5 (fun z => by first | exact absurd z.1 (by decide +kernel) | cases z.2) (fun z => by first | exact absurd z.1 (by decide +kernel) | cases z.2) (fun z => by first | exact absurd z.1 (by decide +kernel) | cases z.2) (BoL67.cons (k := 0) (Bo67.str (s := "crowd") (by decide +kernel) (by decide +kernel)) BoL67.nil).rx (by show _ ≤ 0 + 6; omega) (by show _ ≤ 600 * 1 + 2000; omega)
        · obtain ⟨_, ds, e1, e2, _, e4⟩ := (BoL67.cons (Bo67.str (s := "crowd") (by decide +kernel) (by decide +kernel)) (BoL67.cons (B1 HH tk) BoL67.nil))
          exact Bh67.lst g6 e1 e2 (FineX.lstOf67 e4) (by show _ ≤ 0 + 6; omega) (by show _ ≤ 600 * 1 + 2000; omega)
        · have pp : Bo67 K HH (.ref a) _ _ := ((BoL67.cons (Bo67.str (s := "crowd") (by decide +kernel) (by decide +kernel)) (BoL67.cons (B1 HH tk) BoL67.nil))).tup (tk _ _ ha)
          exact Bh67.bad g7 (fun z => by cases z.1) (fun z => by cases z.1) (fun z => by cases z.1) (BoL67.cons pp BoL67.nil).rx (by show _ ≤ 0 + 6; omega) (by show _ ≤ 600 * 1 + 2000; omega)
        · exact Bh67.nil g8
        · exact Bh67.odd (hz HH (((Same.kp s10).trans K11).trans k9))
      rw [show decide (V.int way = V.int 1) = false from decide_eq_false (fun z => e1 (by injection z))]
      refine ⟨.ref a, rfl, a, _, 0, .str "crowd", rfl, rfl, SqT.of ha, rfl, rfl, _, rfl, ?_⟩
      rw [show decide (V.str "crowd" = V.str "case") = false from by decide +kernel]
      refine ⟨.ref a, rfl, a, _, 0, .str "crowd", rfl, rfl, SqT.of ha, rfl, rfl, _, rfl, ?_⟩
      rw [show decide (V.str "crowd" = V.str "case") = false from by decide +kernel]
      refine ⟨.ref a, rfl, a, _, 0, .str "crowd", rfl, rfl, SqT.of ha, rfl, rfl, _, rfl, ?_⟩
      rw [show decide (V.str "crowd" = V.str "crowd") = true from decide_eq_true rfl]
      refine ⟨.ref a, rfl, a, _, 1, .ref b0, rfl, rfl, SqT.of ha, rfl, ?_⟩
      refine ⟨.ref dk, rfl, .ref b0, rfl, b0, _, rfl, .inr (SqT.of hb), _, 1, rfl, rfl, dk, c, _, rfl, D2, by rw [List.length_map]; omega, by rw [List.length_map]; omega, fun j H3 j0 j1 D3 K3 => ?_⟩
      rw [List.length_map] at j1
      obtain ⟨j, rfl⟩ : ∃ n : Nat, j = n := ⟨j.toNat, by omega⟩
      refine ⟨.ref dk, rfl, .int m, rfl, dk, c, m, rfl, D3, ⟨by omega, by omega⟩, fun v H4 D4 K4 hv => ?_⟩
      have K24 := K3.trans K4
      have h0 := K24.tk D2 _ _ hb
      have lx : (xs.map V.int).length = xs.length := List.length_map ..
      have bi : ∀ HH, ∀ y ∈ xs.map V.int, Bo67 K HH y 3 10 := fun HH y hy => by
        obtain ⟨z, hz, rfl⟩ := List.mem_map.mp hy
        have := s2 z hz
        exact Bo67.int (by have := this.1; omega) (by have := this.2; omega)
      have eT : cutV (xs.map V.int) none (some (j : Int)) = (xs.map V.int).take j := cut_take (by omega)
      have eD : cutV (xs.map V.int) (some (j : Int)) none = (xs.map V.int).drop j := cut_drop (by omega)
      obtain ⟨dr, eD1, mD1, lD1⟩ : ∃ dr, cutV (xs.map V.int) (some ((j : Int) + 1)) none = dr ∧ (∀ y ∈ dr, y ∈ xs.map V.int) ∧ dr.length ≤ xs.length := by
        refine ⟨_, rfl, fun y hy => ?_, by rw [← lx]; exact cutV_length _ _ _⟩
        unfold cutV at hy
        exact List.mem_of_mem_drop (List.mem_of_mem_take hy)
      obtain ⟨on, eO, mO, lO⟩ : ∃ on, cutV (xs.map V.int) (some (j : Int)) (some ((j : Int) + 1)) = on ∧ (∀ y ∈ on, y ∈ xs.map V.int) ∧ on.length ≤ xs.length := by
        refine ⟨_, rfl, fun y hy => ?_, by rw [← lx]; exact cutV_length _ _ _⟩
        unfold cutV at hy
        exact List.mem_of_mem_drop (List.mem_of_mem_take hy)
      have mT : ∀ y ∈ (xs.map V.int).take j, y ∈ xs.map V.int := fun y hy => List.mem_of_mem_take hy
      have mD : ∀ y ∈ (xs.map V.int).drop j, y ∈ xs.map V.int := fun y hy => List.mem_of_mem_drop hy
      have lT : ((xs.map V.int).take j).length ≤ 17 := by rw [List.length_take]; omega
      have lD : ((xs.map V.int).drop j).length ≤ 17 := by rw [List.length_drop]; omega
      generalize (xs.map V.int).take j = ta at eT mT lT
      generalize (xs.map V.int).drop j = da at eD mD lD
      -- one in the place of one; one less; turned; as a list
      refine ⟨.ref b0, rfl, .int j, rfl, j, rfl, b0, _, rfl, h0, fun r1 H5 s5 h1 => ?_⟩
      rw [eT] at h1
      refine ⟨v, rfl, by show 1 ≤ sizeLine; decide, fun r2 n2 => ?_⟩
      have s6 := same_new (o := .tup [v]) n2
      refine ⟨r1, r2, _, [v], rfl, rfl, s6 _ _ h1, upd_same, by rw [List.length_singleton]; omega, fun r3 H7 s7 h3 => ?_⟩
      have s47 := (s5.trans s6).trans s7
      refine ⟨.ref b0, rfl, .int j, rfl, j, 1, rfl, rfl, _, rfl, b0, _, rfl, s47 _ _ h0, fun r4 H8 s8 h4 => ?_⟩
      rw [eD1] at h4
      refine ⟨r3, r4, _, _, rfl, rfl, s8 _ _ h3, h4, by rw [List.length_append, List.length_singleton]; omega, fun r5 H9 s9 h5 => ?_⟩
      have s49 := (s47.trans s8).trans s9
      refine ⟨.ref b0, rfl, .int j, rfl, j, rfl, b0, _, rfl, s49 _ _ h0, fun r6 H10 s10 h6 => ?_⟩
      rw [eT] at h6
      refine ⟨.ref b0, rfl, .int j, rfl, j, 1, rfl, rfl, _, rfl, b0, _, rfl, (s49.trans s10) _ _ h0, fun r7 H11 s11 h7 => ?_⟩
      rw [eD1] at h7
      refine ⟨r6, r7, _, _, rfl, rfl, s11 _ _ h6, h7, by omega, fun r8 H12 s12 h8 => ?_⟩
      have s412 := (s49.trans s10).trans (s11.trans s12)
      refine ⟨.ref b0, rfl, b0, _, rfl, SqT.of (s412 _ _ h0), fun r9 n9 => ?_⟩
      have s13 := same_new (o := .tup (xs.map V.int).reverse) n9
      have h9 := upd_same (H := H12) (a := r9) (o := .tup (xs.map V.int).reverse)
      generalize upd H12 r9 (.tup (xs.map V.int).reverse) = H13 at s13 h9
      have s413 := s412.trans s13
      refine ⟨.ref b0, rfl, b0, _, rfl, .inr (SqT.of (s413 _ _ h0)), fun r10 n10 => ?_⟩
      have s14 := same_new (o := .lst (xs.map V.int)) n10
      have h10 := upd_same (H := H13) (a := r10) (o := .lst (xs.map V.int))
      have r10d := (D4.same s413).ned n10
      generalize upd H13 r10 (.lst (xs.map V.int)) = H14 at s14 h10
      have s414 := s413.trans s14
      refine ⟨by show 4 ≤ sizeLine; decide, fun L nL => ?_⟩
      have s15 := same_new (o := .lst [.ref r5, .ref r8, .ref r9, .ref r10]) nL
      have hL := upd_same (H := H14) (a := L) (o := .lst [.ref r5, .ref r8, .ref r9, .ref r10])
      generalize upd H14 L (.lst [.ref r5, .ref r8, .ref r9, .ref r10]) = H15 at s15 hL
      have s415 := s414.trans s15
      have g0 := s415 _ _ h0
      refine ⟨.ref L, rfl, .ref b0, rfl, .int j, rfl, j, rfl, b0, _, rfl, g0, fun q1 H16 s16 k1 => ?_⟩
      rw [eT] at k1
      refine ⟨v, rfl, by show 1 ≤ sizeLine; decide, fun q2 m2 => ?_⟩
      have s17 := same_new (o := .tup [v]) m2
      refine ⟨q1, q2, _, [v], rfl, rfl, s17 _ _ k1, upd_same, by rw [List.length_singleton]; omega, fun q3 H18 s18 k3 => ?_⟩
      have s1518 := (s16.trans s17).trans s18
      refine ⟨.ref b0, rfl, .int j, rfl, j, rfl, b0, _, rfl, s1518 _ _ g0, fun q4 H19 s19 k4 => ?_⟩
      rw [eD] at k4
      refine ⟨q3, q4, _, _, rfl, rfl, s19 _ _ k3, k4, by rw [List.length_append, List.length_singleton]; omega, fun q5 H20 s20 k5 => ?_⟩
      have s1520 := (s1518.trans s19).trans s20
      refine ⟨.ref b0, rfl, .int j, rfl, j, rfl, b0, _, rfl, s1520 _ _ g0, fun q6 H21 s21 k6 => ?_⟩
      rw [eT] at k6
      refine ⟨.ref b0, rfl, .int j, rfl, j, rfl, .int j, rfl, j, 1, rfl, rfl, _, rfl, b0, _, rfl, (s1520.trans s21) _ _ g0, fun q7 H22 s22 k7 => ?_⟩
      rw [eO] at k7
      refine ⟨q6, q7, _, _, rfl, rfl, s22 _ _ k6, k7, by omega, fun q8 H23 s23 k8 => ?_⟩
      have s1523 := (s1520.trans s21).trans (s22.trans s23)
      refine ⟨.ref b0, rfl, .int j, rfl, j, rfl, b0, _, rfl, s1523 _ _ g0, fun q9 H24 s24' k9' => ?_⟩
      rw [eD] at k9'
      refine ⟨q8, q9, _, _, rfl, rfl, s24' _ _ k8, k9', by rw [List.length_append]; omega, fun q10 H25 s25 k10 => ?_⟩
      refine ⟨by show 2 ≤ sizeLine; decide, fun L2 nL2 => ?_⟩
      have s26 := same_new (o := .lst [.ref q5, .ref q10]) nL2
      have s1525 := (s1523.trans s24').trans s25
      refine ⟨L, L2, _, _, rfl, rfl, (s1525.trans s26) _ _ hL, upd_same, by show 4 + 2 ≤ sizeLine; decide, fun S nS => ?_⟩
      have s27 := s26.trans (same_new (o := .lst ([V.ref r5, .ref r8, .ref r9, .ref r10] ++ [.ref q5, .ref q10])) nS)
      have hS := upd_same (H := upd H25 L2 (.lst [.ref q5, .ref q10])) (a := S) (o := .lst ([V.ref r5, .ref r8, .ref r9, .ref r10] ++ [.ref q5, .ref q10]))
      have s1527 := s1525.trans s27
      have s427 := s415.trans s1527
      have Sd := (D4.same (s415.trans (s1525.trans s26))).ned nS
      generalize upd (upd H25 L2 (.lst [.ref q5, .ref q10])) S (.lst ([V.ref r5, .ref r8, .ref r9, .ref r10] ++ [.ref q5, .ref q10])) = H27 at s27 hS s1527 s427
      have D27 := D4.same s427
      refine ⟨.ref S, rfl, .ref dk, rfl, dk, c, 6, rfl, D27, by decide, by decide, fun b H28 b0' b1' D28 K28 => ?_⟩
      obtain ⟨y, my, ay⟩ := at_mem68 (xs := [V.ref r5, .ref r8, .ref r9, .ref r10, .ref q5, .ref q10]) b0' b1'
      refine ⟨S, _, b, y, rfl, rfl, SqL.of (K28 _ _ Sd.1 Sd.2 hS), ay, by show 2 ≤ sizeLine; decide, fun R nR => ?_⟩
      have s29 := same_new (o := .tup [.str "crowd", y]) nR
      have hR := upd_same (H := H28) (a := R) (o := .tup [.str "crowd", y])
      generalize upd H28 R (.tup [.str "crowd", y]) = H29 at s29 hR
      have D29 := D28.same s29
      have K429 : Kp dk c H4 H29 := (Kp.trans (Same.kp s427) K28).trans (Same.kp s29)
      refine q (.ref R) H29 D29 (K02.trans (K24.trans K429)) (Bt67.of fun HH k9 => ?_)
      have hR := k9.tk D29 _ _ hR
      have kE := (K28.trans (Same.kp s29)).trans k9
      have tkE := kE.tk D27
      have G5 := tkE _ _ (((((s10.trans s11).trans s12).trans (s13.trans (s14.trans s15))).trans s1527) _ _ h5)
      have G8 := tkE _ _ (((s13.trans (s14.trans s15)).trans s1527) _ _ h8)
      have G9 := tkE _ _ (((s14.trans s15).trans s1527) _ _ h9)
      have G10 := kE _ _ r10d.1 r10d.2 ((s15.trans s1527) _ _ h10)
      have Q5 := tkE _ _ ((((s21.trans (s22.trans s23)).trans (s24'.trans s25)).trans s27) _ _ k5)
      have Q10 := tkE _ _ (s27 _ _ k10)
      obtain ⟨vk, vd, v1, v2⟩ := hv HH (K429.trans k9)
      have ov : Rx67 K HH v 3 1000 := ⟨vk, vd, v1, v2⟩
      have bx : ∀ {l : List V}, (∀ y ∈ l, y ∈ xs.map V.int) → ∀ y ∈ l, Bo67 K HH y 3 10 := fun h y hy => bi HH y (h y hy)
      have two : ∀ {l r : List V}, (∀ y ∈ l, y ∈ xs.map V.int) → (∀ y ∈ r, y ∈ xs.map V.int) → ∀ y ∈ l ++ r, y ∈ xs.map V.int := fun h1 h2 y hy => (List.mem_append.mp hy).elim (h1 y) (h2 y)
      simp only [List.mem_cons, List.not_mem_nil, or_false] at my
      rcases my with rfl | rfl | rfl | rfl | rfl | rfl
      · rw [List.append_assoc] at G5
        exact Bh67.crowd hR G5 (by rw [List.length_append, List.length_append, List.length_singleton]; omega) (RxL67.mid ov (bx mD1) (bx mT)) (by show 3 + 2 ≤ 0 + 6; decide) (by show _ ≤ 600 * 1 + 2000; omega)
      · exact Bh67.crowd hR G8 (by rw [List.length_append]; omega) (BoL67.all (bx (two mT mD1))).rx (by show 3 + 2 ≤ 0 + 6; decide) (by rw [List.length_append]; show _ ≤ 600 * 1 + 2000; omega)
      · exact Bh67.crowd hR G9 (by rw [List.length_reverse, lx]; omega) (BoL67.all (bx fun y hy => List.mem_reverse.mp hy)).rx (by show 3 + 2 ≤ 0 + 6; decide) (by rw [List.length_reverse, lx]; show _ ≤ 600 * 1 + 2000; omega)
      · obtain ⟨_, ds, e1, e2, _, e4⟩ := BoL67.all (bi HH)
        exact Bh67.crowdL hR G10 e1 e2 (FineX.lstOf67 e4) (by show 3 + 1 + 1 ≤ 0 + 6; decide) (by rw [lx]; show _ ≤ 600 * 1 + 2000; omega)
      · rw [List.append_assoc] at Q5
        exact Bh67.crowd hR Q5 (by rw [List.length_append, List.length_append, List.length_singleton]; omega) (RxL67.mid ov (bx mD) (bx mT)) (by show 3 + 2 ≤ 0 + 6; decide) (by show _ ≤ 600 * 1 + 2000; omega)
      · exact Bh67.crowd hR Q10 (by rw [List.length_append, List.length_append]; omega) (BoL67.all (bx (two (two mT mO) mD))).rx (by show 3 + 2 ≤ 0 + 6; decide) (by rw [List.length_append, List.length_append]; show _ ≤ 600 * 1 + 2000; omega)
    | clash p p' =>
      obtain ⟨a, rfl, ha⟩ := hx
      obtain ⟨sp, sp'⟩ := id sml
      have B1 : ∀ HH, Tk H2 HH → Bo67 K HH (.int p) 1 10 := fun HH tk => Bo67.int (by have := sp.1; omega) (by have := sp.2; omega)
      have B2 : ∀ HH, Tk H2 HH → Bo67 K HH (.int p') 1 10 := fun HH tk => Bo67.int (by have := sp'.1; omega) (by have := sp'.2; omega)
      refine ⟨.int way, rfl, rfl, _, rfl, ?_⟩
      by_cases e0 : way = 0
      · rw [show decide (V.int way = V.int 0) = true from decide_eq_true (by rw [e0])]
        refine ⟨by show 6 ≤ sizeLine; decide, fun L nL => ?_⟩
        have s3 := same_new (o := .lst [.str "crowd", .str "clash", .str "case", .str "cases", .str "", .non]) nL
        have hL := upd_same (H := H2) (a := L) (o := .lst [.str "crowd", .str "clash", .str "case", .str "cases", .str "", .non])
        have Ld := D2.ned nL
        generalize upd H2 L (.lst [.str "crowd", .str "clash", .str "case", .str "cases", .str "", .non]) = H3 at s3 hL
        have D3 := D2.same s3
        refine ⟨.ref dk, rfl, dk, c, 6, rfl, D3, by decide, by decide, fun b H4 b0' b1' D4 K4 => ?_⟩
        obtain ⟨h0, mh, ah⟩ := at_mem68 (xs := [.str "crowd", .str "clash", .str "case", .str "cases", .str "", .non]) b0' b1'
        refine ⟨L, _, b, h0, rfl, rfl, SqL.of (K4 _ _ Ld.1 Ld.2 hL), ah, by show 1 ≤ sizeLine; decide, fun r1 n1 => ?_⟩
        have s5 := same_new (o := .tup [h0]) n1
        have h5 := upd_same (H := H4) (a := r1) (o := .tup [h0])
        generalize upd H4 r1 (.tup [h0]) = H5 at s5 h5
        have K25 : Kp dk c H2 H5 := (Kp.trans (Same.kp s3) K4).trans (Same.kp s5)
        refine ⟨.ref a, rfl, 1, rfl, a, _, rfl, K25.tk D2 _ _ ha, fun r2 H6 s6 h6 => ?_⟩
        refine ⟨r1, r2, [h0], _, rfl, rfl, s6 _ _ h5, h6, Nat.le_trans (Nat.add_le_add_left (cutV_length _ _ _) _) (by show 1 + 3 ≤ 100000; decide), fun r3 H7 s7 h7 => ?_⟩
        have h7 : H7 r3 = some (.tup [h0, .int p, .int p']) := h7
        have D7 := (D4.same s5).same (s6.trans s7)
        have K27 := K25.trans (Same.kp (s6.trans s7))
        refine q (.ref r3) H7 D7 (K02.trans K27) (Bt67.of fun HH k9 => ?_)
        have tk := (K27.trans k9).tk D2
        have h8 := k9.tk D7 _ _ h7
        simp only [List.mem_cons, List.not_mem_nil, or_false] at mh
        rcases mh with rfl | rfl | rfl | rfl | rfl | rfl
        · exact Bh67.bad h8 (fun z => by first | exact absurd z.1 (by decide +kernel) | cases z.2) (fun z => by first | exact absurd z.1 (by decide +kernel) | cases z.2) (fun z => by first | exact absurd z.1 (by decide +kernel) | cases z.2) (BoL67.cons (Bo67.str (s := "crowd") (by decide +kernel) (by decide +kernel)) (BoL67.cons (B1 HH tk) (BoL67.cons (B2 HH tk) BoL67.nil))).rx (by show _ ≤ 0 + 6; omega) (by show _ ≤ 600 * 1 + 2000; omega)
        · exact Bh67.nt (u := .clash p p') ⟨r3, rfl, h8⟩ sml (Nat.le_refl _) (by omega)
        · exact Bh67.bad h8 (fun z => by first | exact absurd z.1 (by decide +kernel) | cases z.2) (fun z => by first | exact absurd z.1 (by decide +kernel) | cases z.2) (fun z => by first | exact absurd z.1 (by decide +kernel) | cases z.2) (BoL67.cons (Bo67.str (s := "case") (by decide +kernel) (by decide +kernel)) (BoL67.cons (B1 HH tk) (BoL67.cons (B2 HH tk) BoL67.nil))).rx (by show _ ≤ 0 + 6; omega) (by show _ ≤ 600 * 1 + 2000; omega)
        · exact Bh67.bad h8 (fun z => by first | exact absurd z.1 (by decide +kernel) | cases z.2) (fun z => by first | exact absurd z.1 (by decide +kernel) | cases z.2) (fun z => by first | exact absurd z.1 (by decide +kernel) | cases z.2) (BoL67.cons (Bo67.str (s := "cases") (by decide +kernel) (by decide +kernel)) (BoL67.cons (B1 HH tk) (BoL67.cons (B2 HH tk) BoL67.nil))).rx (by show _ ≤ 0 + 6; omega) (by show _ ≤ 600 * 1 + 2000; omega)
        · exact Bh67.bad h8 (fun z => by first | exact absurd z.1 (by decide +kernel) | cases z.2) (fun z => by first | exact absurd z.1 (by decide +kernel) | cases z.2) (fun z => by first | exact absurd z.1 (by decide +kernel) | cases z.2) (BoL67.cons (Bo67.str (s := "") (by decide +kernel) (by decide +kernel)) (BoL67.cons (B1 HH tk) (BoL67.cons (B2 HH tk) BoL67.nil))).rx (by show _ ≤ 0 + 6; omega) (by show _ ≤ 600 * 1 + 2000; omega)
        · exact Bh67.bad h8 (fun z => by first | exact absurd z.1 (by decide +kernel) | cases z.2) (fun z => by first | exact absurd z.1 (by decide +kernel) | cases z.2) (fun z => by first | exact absurd z.1 (by decide +kernel) | cases z.2) (BoL67.cons Bo67.non (BoL67.cons (B1 HH tk) (BoL67.cons (B2 HH tk) BoL67.nil))).rx (by show _ ≤ 0 + 6; omega) (by show _ ≤ 600 * 1 + 2000; omega)
      rw [show decide (V.int way = V.int 0) = false from decide_eq_false (fun z => e0 (by injection z))]
      refine ⟨.int way, rfl, rfl, _, rfl, ?_⟩
      by_cases e1 : way = 1
      · rw [show decide (V.int way = V.int 1) = true from decide_eq_true (by rw [e1])]
        refine ⟨.ref a, rfl, .ref a, rfl, 1, rfl, a, _, -1, .int p', rfl, rfl, SqT.of ha, rfl, by show 1 ≤ sizeLine; decide, fun r1 n1 => ?_⟩
        have s3 := same_new (o := .tup [.int p']) n1
        refine ⟨a, r1, _, [.int p'], rfl, rfl, s3 _ _ ha, upd_same, by show 3 + 1 ≤ 100000; decide, fun r2 H4 s4 h4 => ?_⟩
        have h4 : H4 r2 = some (.tup [.str "clash", .int p, .int p', .int p']) := h4
        have s24 := s3.trans s4
        refine ⟨.ref a, rfl, 1, rfl, -1, rfl, a, _, rfl, s24 _ _ ha, fun r3 H5 s5 h5 => ?_⟩
        have h5 : H5 r3 = some (.tup [.str "clash", .int p]) := h5
        have s25 := s24.trans s5
        refine ⟨.ref a, rfl, a, _, rfl, .inr (SqT.of (s25 _ _ ha)), fun r4 n4 => ?_⟩
        have s6 := same_new (o := .lst [.str "clash", .int p, .int p']) n4
        have h6 := upd_same (H := H5) (a := r4) (o := .lst [.str "clash", .int p, .int p'])
        have r4d := (D2.same s25).ned n4
        generalize upd H5 r4 (.lst [.str "clash", .int p, .int p']) = H6 at s6 h6
        refine ⟨.ref a, rfl, by show 1 ≤ sizeLine; decide, fun r5 n5 => ?_⟩
        have s7 := same_new (o := .tup [.ref a]) n5
        have h7 := upd_same (H := H6) (a := r5) (o := .tup [.ref a])
        generalize upd H6 r5 (.tup [.ref a]) = H7 at s7 h7
        refine ⟨by show 0 ≤ sizeLine; decide, fun r6 n6 => ?_⟩
        have s8 := same_new (o := .tup []) n6
        have h8 := upd_same (H := H7) (a := r6) (o := .tup [])
        generalize upd H7 r6 (.tup []) = H8 at s8 h8
        have s28 := (s25.trans s6).trans (s7.trans s8)
        have D8 := D2.same s28
        refine ⟨.ref dk, rfl, dk, c, rfl, D8, fun zo H9 D9 K9 hz => ?_⟩
        refine ⟨by show 6 ≤ sizeLine; decide, fun L nL => ?_⟩
        have s10 := same_new (o := .lst [.ref r2, .ref r3, .ref r4, .ref r5, .ref r6, zo]) nL
        have hL := upd_same (H := H9) (a := L) (o := .lst [.ref r2, .ref r3, .ref r4, .ref r5, .ref r6, zo])
        have Ld := D9.ned nL
        generalize upd H9 L (.lst [.ref r2, .ref r3, .ref r4, .ref r5, .ref r6, zo]) = H10 at s10 hL
        have D10 := D9.same s10
        refine ⟨.ref dk, rfl, dk, c, 6, rfl, D10, by decide, by decide, fun b H11 b0' b1' D11 K11 => ?_⟩
        obtain ⟨y, my, ay⟩ := at_mem68 (xs := [.ref r2, .ref r3, .ref r4, .ref r5, .ref r6, zo]) b0' b1'
        refine ⟨L, _, b, y, rfl, rfl, SqL.of (K11 _ _ Ld.1 Ld.2 hL), ay, ?_⟩
        have K8 : Kp dk c H8 H11 := (K9.trans (Same.kp s10)).trans K11
        have K211 : Kp dk c H2 H11 := (Kp.trans (Same.kp s28) K8)
        refine q y H11 D11 (K02.trans K211) (Bt67.of fun HH k9 => ?_)
        have tk := (K211.trans k9).tk D2
        have tk8 := (K8.trans k9).tk D8
        have g4 := tk8 _ _ (((s5.trans s6).trans (s7.trans s8)) _ _ h4)
        have g5 := tk8 _ _ ((s6.trans (s7.trans s8)) _ _ h5)
        have g6 := (K8.trans k9) _ _ r4d.1 r4d.2 ((s7.trans s8) _ _ h6)
        have g7 := tk8 _ _ (s8 _ _ h7)
        have g8 := tk8 _ _ h8
        simp only [List.mem_cons, List.not_mem_nil, or_false] at my
        rcases my with rfl | rfl | rfl | rfl | rfl | rfl
        · exact Bh67.bad g4 (fun z => by first | exact absurd z.1 (by decide +kernel) | cases z.2) (fun z => by first | exact absurd z.1 (by decide +kernel) | cases z.2) (fun z => by first | exact absurd z.1 (by decide +kernel) | cases z.2) (BoL67.cons (Bo67.str (s := "clash") (by decide +kernel) (by decide +kernel)) (BoL67.cons (B1 HH tk) (BoL67.cons (B2 HH tk) (BoL67.cons (B2 HH tk) BoL67.nil)))).rx (by show _ ≤ 0 + 6; omega) (by show _ ≤ 600 * 1 + 2000; omega)
        · exact Bh67.bad g5 (fun z => by first | exact absurd z.1 (by decide +kernel) | cases z.2) (fun z => by first | exact absurd z.1 (by decide +kernel) | cases z.2) (fun z => by first | exact absurd z.1 (by decide +kernel) | cases z.2) (BoL67.cons (Bo67.str (s := "clash") (by decide +kernel) (by decide +kernel)) (BoL67.cons (B1 HH tk) BoL67.nil)).rx (by show _ ≤ 0 + 6; omega) (by show _ ≤ 600 * 1 + 2000; omega)
        · obtain ⟨_, ds, e1, e2, _, e4⟩ := (BoL67.cons (Bo67.str (s := "clash") (by decide +kernel) (by decide +kernel)) (BoL67.cons (B1 HH tk) (BoL67.cons (B2 HH tk) BoL67.nil)))
          exact Bh67.lst g6 e1 e2 (FineX.lstOf67 e4) (by show _ ≤ 0 + 6; omega) (by show _ ≤ 600 * 1 + 2000; omega)
        · have pp : Bo67 K HH (.ref a) _ _ := ((BoL67.cons (Bo67.str (s := "clash") (by decide +kernel) (by decide +kernel)) (BoL67.cons (B1 HH tk) (BoL67.cons (B2 HH tk) BoL67.nil)))).tup (tk _ _ ha)
          exact Bh67.bad g7 (fun z => by cases z.1) (fun z => by cases z.1) (fun z => by cases z.1) (BoL67.cons pp BoL67.nil).rx (by show _ ≤ 0 + 6; omega) (by show _ ≤ 600 * 1 + 2000; omega)
        · exact Bh67.nil g8
        · exact Bh67.odd (hz HH (((Same.kp s10).trans K11).trans k9))
      rw [show decide (V.int way = V.int 1) = false from decide_eq_false (fun z => e1 (by injection z))]
      refine ⟨.ref a, rfl, a, _, 0, .str "clash", rfl, rfl, SqT.of ha, rfl, rfl, _, rfl, ?_⟩
      rw [show decide (V.str "clash" = V.str "case") = false from by decide +kernel]
      refine ⟨.ref a, rfl, a, _, 0, .str "clash", rfl, rfl, SqT.of ha, rfl, rfl, _, rfl, ?_⟩
      rw [show decide (V.str "clash" = V.str "case") = false from by decide +kernel]
      refine ⟨.ref a, rfl, a, _, 0, .str "clash", rfl, rfl, SqT.of ha, rfl, rfl, _, rfl, ?_⟩
      rw [show decide (V.str "clash" = V.str "crowd") = false from by decide +kernel]
      refine ⟨.ref dk, rfl, dk, c, 2, rfl, D2, by decide, by decide, fun b H3 b0' b1' D3 K3 => ⟨1, b, rfl, rfl, ?_⟩⟩
      have ha3 := K3.tk D2 _ _ ha
      have h01 : b = 0 ∨ b = 1 := by omega
      rcases h01 with rfl | rfl
      · show gName 4 (V.int 1) _ _ _
        refine ⟨.ref a, rfl, .int 1, rfl, 1, rfl, a, _, rfl, ha3, fun r1 H4 s4 h4 => ?_⟩
        rw [show (1 : Int) = ((1 : Nat) : Int) from rfl, cut_take (by show 1 ≤ 3; decide)] at h4
        refine ⟨.ref dk, rfl, .int m, rfl, dk, c, m, rfl, D3.same s4, ⟨by omega, by omega⟩, fun v H5 D5 K5 hv => ?_⟩
        have h5 := K5.tk (D3.same s4) _ _ h4
        have ha5 := K5.tk (D3.same s4) _ _ (s4 _ _ ha3)
        refine ⟨by show 1 ≤ sizeLine; decide, fun r2 n2 => ?_⟩
        have s6 := same_new (o := .tup [v]) n2
        refine ⟨r1, r2, _, [v], rfl, rfl, s6 _ _ h5, upd_same, by show 1 + 1 ≤ 100000; decide, fun r3 H7 s7 h7 => ?_⟩
        have s57 := s6.trans s7
        refine ⟨.ref a, rfl, .int 1, rfl, 1, 1, rfl, rfl, _, rfl, a, _, rfl, s57 _ _ ha5, fun r4 H8 s8 h8 => ?_⟩
        rw [show (1 : Int) + 1 = ((1 + 1 : Nat) : Int) from rfl, cut_drop (by show 1 + 1 ≤ 3; decide)] at h8
        refine ⟨r3, r4, _, _, rfl, rfl, s8 _ _ h7, h8, by show 1 + 1 + (2 - 1) ≤ 100000; decide, fun r5 H9 s9 h9 => ?_⟩
        have h9 : H9 r5 = some (.tup [.str "clash", v, .int p']) := h9
        have s59 := (s57.trans s8).trans s9
        have D9 := D5.same s59
        have K29 : Kp dk c H2 H9 := ((K3.trans (Same.kp s4)).trans K5).trans (Same.kp s59)
        refine q (.ref r5) H9 D9 (K02.trans K29) (Bt67.of fun HH k9 => ?_)
        have tk := (K29.trans k9).tk D2
        have h9 := k9.tk D9 _ _ h9
        obtain ⟨vk, vd, v1, v2⟩ := hv HH ((Same.kp s59).trans k9)
        have ov : Rx67 K HH v (1 + 2) 1000 := ⟨vk, vd, v1, v2.mono (by omega) (Nat.le_refl _)⟩
        exact Bh67.clash h9 (RxL67.cons (Bo67.str (s := "clash") (by decide +kernel) (by decide +kernel)) (RxL67.head ov (BoL67.cons ((B2 HH tk).mono (k' := 1 + 2) (by omega) (Nat.le_refl _)) BoL67.nil))) (by show _ ≤ 0 + 6; omega) (by show _ ≤ 600 * 1 + 2000; omega)
      · show gName 4 (V.int 2) _ _ _
        refine ⟨.ref a, rfl, .int 2, rfl, 2, rfl, a, _, rfl, ha3, fun r1 H4 s4 h4 => ?_⟩
        rw [show (2 : Int) = ((2 : Nat) : Int) from rfl, cut_take (by show 2 ≤ 3; decide)] at h4
        refine ⟨.ref dk, rfl, .int m, rfl, dk, c, m, rfl, D3.same s4, ⟨by omega, by omega⟩, fun v H5 D5 K5 hv => ?_⟩
        have h5 := K5.tk (D3.same s4) _ _ h4
        have ha5 := K5.tk (D3.same s4) _ _ (s4 _ _ ha3)
        refine ⟨by show 1 ≤ sizeLine; decide, fun r2 n2 => ?_⟩
        have s6 := same_new (o := .tup [v]) n2
        refine ⟨r1, r2, _, [v], rfl, rfl, s6 _ _ h5, upd_same, by show 2 + 1 ≤ 100000; decide, fun r3 H7 s7 h7 => ?_⟩
        have s57 := s6.trans s7
        refine ⟨.ref a, rfl, .int 2, rfl, 2, 1, rfl, rfl, _, rfl, a, _, rfl, s57 _ _ ha5, fun r4 H8 s8 h8 => ?_⟩
        rw [show (2 : Int) + 1 = ((2 + 1 : Nat) : Int) from rfl, cut_drop (by show 2 + 1 ≤ 3; decide)] at h8
        refine ⟨r3, r4, _, _, rfl, rfl, s8 _ _ h7, h8, by show 2 + 1 + (2 - 2) ≤ 100000; decide, fun r5 H9 s9 h9 => ?_⟩
        have h9 : H9 r5 = some (.tup [.str "clash", .int p, v]) := h9
        have s59 := (s57.trans s8).trans s9
        have D9 := D5.same s59
        have K29 : Kp dk c H2 H9 := ((K3.trans (Same.kp s4)).trans K5).trans (Same.kp s59)
        refine q (.ref r5) H9 D9 (K02.trans K29) (Bt67.of fun HH k9 => ?_)
        have tk := (K29.trans k9).tk D2
        have h9 := k9.tk D9 _ _ h9
        obtain ⟨vk, vd, v1, v2⟩ := hv HH ((Same.kp s59).trans k9)
        have ov : Rx67 K HH v (1 + 2) 1000 := ⟨vk, vd, v1, v2.mono (by omega) (Nat.le_refl _)⟩
        exact Bh67.clash h9 (RxL67.cons (Bo67.str (s := "clash") (by decide +kernel) (by decide +kernel)) (RxL67.cons ((B1 HH tk).mono (k' := 1 + 2) (by omega) (Nat.le_refl _)) (RxL67.head ov BoL67.nil))) (by show _ ≤ 0 + 6; omega) (by show _ ≤ 600 * 1 + 2000; omega)
    | case p p' t u =>
      obtain ⟨a, x3, x4, rfl, ha, ht, hu⟩ := hx
      obtain ⟨⟨sp, sp'⟩, st, su⟩ := id sml
      have m1 : t.dep ≤ max t.dep u.dep := Nat.le_max_left _ _
      have m2 : u.dep ≤ max t.dep u.dep := Nat.le_max_right _ _
      have B1 : ∀ HH, Tk H2 HH → Bo67 K HH (.int p) (max t.dep u.dep + 2) 10 := fun HH tk => Bo67.int (by have := sp.1; omega) (by have := sp.2; omega)
      have B2 : ∀ HH, Tk H2 HH → Bo67 K HH (.int p') (max t.dep u.dep + 2) 10 := fun HH tk => Bo67.int (by have := sp'.1; omega) (by have := sp'.2; omega)
      have B3 : ∀ HH, Tk H2 HH → Bo67 K HH x3 (max t.dep u.dep + 2) (290 * t.siz) := fun HH tk => (NTV.bo67 (NTV.tk tk ht) st).mono (by omega) (Nat.le_refl _)
      have B4 : ∀ HH, Tk H2 HH → Bo67 K HH x4 (max t.dep u.dep + 2) (290 * u.siz) := fun HH tk => (NTV.bo67 (NTV.tk tk hu) su).mono (by omega) (Nat.le_refl _)
      refine ⟨.int way, rfl, rfl, _, rfl, ?_⟩
      by_cases e0 : way = 0
      · rw [show decide (V.int way = V.int 0) = true from decide_eq_true (by rw [e0])]
        refine ⟨by show 6 ≤ sizeLine; decide, fun L nL => ?_⟩
        have s3 := same_new (o := .lst [.str "crowd", .str "clash", .str "case", .str "cases", .str "", .non]) nL
        have hL := upd_same (H := H2) (a := L) (o := .lst [.str "crowd", .str "clash", .str "case", .str "cases", .str "", .non])
        have Ld := D2.ned nL
        generalize upd H2 L (.lst [.str "crowd", .str "clash", .str "case", .str "cases", .str "", .non]) = H3 at s3 hL
        have D3 := D2.same s3
        refine ⟨.ref dk, rfl, dk, c, 6, rfl, D3, by decide, by decide, fun b H4 b0' b1' D4 K4 => ?_⟩
        obtain ⟨h0, mh, ah⟩ := at_mem68 (xs := [.str "crowd", .str "clash", .str "case", .str "cases", .str "", .non]) b0' b1'
        refine ⟨L, _, b, h0, rfl, rfl, SqL.of (K4 _ _ Ld.1 Ld.2 hL), ah, by show 1 ≤ sizeLine; decide, fun r1 n1 => ?_⟩
        have s5 := same_new (o := .tup [h0]) n1
        have h5 := upd_same (H := H4) (a := r1) (o := .tup [h0])
        generalize upd H4 r1 (.tup [h0]) = H5 at s5 h5
        have K25 : Kp dk c H2 H5 := (Kp.trans (Same.kp s3) K4).trans (Same.kp s5)
        refine ⟨.ref a, rfl, 1, rfl, a, _, rfl, K25.tk D2 _ _ ha, fun r2 H6 s6 h6 => ?_⟩
        refine ⟨r1, r2, [h0], _, rfl, rfl, s6 _ _ h5, h6, Nat.le_trans (Nat.add_le_add_left (cutV_length _ _ _) _) (by show 1 + 5 ≤ 100000; decide), fun r3 H7 s7 h7 => ?_⟩
        have h7 : H7 r3 = some (.tup [h0, .int p, .int p', x3, x4]) := h7
        have D7 := (D4.same s5).same (s6.trans s7)
        have K27 := K25.trans (Same.kp (s6.trans s7))
        refine q (.ref r3) H7 D7 (K02.trans K27) (Bt67.of fun HH k9 => ?_)
        have tk := (K27.trans k9).tk D2
        have h8 := k9.tk D7 _ _ h7
        simp only [List.mem_cons, List.not_mem_nil, or_false] at mh
        rcases mh with rfl | rfl | rfl | rfl | rfl | rfl
        · exact Bh67.bad h8 (fun z => by first | exact absurd z.1 (by decide +kernel) | cases z.2) (fun z => by first | exact absurd z.1 (by decide +kernel) | cases z.2) (fun z => by first | exact absurd z.1 (by decide +kernel) | cases z.2) (BoL67.cons (Bo67.str (s := "crowd") (by decide +kernel) (by decide +kernel)) (BoL67.cons (B1 HH tk) (BoL67.cons (B2 HH tk) (BoL67.cons (B3 HH tk) (BoL67.cons (B4 HH tk) BoL67.nil))))).rx (by show _ ≤ 1 + max t.dep u.dep + 6; omega) (by show _ ≤ 600 * (1 + t.siz + u.siz) + 2000; omega)
        · exact Bh67.bad h8 (fun z => by first | exact absurd z.1 (by decide +kernel) | cases z.2) (fun z => by first | exact absurd z.1 (by decide +kernel) | cases z.2) (fun z => by first | exact absurd z.1 (by decide +kernel) | cases z.2) (BoL67.cons (Bo67.str (s := "clash") (by decide +kernel) (by decide +kernel)) (BoL67.cons (B1 HH tk) (BoL67.cons (B2 HH tk) (BoL67.cons (B3 HH tk) (BoL67.cons (B4 HH tk) BoL67.nil))))).rx (by show _ ≤ 1 + max t.dep u.dep + 6; omega) (by show _ ≤ 600 * (1 + t.siz + u.siz) + 2000; omega)
        · exact Bh67.nt (u := .case p p' t u) ⟨r3, x3, x4, rfl, h8, NTV.tk tk ht, NTV.tk tk hu⟩ sml (Nat.le_refl _) (by omega)
        · exact Bh67.bad h8 (fun z => by first | exact absurd z.1 (by decide +kernel) | cases z.2) (fun z => by first | exact absurd z.1 (by decide +kernel) | cases z.2) (fun z => by first | exact absurd z.1 (by decide +kernel) | cases z.2) (BoL67.cons (Bo67.str (s := "cases") (by decide +kernel) (by decide +kernel)) (BoL67.cons (B1 HH tk) (BoL67.cons (B2 HH tk) (BoL67.cons (B3 HH tk) (BoL67.cons (B4 HH tk) BoL67.nil))))).rx (by show _ ≤ 1 + max t.dep u.dep + 6; omega) (by show _ ≤ 600 * (1 + t.siz + u.siz) + 2000; omega)
        · exact Bh67.bad h8 (fun z => by first | exact absurd z.1 (by decide +kernel) | cases z.2) (fun z => by first | exact absurd z.1 (by decide +kernel) | cases z.2) (fun z => by first | exact absurd z.1 (by decide +kernel) | cases z.2) (BoL67.cons (Bo67.str (s := "") (by decide +kernel) (by decide +kernel)) (BoL67.cons (B1 HH tk) (BoL67.cons (B2 HH tk) (BoL67.cons (B3 HH tk) (BoL67.cons (B4 HH tk) BoL67.nil))))).rx (by show _ ≤ 1 + max t.dep u.dep + 6; omega) (by show _ ≤ 600 * (1 + t.siz + u.siz) + 2000; omega)
        · exact Bh67.bad h8 (fun z => by first | exact absurd z.1 (by decide +kernel) | cases z.2) (fun z => by first | exact absurd z.1 (by decide +kernel) | cases z.2) (fun z => by first | exact absurd z.1 (by decide +kernel) | cases z.2) (BoL67.cons Bo67.non (BoL67.cons (B1 HH tk) (BoL67.cons (B2 HH tk) (BoL67.cons (B3 HH tk) (BoL67.cons (B4 HH tk) BoL67.nil))))).rx (by show _ ≤ 1 + max t.dep u.dep + 6; omega) (by show _ ≤ 600 * (1 + t.siz + u.siz) + 2000; omega)
      rw [show decide (V.int way = V.int 0) = false from decide_eq_false (fun z => e0 (by injection z))]
      refine ⟨.int way, rfl, rfl, _, rfl, ?_⟩
      by_cases e1 : way = 1
      · rw [show decide (V.int way = V.int 1) = true from decide_eq_true (by rw [e1])]
        refine ⟨.ref a, rfl, .ref a, rfl, 1, rfl, a, _, -1, x4, rfl, rfl, SqT.of ha, rfl, by show 1 ≤ sizeLine; decide, fun r1 n1 => ?_⟩
        have s3 := same_new (o := .tup [x4]) n1
        refine ⟨a, r1, _, [x4], rfl, rfl, s3 _ _ ha, upd_same, by show 5 + 1 ≤ 100000; decide, fun r2 H4 s4 h4 => ?_⟩
        have h4 : H4 r2 = some (.tup [.str "case", .int p, .int p', x3, x4, x4]) := h4
        have s24 := s3.trans s4
        refine ⟨.ref a, rfl, 1, rfl, -1, rfl, a, _, rfl, s24 _ _ ha, fun r3 H5 s5 h5 => ?_⟩
        have h5 : H5 r3 = some (.tup [.str "case", .int p, .int p', x3]) := h5
        have s25 := s24.trans s5
        refine ⟨.ref a, rfl, a, _, rfl, .inr (SqT.of (s25 _ _ ha)), fun r4 n4 => ?_⟩
        have s6 := same_new (o := .lst [.str "case", .int p, .int p', x3, x4]) n4
        have h6 := upd_same (H := H5) (a := r4) (o := .lst [.str "case", .int p, .int p', x3, x4])
        have r4d := (D2.same s25).ned n4
        generalize upd H5 r4 (.lst [.str "case", .int p, .int p', x3, x4]) = H6 at s6 h6
        refine ⟨.ref a, rfl, by show 1 ≤ sizeLine; decide, fun r5 n5 => ?_⟩
        have s7 := same_new (o := .tup [.ref a]) n5
        have h7 := upd_same (H := H6) (a := r5) (o := .tup [.ref a])
        generalize upd H6 r5 (.tup [.ref a]) = H7 at s7 h7
        refine ⟨by show 0 ≤ sizeLine; decide, fun r6 n6 => ?_⟩
        have s8 := same_new (o := .tup []) n6
        have h8 := upd_same (H := H7) (a := r6) (o := .tup [])
        generalize upd H7 r6 (.tup []) = H8 at s8 h8
        have s28 := (s25.trans s6).trans (s7.trans s8)
        have D8 := D2.same s28
        refine ⟨.ref dk, rfl, dk, c, rfl, D8, fun zo H9 D9 K9 hz => ?_⟩
        refine ⟨by show 6 ≤ sizeLine; decide, fun L nL => ?_⟩
        have s10 := same_new (o := .lst [.ref r2, .ref r3, .ref r4, .ref r5, .ref r6, zo]) nL
        have hL := upd_same (H := H9) (a := L) (o := .lst [.ref r2, .ref r3, .ref r4, .ref r5, .ref r6, zo])
        have Ld := D9.ned nL
        generalize upd H9 L (.lst [.ref r2, .ref r3, .ref r4, .ref r5, .ref r6, zo]) = H10 at s10 hL
        have D10 := D9.same s10
        refine ⟨.ref dk, rfl, dk, c, 6, rfl, D10, by decide, by decide, fun b H11 b0' b1' D11 K11 => ?_⟩
        obtain ⟨y, my, ay⟩ := at_mem68 (xs := [.ref r2, .ref r3, .ref r4, .ref r5, .ref r6, zo]) b0' b1'
        refine ⟨L, _, b, y, rfl, rfl, SqL.of (K11 _ _ Ld.1 Ld.2 hL), ay, ?_⟩
        have K8 : Kp dk c H8 H11 := (K9.trans (Same.kp s10)).trans K11
        have K211 : Kp dk c H2 H11 := (Kp.trans (Same.kp s28) K8)
        refine q y H11 D11 (K02.trans K211) (Bt67.of fun HH k9 => ?_)
        have tk := (K211.trans k9).tk D2
        have tk8 := (K8.trans k9).tk D8
        have g4 := tk8 _ _ (((s5.trans s6).trans (s7.trans s8)) _ _ h4)
        have g5 := tk8 _ _ ((s6.trans (s7.trans s8)) _ _ h5)
        have g6 := (K8.trans k9) _ _ r4d.1 r4d.2 ((s7.trans s8) _ _ h6)
        have g7 := tk8 _ _ (s8 _ _ h7)
        have g8 := tk8 _ _ h8
        simp only [List.mem_cons, List.not_mem_nil, or_false] at my
        rcases my with rfl | rfl | rfl | rfl | rfl | rfl
        · exact Bh67.bad g4 (fun z => by first | exact absurd z.1 (by decide +kernel) | cases z.2) (fun z => by first | exact absurd z.1 (by decide +kernel) | cases z.2) (fun z => by first | exact absurd z.1 (by decide +kernel) | cases z.2) (BoL67.cons (Bo67.str (s := "case") (by decide +kernel) (by decide +kernel)) (BoL67.cons (B1 HH tk) (BoL67.cons (B2 HH tk) (BoL67.cons (B3 HH tk) (BoL67.cons (B4 HH tk) (BoL67.cons (B4 HH tk) BoL67.nil)))))).rx (by show _ ≤ 1 + max t.dep u.dep + 6; omega) (by show _ ≤ 600 * (1 + t.siz + u.siz) + 2000; omega)
        · exact Bh67.bad g5 (fun z => by first | exact absurd z.1 (by decide +kernel) | cases z.2) (fun z => by first | exact absurd z.1 (by decide +kernel) | cases z.2) (fun z => by first | exact absurd z.1 (by decide +kernel) | cases z.2) (BoL67.cons (Bo67.str (s := "case") (by decide +kernel) (by decide +kernel)) (BoL67.cons (B1 HH tk) (BoL67.cons (B2 HH tk) (BoL67.cons (B3 HH tk) BoL67.nil)))).rx (by show _ ≤ 1 + max t.dep u.dep + 6; omega) (by show _ ≤ 600 * (1 + t.siz + u.siz) + 2000; omega)
        · obtain ⟨_, ds, e1, e2, _, e4⟩ := (BoL67.cons (Bo67.str (s := "case") (by decide +kernel) (by decide +kernel)) (BoL67.cons (B1 HH tk) (BoL67.cons (B2 HH tk) (BoL67.cons (B3 HH tk) (BoL67.cons (B4 HH tk) BoL67.nil)))))
          exact Bh67.lst g6 e1 e2 (FineX.lstOf67 e4) (by show _ ≤ 1 + max t.dep u.dep + 6; omega) (by show _ ≤ 600 * (1 + t.siz + u.siz) + 2000; omega)
        · have pp : Bo67 K HH (.ref a) _ _ := ((BoL67.cons (Bo67.str (s := "case") (by decide +kernel) (by decide +kernel)) (BoL67.cons (B1 HH tk) (BoL67.cons (B2 HH tk) (BoL67.cons (B3 HH tk) (BoL67.cons (B4 HH tk) BoL67.nil)))))).tup (tk _ _ ha)
          exact Bh67.bad g7 (fun z => by cases z.1) (fun z => by cases z.1) (fun z => by cases z.1) (BoL67.cons pp BoL67.nil).rx (by show _ ≤ 1 + max t.dep u.dep + 6; omega) (by show _ ≤ 600 * (1 + t.siz + u.siz) + 2000; omega)
        · exact Bh67.nil g8
        · exact Bh67.odd (hz HH (((Same.kp s10).trans K11).trans k9))
      rw [show decide (V.int way = V.int 1) = false from decide_eq_false (fun z => e1 (by injection z))]
      refine ⟨.ref a, rfl, a, _, 0, .str "case", rfl, rfl, SqT.of ha, rfl, rfl, _, rfl, ?_⟩
      rw [show decide (V.str "case" = V.str "case") = true from decide_eq_true rfl]
      refine ⟨.int way, rfl, way, 4, rfl, rfl, _, rfl, ?_⟩
      cases e4 : decide (way < 4) with
      | true =>
        refine ⟨.ref a, rfl, 3, rfl, a, _, rfl, ha, fun r1 H4 s4 h4 => ?_⟩
        have h4 : H4 r1 = some (.tup [.str "case", .int p, .int p']) := h4
        refine ⟨.ref a, rfl, a, _, 4, x4, rfl, rfl, SqT.of (s4 _ _ ha), rfl, .ref a, rfl, a, _, 3, x3, rfl, rfl, SqT.of (s4 _ _ ha), rfl, by show 2 ≤ sizeLine; decide, fun r2 n2 => ?_⟩
        have s5 := same_new (o := .tup [x4, x3]) n2
        refine ⟨r1, r2, _, [x4, x3], rfl, rfl, s5 _ _ h4, upd_same, by show 3 + 2 ≤ 100000; decide, fun r3 H6 s6 h6 => ?_⟩
        have h6 : H6 r3 = some (.tup [.str "case", .int p, .int p', x4, x3]) := h6
        have sA := (s4.trans s5).trans s6
        have D6 := D2.same sA
        refine q (.ref r3) H6 D6 (K02.trans (Same.kp sA)) (Bt67.of fun HH k9 => ?_)
        have tk : Tk H2 HH := (Kp.trans (Same.kp sA) k9).tk D2
        exact Bh67.nt (u := .case p p' u t) ⟨r3, x4, x3, rfl, k9.tk D6 _ _ h6, NTV.tk tk hu, NTV.tk tk ht⟩ ⟨⟨sp, sp'⟩, su, st⟩ (by show 1 + max u.dep t.dep ≤ 1 + max t.dep u.dep; omega) (by show 1 + u.siz + t.siz ≤ 2 * (1 + t.siz + u.siz); omega)
      | false =>
      refine ⟨.ref a, rfl, a, _, 0, .str "case", rfl, rfl, SqT.of ha, rfl, rfl, _, rfl, ?_⟩
      rw [show decide (V.str "case" = V.str "case") = true from decide_eq_true rfl]
      refine ⟨.int way, rfl, rfl, _, rfl, ?_⟩
      by_cases e44 : way = 4
      · rw [show decide (V.int way = V.int 4) = true from decide_eq_true (by rw [e44])]
        refine ⟨.ref a, rfl, a, _, 3, x3, rfl, rfl, SqT.of ha, rfl, .ref a, rfl, a, _, 4, x4, rfl, rfl, SqT.of ha, rfl, .ref a, rfl, 3, rfl, a, _, rfl, ha, fun r1 H4 s4 h4 => ?_⟩
        have h4 : H4 r1 = some (.tup [.str "case", .int p, .int p']) := h4
        refine ⟨.ref a, rfl, 3, rfl, 4, rfl, a, _, rfl, s4 _ _ ha, fun r2 H5 s5 h5 => ?_⟩
        have h5 : H5 r2 = some (.tup [x3]) := h5
        refine ⟨r2, 2, [x3], rfl, rfl, SqT.of h5, (by simp), by decide, by decide, by show 1 ≤ 1000; decide, fun r3 n3 => ?_⟩
        have s6 := same_new (o := .tup [x3, x3]) n3
        have h6 := upd_same (H := H5) (a := r3) (o := .tup [x3, x3])
        refine ⟨r1, r3, _, [x3, x3], rfl, rfl, s6 _ _ (s5 _ _ h4), h6, by show 3 + 2 ≤ 100000; decide, fun r4 H7 s7 h7 => ?_⟩
        have h7 : H7 r4 = some (.tup [.str "case", .int p, .int p', x3, x3]) := h7
        have s47 := ((s4.trans s5).trans s6).trans s7
        refine ⟨.ref a, rfl, 3, rfl, a, _, rfl, s47 _ _ ha, fun r5 H8 s8 h8 => ?_⟩
        have h8 : H8 r5 = some (.tup [.str "case", .int p, .int p']) := h8
        have s48 := s47.trans s8
        refine ⟨.ref a, rfl, 4, rfl, a, _, rfl, s48 _ _ ha, fun r6 H9 s9 h9 => ?_⟩
        have h9 : H9 r6 = some (.tup [x4]) := h9
        refine ⟨r6, 2, [x4], rfl, rfl, SqT.of h9, (by simp), by decide, by decide, by show 1 ≤ 1000; decide, fun r7 n7 => ?_⟩
        have s10 := same_new (o := .tup [x4, x4]) n7
        have h10 := upd_same (H := H9) (a := r7) (o := .tup [x4, x4])
        refine ⟨r5, r7, _, [x4, x4], rfl, rfl, s10 _ _ (s9 _ _ h8), h10, by show 3 + 2 ≤ 100000; decide, fun r8 H11 s11 h11 => ?_⟩
        have h11 : H11 r8 = some (.tup [.str "case", .int p, .int p', x4, x4]) := h11
        have s811 := (s9.trans s10).trans s11
        refine ⟨by show 4 ≤ sizeLine; decide, fun L nL => ?_⟩
        have s12 := same_new (o := .lst [x3, x4, .ref r4, .ref r8]) nL
        have hL := upd_same (H := H11) (a := L) (o := .lst [x3, x4, .ref r4, .ref r8])
        have s211 := s48.trans s811
        have Ld := (D2.same s211).ned nL
        generalize upd H11 L (.lst [x3, x4, .ref r4, .ref r8]) = H12 at s12 hL
        have D12 := (D2.same s211).same s12
        refine ⟨.ref L, rfl, .ref dk, rfl, dk, c, 4, rfl, D12, by decide, by decide, fun b H13 b0' b1' D13 K13 => ?_⟩
        obtain ⟨y, my, ay⟩ := at_mem68 (xs := [x3, x4, .ref r4, .ref r8]) b0' b1'
        refine ⟨L, _, b, y, rfl, rfl, SqL.of (K13 _ _ Ld.1 Ld.2 hL), ay, ?_⟩
        have K213 : Kp dk c H2 H13 := Kp.trans (Same.kp (s211.trans s12)) K13
        refine q y H13 D13 (K02.trans K213) (Bt67.of fun HH k9 => ?_)
        have tk := (K213.trans k9).tk D2
        have tkE := (K13.trans k9).tk D12
        simp only [List.mem_cons, List.not_mem_nil, or_false] at my
        rcases my with rfl | rfl | rfl | rfl
        · exact Bh67.nt (u := t) (NTV.tk tk ht) st (by show t.dep ≤ 1 + max t.dep u.dep; omega) (by show t.siz ≤ 2 * (1 + t.siz + u.siz); omega)
        · exact Bh67.nt (u := u) (NTV.tk tk hu) su (by show u.dep ≤ 1 + max t.dep u.dep; omega) (by show u.siz ≤ 2 * (1 + t.siz + u.siz); omega)
        · exact Bh67.nt (u := .case p p' t t) ⟨r4, x3, x3, rfl, tkE _ _ (s12 _ _ ((s8.trans s811) _ _ h7)), NTV.tk tk ht, NTV.tk tk ht⟩ ⟨⟨sp, sp'⟩, st, st⟩ (by show 1 + max t.dep t.dep ≤ 1 + max t.dep u.dep; omega) (by show 1 + t.siz + t.siz ≤ 2 * (1 + t.siz + u.siz); omega)
        · exact Bh67.nt (u := .case p p' u u) ⟨r8, x4, x4, rfl, tkE _ _ (s12 _ _ h11), NTV.tk tk hu, NTV.tk tk hu⟩ ⟨⟨sp, sp'⟩, su, su⟩ (by show 1 + max u.dep u.dep ≤ 1 + max t.dep u.dep; omega) (by show 1 + u.siz + u.siz ≤ 2 * (1 + t.siz + u.siz); omega)
      rw [show decide (V.int way = V.int 4) = false from decide_eq_false (fun z => e44 (by injection z))]
      refine ⟨.ref a, rfl, a, _, 0, .str "case", rfl, rfl, SqT.of ha, rfl, rfl, _, rfl, ?_⟩
      rw [show decide (V.str "case" = V.str "crowd") = false from by decide +kernel]
      refine ⟨.ref dk, rfl, dk, c, 2, rfl, D2, by decide, by decide, fun b H3 b0' b1' D3 K3 => ⟨1, b, rfl, rfl, ?_⟩⟩
      have ha3 := K3.tk D2 _ _ ha
      have h01 : b = 0 ∨ b = 1 := by omega
      rcases h01 with rfl | rfl
      · show gName 4 (V.int 1) _ _ _
        refine ⟨.ref a, rfl, .int 1, rfl, 1, rfl, a, _, rfl, ha3, fun r1 H4 s4 h4 => ?_⟩
        rw [show (1 : Int) = ((1 : Nat) : Int) from rfl, cut_take (by show 1 ≤ 5; decide)] at h4
        refine ⟨.ref dk, rfl, .int m, rfl, dk, c, m, rfl, D3.same s4, ⟨by omega, by omega⟩, fun v H5 D5 K5 hv => ?_⟩
        have h5 := K5.tk (D3.same s4) _ _ h4
        have ha5 := K5.tk (D3.same s4) _ _ (s4 _ _ ha3)
        refine ⟨by show 1 ≤ sizeLine; decide, fun r2 n2 => ?_⟩
        have s6 := same_new (o := .tup [v]) n2
        refine ⟨r1, r2, _, [v], rfl, rfl, s6 _ _ h5, upd_same, by show 1 + 1 ≤ 100000; decide, fun r3 H7 s7 h7 => ?_⟩
        have s57 := s6.trans s7
        refine ⟨.ref a, rfl, .int 1, rfl, 1, 1, rfl, rfl, _, rfl, a, _, rfl, s57 _ _ ha5, fun r4 H8 s8 h8 => ?_⟩
        rw [show (1 : Int) + 1 = ((1 + 1 : Nat) : Int) from rfl, cut_drop (by show 1 + 1 ≤ 5; decide)] at h8
        refine ⟨r3, r4, _, _, rfl, rfl, s8 _ _ h7, h8, by show 1 + 1 + (4 - 1) ≤ 100000; decide, fun r5 H9 s9 h9 => ?_⟩
        have h9 : H9 r5 = some (.tup [.str "case", v, .int p', x3, x4]) := h9
        have s59 := (s57.trans s8).trans s9
        have D9 := D5.same s59
        have K29 : Kp dk c H2 H9 := ((K3.trans (Same.kp s4)).trans K5).trans (Same.kp s59)
        refine q (.ref r5) H9 D9 (K02.trans K29) (Bt67.of fun HH k9 => ?_)
        have tk := (K29.trans k9).tk D2
        have h9 := k9.tk D9 _ _ h9
        obtain ⟨vk, vd, v1, v2⟩ := hv HH ((Same.kp s59).trans k9)
        have ov : Rx67 K HH v ((max t.dep u.dep + 2) + 2) 1000 := ⟨vk, vd, v1, v2.mono (by omega) (Nat.le_refl _)⟩
        exact Bh67.case h9 ((NTV.tk tk ht).qs68 st) ((NTV.tk tk hu).qs68 su) (by rw [NT.q_dep, NT.q_dep]; exact Nat.le_refl _) (RxL67.cons (Bo67.str (s := "case") (by decide +kernel) (by decide +kernel)) (RxL67.head ov (BoL67.cons ((B2 HH tk).mono (k' := (max t.dep u.dep + 2) + 2) (by omega) (Nat.le_refl _)) (BoL67.cons ((B3 HH tk).mono (k' := (max t.dep u.dep + 2) + 2) (by omega) (Nat.le_refl _)) (BoL67.cons ((B4 HH tk).mono (k' := (max t.dep u.dep + 2) + 2) (by omega) (Nat.le_refl _)) BoL67.nil))))) (by show _ ≤ 1 + max t.dep u.dep + 6; omega) (by show _ ≤ 600 * (1 + t.siz + u.siz) + 2000; omega)
      · show gName 4 (V.int 2) _ _ _
        refine ⟨.ref a, rfl, .int 2, rfl, 2, rfl, a, _, rfl, ha3, fun r1 H4 s4 h4 => ?_⟩
        rw [show (2 : Int) = ((2 : Nat) : Int) from rfl, cut_take (by show 2 ≤ 5; decide)] at h4
        refine ⟨.ref dk, rfl, .int m, rfl, dk, c, m, rfl, D3.same s4, ⟨by omega, by omega⟩, fun v H5 D5 K5 hv => ?_⟩
        have h5 := K5.tk (D3.same s4) _ _ h4
        have ha5 := K5.tk (D3.same s4) _ _ (s4 _ _ ha3)
        refine ⟨by show 1 ≤ sizeLine; decide, fun r2 n2 => ?_⟩
        have s6 := same_new (o := .tup [v]) n2
        refine ⟨r1, r2, _, [v], rfl, rfl, s6 _ _ h5, upd_same, by show 2 + 1 ≤ 100000; decide, fun r3 H7 s7 h7 => ?_⟩
        have s57 := s6.trans s7
        refine ⟨.ref a, rfl, .int 2, rfl, 2, 1, rfl, rfl, _, rfl, a, _, rfl, s57 _ _ ha5, fun r4 H8 s8 h8 => ?_⟩
        rw [show (2 : Int) + 1 = ((2 + 1 : Nat) : Int) from rfl, cut_drop (by show 2 + 1 ≤ 5; decide)] at h8
        refine ⟨r3, r4, _, _, rfl, rfl, s8 _ _ h7, h8, by show 2 + 1 + (4 - 2) ≤ 100000; decide, fun r5 H9 s9 h9 => ?_⟩
        have h9 : H9 r5 = some (.tup [.str "case", .int p, v, x3, x4]) := h9
        have s59 := (s57.trans s8).trans s9
        have D9 := D5.same s59
        have K29 : Kp dk c H2 H9 := ((K3.trans (Same.kp s4)).trans K5).trans (Same.kp s59)
        refine q (.ref r5) H9 D9 (K02.trans K29) (Bt67.of fun HH k9 => ?_)
        have tk := (K29.trans k9).tk D2
        have h9 := k9.tk D9 _ _ h9
        obtain ⟨vk, vd, v1, v2⟩ := hv HH ((Same.kp s59).trans k9)
        have ov : Rx67 K HH v ((max t.dep u.dep + 2) + 2) 1000 := ⟨vk, vd, v1, v2.mono (by omega) (Nat.le_refl _)⟩
        exact Bh67.case h9 ((NTV.tk tk ht).qs68 st) ((NTV.tk tk hu).qs68 su) (by rw [NT.q_dep, NT.q_dep]; exact Nat.le_refl _) (RxL67.cons (Bo67.str (s := "case") (by decide +kernel) (by decide +kernel)) (RxL67.cons ((B1 HH tk).mono (k' := (max t.dep u.dep + 2) + 2) (by omega) (Nat.le_refl _)) (RxL67.head ov (BoL67.cons ((B3 HH tk).mono (k' := (max t.dep u.dep + 2) + 2) (by omega) (Nat.le_refl _)) (BoL67.cons ((B4 HH tk).mono (k' := (max t.dep u.dep + 2) + 2) (by omega) (Nat.le_refl _)) BoL67.nil))))) (by show _ ≤ 1 + max t.dep u.dep + 6; omega) (by show _ ≤ 600 * (1 + t.siz + u.siz) + 2000; omega)
theorem ok_bent67 {f : Addr} {fd : FuncData} (F : Fun K "_law_bent" "_law_bent" s_l_bent f fd) (M : Free mg) (g : mg "_law_bent" = some (.ref f)) (b : L2.Binds K fd ["_law_deck_here", "_law_paper", "_law_many", "_law_deep"] []) (D_l_draw : Df P w K mg base 1 "_law_draw" ["_law_deck_here", "_law_most"] spDraw) (D_l_odd : Df P w K mg base 2 "_law_odd" ["_law_deck_here"] (spOdd67 K)) (D_l_number : Df P w K mg base 3 "_law_number" ["_law_deck_here", "_law_many"] (spNum67 K)) : ∀ d, FnOk P w K mg base CX0 (4 + d) f fd ["_law_deck_here", "_law_paper", "_law_many", "_law_deep"] (spBent67R K d)
  | 0 => ⟨fun vs H Q E h => h.elim, fun B out z H ar us vs Q E _ _ _ _ h => h.elim⟩
  | d + 1 => by
    rw [show 4 + (d + 1) = 4 + d + 1 from by omega]
    exact bent_step67 d F M D_l_draw ⟨f, fd, ok_bent67 F M g b D_l_draw D_l_odd D_l_number d, g, F.kp, b⟩ D_l_odd D_l_number
end
def spLaw (K : PySem.W.Frag) (Ps : List Addr) : Sp := fun vs H Q _ => ∃ (a : Addr) (ns : List Int), vs = [.ref a] ∧ SqL K H a (ns.map V.int) ∧ ns.length ≤ 63 ∧ Tabs Ps H ∧ ∀ H', Q (.bl true) H'
section
variable {P : Program} {w : World} {K : PySem.W.Frag} {mg : Str → Option Value} {base : Heap}
set_option maxHeartbeats 4000000 in
theorem ok_law {f : Addr} {fd : FuncData} {Ps : List Addr} (F : Fun K "law" "law" s_law f fd) (M : Free mg) (D_l_deck : Df P w K mg base 1 "_law_deck" ["_law_script"] (spDeck K)) (D_l_small_web : Df P w K mg base 2 "_law_small_web" ["_law_deck_here"] spWebS) (D_l_draw : Df P w K mg base 1 "_law_draw" ["_law_deck_here", "_law_most"] spDraw) (D_l_made : Df P w K mg base 9 "_law_made" ["_law_deck_here", "_law_web", "_law_k", "_law_deep"] (spMade 6)) (D_l_within : Df P w K mg base 2 "_law_within" ["_law_deck_here", "_law_web", "_law_paper"] spWithin) (D_l_right : DfG P w K mg base 192 "_law_right" ["_law_web", "_law_k", "_law_thing"] (spRight67 K Ps)) (D_l_bent : Df P w K mg base 11 "_law_bent" ["_law_deck_here", "_law_paper", "_law_many", "_law_deep"] (spBent67 K 6)) (D_l_none : Df P w K mg base 3 "_law_none" ["_law_web", "_law_k", "_law_thing"] spLNone) (D_none_holds : Df P w K mg base 191 "none_holds" ["web", "k", "thing"] (spNoneH Ps)) (D_l_same : Df P w K mg base 1 "_law_same" ["_law_found", "_law_due"] spSameB) (D_l_odd : Df P w K mg base 2 "_law_odd" ["_law_deck_here"] (spOdd67 K)) : FnG P w K mg base 193 f fd ["_law_script"] (spLaw K Ps) := by
  obtain ⟨f_l_deck, fd_l_deck, G_l_deck, g_l_deck, k_l_deck, b_l_deck⟩ := D_l_deck
  obtain ⟨f_l_small_web, fd_l_small_web, G_l_small_web, g_l_small_web, k_l_small_web, b_l_small_web⟩ := D_l_small_web
  obtain ⟨f_l_draw, fd_l_draw, G_l_draw, g_l_draw, k_l_draw, b_l_draw⟩ := D_l_draw
  obtain ⟨f_l_made, fd_l_made, G_l_made, g_l_made, k_l_made, b_l_made⟩ := D_l_made
  obtain ⟨f_l_within, fd_l_within, G_l_within, g_l_within, k_l_within, b_l_within⟩ := D_l_within
  obtain ⟨f_l_right, fd_l_right, G_l_right, g_l_right, k_l_right, b_l_right⟩ := D_l_right
  obtain ⟨f_l_bent, fd_l_bent, G_l_bent, g_l_bent, k_l_bent, b_l_bent⟩ := D_l_bent
  obtain ⟨f_l_none, fd_l_none, G_l_none, g_l_none, k_l_none, b_l_none⟩ := D_l_none
  obtain ⟨f_none_holds, fd_none_holds, G_none_holds, g_none_holds, k_none_holds, b_none_holds⟩ := D_none_holds
  obtain ⟨f_l_same, fd_l_same, G_l_same, g_l_same, k_l_same, b_l_same⟩ := D_l_same
  obtain ⟨f_l_odd, fd_l_odd, G_l_odd, g_l_odd, k_l_odd, b_l_odd⟩ := D_l_odd
  refine okG F sc_law (fun vs H Q E h => ?_) (fun cdv A outer s H vs Q E hG hr h => ?_)
  · obtain ⟨sc, ns, rfl, _⟩ := h
    rfl
  · obtain ⟨sc, ns, rfl, hS, hlen, hT, q⟩ := h
    refine ⟨_, (pss_cons (ps_set (i := 1) sc_law.nd rfl (.inl rfl) (pe_call G_l_deck (hr.mono (by decide)) (by rfl) g_l_deck k_l_deck b_l_deck .nil pass0 (pa_cons (pv 0) pa_nil)))
      (pss_cons (ps_for PassesOwn.never rfl (pi_range1 (by rfl) M.range (pa_cons pe_int pa_nil)) (pg_name (i := 2) sc_law.nd rfl (.inl rfl))
        (pss_cons (ps_set (i := 3) sc_law.nd rfl (.inl rfl) (pe_call G_l_small_web (hr.mono (by decide)) (by rfl) g_l_small_web k_l_small_web b_l_small_web .nil pass0 (pa_cons (pv 1) pa_nil)))
        (pss_cons (ps_set (i := 4) sc_law.nd rfl (.inl rfl) (pe_op op_add pe_int (pe_call G_l_draw (hr.mono (by decide)) (by rfl) g_l_draw k_l_draw b_l_draw .nil pass0 (pa_cons (pv 1) (pa_cons pe_int pa_nil)))))
        (pss_cons (ps_set (i := 5) sc_law.nd rfl (.inl rfl) (pe_call G_l_made (hr.mono (by decide)) (by rfl) g_l_made k_l_made b_l_made .nil pass0 (pa_cons (pv 1) (pa_cons (pv 3) (pa_cons (pv 4) (pa_cons pe_int pa_nil))))))
        (pss_cons (ps_if (PW.pt (pw_or (pt_not (pt_val (pe_callG G_l_right hG (hr.mono (by decide)) (by rfl) g_l_right k_l_right b_l_right (pa_cons (pv 3) (pa_cons (pv 4) (pa_cons (pv 5) pa_nil)))))) (pw_or1 (pt_not (pt_val (pe_callG G_l_right hG (hr.mono (by decide)) (by rfl) g_l_right k_l_right b_l_right (pa_cons (pv 3) (pa_cons (pv 4) (pa_cons (pe_call G_l_within (hr.mono (by decide)) (by rfl) g_l_within k_l_within b_l_within .nil pass0 (pa_cons (pv 1) (pa_cons (pv 3) (pa_cons (pv 5) pa_nil)))) pa_nil)))))))))
          (pss_one (ps_ret pe_bl))
          pss_nil)
        (pss_cons (ps_for PassesOwn.never rfl (pi_range1 (by rfl) M.range (pa_cons pe_int pa_nil)) (pg_name (i := 6) sc_law.nd rfl (.inl rfl))
          (pss_one (ps_if (pt_not (pt_val (pe_callG G_l_right hG (hr.mono (by decide)) (by rfl) g_l_right k_l_right b_l_right (pa_cons (pv 3) (pa_cons (pv 4) (pa_cons (pe_call G_l_bent (hr.mono (by decide)) (by rfl) g_l_bent k_l_bent b_l_bent .nil pass0 (pa_cons (pv 1) (pa_cons (pv 5) (pa_cons (pe_ix ix_tup (pv 3) pe_int (fun _ _ => rfl)) (pa_cons pe_int pa_nil))))) pa_nil))))))
            (pss_one (ps_ret pe_bl))
            pss_nil)))
        (pss_cons (ps_if (pt_not (pt_val (pe_call G_l_same (hr.mono (by decide)) (by rfl) g_l_same k_l_same b_l_same .nil pass0 (pa_cons (pe_call G_none_holds (hr.mono (by decide)) (by rfl) g_none_holds k_none_holds b_none_holds .nil pass0 (pa_cons (pv 3) (pa_cons (pe_op op_pow pe_int pe_int) (pa_cons (pv 5) pa_nil)))) (pa_cons (pe_call G_l_none (hr.mono (by decide)) (by rfl) g_l_none k_l_none b_l_none .nil pass0 (pa_cons (pv 3) (pa_cons (pe_op op_pow pe_int pe_int) (pa_cons (pv 5) pa_nil)))) pa_nil)))))
          (pss_one (ps_ret pe_bl))
          pss_nil)
        (pss_one (ps_if (pt_not (pt_val (pe_callG G_l_right hG (hr.mono (by decide)) (by rfl) g_l_right k_l_right b_l_right (pa_cons (pv 3) (pa_cons (pv 4) (pa_cons (pe_call G_l_odd (hr.mono (by decide)) (by rfl) g_l_odd k_l_odd b_l_odd .nil pass0 (pa_cons (pv 1) pa_nil)) pa_nil))))))
          (pss_one (ps_ret pe_bl))
          pss_nil)))))))))
      (pss_one (ps_ret pe_bl)))), ?_⟩
    refine ⟨.ref sc, rfl, sc, ns, rfl, hS, hlen, fun d c H1 s1 nd nc D1 => ?_⟩
    have hT1 := hT.same s1
    clear hS hT s1 nd nc
    refine ⟨4, rfl, by decide, by decide, ?_⟩
    refine for_range (lo := 0) (n := 4) (fun i σ' H' => ∃ y2 y3 y4 y5 y6 : Option V, σ' = [some (.ref sc), some (.ref d), y2, y3, y4, y5, y6] ∧ Deck H' d c ∧ Tabs Ps H') ⟨none, none, none, none, none, rfl, D1, hT1⟩ ?_ ?_
    rotate_left
    · rintro σ' H1 ⟨y2, y3, y4, y5, y6, rfl, D1, hT1⟩
      exact q _
    clear D1 hT1
    rintro i σ' H1 hi ⟨y2, y3, y4, y5, y6, rfl, D1, hT1⟩
    refine ⟨.ref d, rfl, d, c, rfl, D1, fun v n ts H2 hW ok n5 n2 few D2 K2 => ?_⟩
    obtain ⟨n, rfl⟩ : ∃ k : Nat, n = k := ⟨n.toNat, by omega⟩
    have hT2 := hT1.kp K2 D1
    refine ⟨.ref d, rfl, d, c, 4, rfl, D2, by decide, by decide, fun v1 H3 a0 a1 D3 K3 => ⟨1, v1, rfl, rfl, ?_⟩⟩
    show gName 4 (V.int (1 + v1)) _ _ _
    have hT3 := hT2.kp K3 D2
    have hW3 := hW.tk (K3.tk D2)
    obtain ⟨k, hk⟩ : ∃ k : Int, 1 + v1 = k := ⟨_, rfl⟩
    rw [hk]
    refine ⟨.ref d, rfl, v, rfl, .int k, rfl, d, c, v, k, n, ts, 6, rfl, D3, hW3, ⟨by omega, by omega⟩, ok.ok, by omega, ⟨by omega, by omega⟩, Nat.le_refl _, fun y t H4 D4 K4 ht sml dp sz => ?_⟩
    have hT4 := hT3.kp K4 D3
    have hW4 := hW3.tk (K4.tk D3)
    have sz : t.siz + 1 ≤ 128 := sz
    clear D1 hT1 hW D2 K2 hT2 D3 K3 hT3 hW3 K4
    -- the paper, the paper within cases
    refine ⟨v, rfl, .int k, rfl, y, rfl, v, k, y, n, ts, rfl, hW4, ok, Tg68.nt ht sml (by omega) (by omega), hT4, fun H5 k5 => ⟨_, rfl, ?_⟩⟩
    have hT5 : Tabs Ps H5 := k5.tab
    have D5 := k5.deck hT4 D4
    have hW5 := hW4.tk (k5.tk hT4)
    have ht5 := NTV.tk (k5.tk hT4) ht
    clear hT4 D4 hW4 ht k5
    refine ⟨v, rfl, .int k, rfl, .ref d, rfl, v, rfl, y, rfl, d, c, v, y, n, ts, t, rfl, D5, hW5, ⟨by omega, by omega⟩, ok.ok, by omega, ht5, sml, fun y2 u H6 D6 K6 hu su du zu => ?_⟩
    have hT6 := hT5.kp K6 D5
    have hW6 := hW5.tk (K6.tk D5)
    have ht6 := NTV.tk (K6.tk D5) ht5
    refine ⟨v, k, y2, n, ts, rfl, hW6, ok, Tg68.nt hu su (by omega) (by omega), hT6, fun H7 k7 => ⟨_, rfl, ?_⟩⟩
    have hT7 : Tabs Ps H7 := k7.tab
    have D7 := k7.deck hT6 D6
    have hW7 := hW6.tk (k7.tk hT6)
    have ht7 := NTV.tk (k7.tk hT6) ht6
    clear hT5 D5 hW5 ht5 hT6 D6 hW6 ht6 k7 K6 hu
    -- ten bent ones
    refine ⟨10, rfl, by decide, by decide, ?_⟩
    refine for_range (lo := 0) (n := 10) (fun j σ' H' => ∃ y6 : Option V, σ' = [some (.ref sc), some (.ref d), some (.int (0 + (i : Nat))), some v, some (.int k), some y, y6] ∧ Deck H' d c ∧ Tabs Ps H' ∧ Tk H7 H') ⟨_, rfl, D7, hT7, fun _ _ e => e⟩ ?_ ?_
    · rintro j σ' H8 hj ⟨y6, rfl, D8, hT8, tk8⟩
      have hW8 := hW7.tk tk8
      have ht8 := NTV.tk tk8 ht7
      obtain ⟨wa, wb, us, rfl, hwa, hwb, hp⟩ := id hW8
      refine ⟨.ref wa, rfl, .int k, rfl, .ref d, rfl, y, rfl, .ref wa, rfl, wa, _, 0, .int n, rfl, rfl, SqT.of hwa, rfl, d, c, y, n, 6, t, rfl, D8, ht8, sml, ⟨by omega, by omega⟩, Nat.le_refl _, fun y2 H9 D9 K9 hb => ?_⟩
      have hT9 := hT8.kp K9 D8
      have hW9 := hW8.tk (K9.tk D8)
      obtain ⟨q1, d1, x1, x2, x3, x4⟩ := hb H9 Kp.refl
      refine ⟨.ref wa, k, y2, n, ts, rfl, hW9, ok, ⟨q1, d1, x1, by omega, x3, x4.mono (by omega) (by omega)⟩, hT9, fun H10 k10 => ⟨_, rfl, ?_⟩⟩
      exact ⟨_, rfl, k10.deck hT9 D9, k10.tab, (tk8.trans (K9.tk D8)).trans (k10.tk hT9)⟩
    rintro σ' H8 ⟨y6, rfl, D8, hT8, tk8⟩
    have hW8 := hW7.tk tk8
    have ht8 := NTV.tk tk8 ht7
    clear D7 hT7 hW7 ht7 tk8
    -- a great number of sides
    refine ⟨v, rfl, 10, 40, rfl, rfl, ⟨by decide, by decide, by decide⟩, y, rfl, v, _, y, n, ts, t.q, rfl, hW8, ok, ht8.qs68 sml, by rw [NT.q_dep]; omega, hT8, fun H9 k9 => ?_⟩
    have hT9 : Tabs Ps H9 := k9.tab
    have D9 := k9.deck hT8 D8
    have hW9 := hW8.tk (k9.tk hT8)
    have ht9 := NTV.tk (k9.tk hT8) ht8
    refine ⟨v, rfl, 10, 40, rfl, rfl, ⟨by decide, by decide, by decide⟩, y, rfl, v, _, y, n, ts, t.q, rfl, hW9, ⟨by omega, by omega⟩, ok.ok, ht9.qs68 sml, by rw [NT.q_dep]; omega, fun H10 s10 => ?_⟩
    refine ⟨_, rfl, _, rfl, ?_⟩
    have hT10 := hT9.same s10
    have D10 := D9.same s10
    have hW10 := hW9.tk (Same.tk s10)
    refine ⟨v, rfl, .int k, rfl, .ref d, rfl, d, c, rfl, D10, fun z H11 D11 K11 hz => ?_⟩
    have hT11 := hT10.kp K11 D10
    have hW11 := hW10.tk (K11.tk D10)
    refine ⟨v, k, z, n, ts, rfl, hW11, ok, Tg68.of67 (hz H11 Kp.refl), hT11, fun H12 k12 => ⟨_, rfl, ?_⟩⟩
    exact ⟨_, _, _, _, _, rfl, k12.deck hT11 D11, k12.tab⟩
end
/-- where a def stands, and where its code object does -/
structure At (K : PySem.W.Frag) (x : Str) (st : Stmt) (f : Addr) : Prop where
  ns : PySem.W.nsIn K mainGlobals x = some (some (.ref f))
  ex : ∃ (oc : Value) (od : Option Addr) (kV doc pm : Value) (an : Option Addr) (cdv ct : Value) (osl : Array (Option Value)),
    K.lookup f = some ⟨oc, od, .func (PySem.W.fnOf x x (defArgs st) (defBody st) (defScope st) .none kV doc pm an cdv ct), osl⟩ ∧ PySem.W.codeIn K cdv x = true
  kp : PySem.W.keepIn K (.ref f) = true
theorem at_mk {K : PySem.W.Frag} {x : Str} {st : Stmt} {f : Addr} {oc : Value} {od an : Option Addr} {osl : Array (Option Value)} {kV doc pm cdv ct : Value} (a : PySem.W.nsIn K mainGlobals x = some (some (.ref f)))
    (l : K.lookup f = some ⟨oc, od, .func (PySem.W.fnOf x x (defArgs st) (defBody st) (defScope st) .none kV doc pm an cdv ct), osl⟩) (c : PySem.W.codeIn K cdv x = true) (k : PySem.W.keepIn K (.ref f) = true) : At K x st f := ⟨a, ⟨oc, od, kV, doc, pm, an, cdv, ct, osl, l, c⟩, k⟩
theorem At.fn {K : PySem.W.Frag} {x : Str} {st : Stmt} {f : Addr} (h : At K x st f) : ∃ fd, Fun K x x st f fd := by
  obtain ⟨oc, od, kV, doc, pm, an, cdv, ct, osl, l, c⟩ := h.ex
  exact ⟨_, fun_mk l c h.kp⟩
structure AtC (K : PySem.W.Frag) (x : Str) (st : Stmt) (f c Pt : Addr) : Prop where
  ns : PySem.W.nsIn K mainGlobals x = some (some (.ref f))
  ex : ∃ (oc : Value) (od : Option Addr) (kV doc pm : Value) (an : Option Addr) (ct : Value) (osl : Array (Option Value)),
    K.lookup f = some ⟨oc, od, .func (PySem.W.fnOf x x (defArgs st) (defBody st) (defScope st) .none kV doc pm an (.ref c) ct), osl⟩ ∧ PySem.W.codeIn K (.ref c) x = true
  kp : PySem.W.keepIn K (.ref f) = true
  co : ∃ (dd : Option Addr) (vs : Array Value) (sl : Array (Option Value)) (file : Str) (tf : Tok) (flags : Int) (tg : Tok) (inF : Bool) (text : Int) (tt : Tok), K.lookup c = some ⟨.type "code", dd, .fields vs, sl⟩ ∧ vs[11]? = some (.ref Pt) ∧ vs.getD 11 .none = .ref Pt ∧ vs.getD 18 .none = .str file tf ∧
    vs.getD 7 .none = .int flags tg ∧ vs.getD 9 .none = .bool inF ∧ vs.getD 10 .none = .int text tt ∧ c ≠ Pt
  nP : K.lookup Pt = none
theorem atC_mk {K : PySem.W.Frag} {x : Str} {st : Stmt} {f c Pt : Addr} {oc : Value} {od an dd : Option Addr} {osl sl : Array (Option Value)} {kV doc pm ct : Value} {vs : Array Value} {file : Str} {tf tg tt : Tok} {flags text : Int} {inF : Bool} (a : PySem.W.nsIn K mainGlobals x = some (some (.ref f)))
    (l : K.lookup f = some ⟨oc, od, .func (PySem.W.fnOf x x (defArgs st) (defBody st) (defScope st) .none kV doc pm an (.ref c) ct), osl⟩) (cc : PySem.W.codeIn K (.ref c) x = true) (k : PySem.W.keepIn K (.ref f) = true)
    (lc : K.lookup c = some ⟨.type "code", dd, .fields vs, sl⟩) (v11 : vs[11]? = some (.ref Pt)) (w11 : vs.getD 11 .none = .ref Pt) (v18 : vs.getD 18 .none = .str file tf) (v7 : vs.getD 7 .none = .int flags tg) (v9 : vs.getD 9 .none = .bool inF) (v10 : vs.getD 10 .none = .int text tt) (ne : c ≠ Pt)
    (nP : K.lookup Pt = none) : AtC K x st f c Pt := ⟨a, ⟨oc, od, kV, doc, pm, an, ct, osl, l, cc⟩, k, ⟨dd, vs, sl, file, tf, flags, tg, inF, text, tt, lc, v11, w11, v18, v7, v9, v10, ne⟩, nP⟩
theorem AtC.fn {K : PySem.W.Frag} {x : Str} {st : Stmt} {f c Pt : Addr} (h : AtC K x st f c Pt) : ∃ fd, FunC K x x st f fd c := by
  obtain ⟨oc, od, kV, doc, pm, an, ct, osl, l, cc⟩ := h.ex
  exact ⟨_, ⟨oc, od, kV, doc, pm, an, ct, osl, rfl, l, cc⟩, h.kp⟩
theorem AtC.hd {K : PySem.W.Frag} {h : Heap} {x : Str} {st : Stmt} {f c Pt : Addr} (a : AtC K x st f c Pt) (X : K.In h) : PySem.W.CodeHd h c Pt := by
  obtain ⟨dd, vs, sl, file, tf, flags, tg, inF, text, tt, lc, v11, w11, v18, v7, v9, v10, ne⟩ := a.co
  exact ⟨_, vs, file, tf, flags, tg, inF, text, tt, X _ _ lc, rfl, rfl, v11, w11, v18, v7, v9, v10, ne⟩
theorem AtC.tab {K : PySem.W.Frag} {h : Heap} {x : Str} {st : Stmt} {f c Pt : Addr} (a : AtC K x st f c Pt) (o : LamX.OwnTab K f h) : h.get? Pt = some { cls := .none, data := .fields #[] } := by
  obtain ⟨oc, od, kV, doc, pm, an, ct, osl, l, cc⟩ := a.ex
  obtain ⟨dd, vs, sl, file, tf, flags, tg, inF, text, tt, lc, v11, w11, v18, v7, v9, v10, ne⟩ := a.co
  exact o c Pt _ _ _ _ _ _ l rfl rfl lc v11
section
variable {P : Program} {w : World} {K : PySem.W.Frag} {mg : Str → Option Value} {base : Heap}
theorem Df.of {x : Str} {st : Stmt} {f : Addr} {fd : FuncData} {k : Nat} {ps : List Str} {sp : Sp} (g : mg x = some (.ref f)) (F : Fun K x x st f fd) (G : FnOk P w K mg base CX0 k f fd ps sp)
    (h : ∀ (kV doc pm : Value) (an : Option Addr) (cdv ct : Value) (us : List Value), us.length = ps.length → bindArgs (PySem.W.fnOf x x (defArgs st) (defBody st) (defScope st) .none kV doc pm an cdv ct) ⟨us, []⟩ = pure (ps.zip us)) : Df P w K mg base k x ps sp :=
  ⟨f, fd, G, g, F.kp, F.binds h⟩
end
/-! ### what the top has written -/
section
variable {P : Program} {w : World} {K : PySem.W.Frag} {mg : Str → Option Value} {base : Heap}
set_option maxHeartbeats 0 in
theorem law_at {l : PySem.W.OpenLaw} {w : World} {K : PySem.W.Frag} {h : Heap} {mg : Str → Option Value} {fa f0 f1 f2 f3 f4 f5 f6 f7 f8 f9 f10 f11 f12 f13 f14 f15 f16 f17 f18 f19 f20 f21 f22 f23 f24 f25 f26 f27 f28 f29 f30 f31 c7 P7 c10 P10 : Addr} (X : K.In h) (G : h.Ns mainGlobals mg) (hfa : mg "law" = some (.ref fa))
    (t7 : ∀ (fy : Addr), mg "are_rising_below" = some (.ref fy) → LamX.OwnTab K fy h)
    (t10 : ∀ (fy : Addr), mg "crowd_holds" = some (.ref fy) → LamX.OwnTab K fy h)
    (a0 : At K "neighbours" s_neighbours f0)
    (a1 : At K "sides_from" s_sides_from f1)
    (a2 : At K "parts_of" s_parts_of f2)
    (a3 : At K "is_whole" s_is_whole f3)
    (a4 : At K "is_whole_below" s_is_whole_below f4)
    (a5 : At K "are_unlike_places" s_are_unlike_places f5)
    (a6 : At K "is_tuple_of" s_is_tuple_of f6)
    (a7 : AtC K "are_rising_below" s_are_rising_below f7 c7 P7)
    (a8 : At K "friends_of" s_friends_of f8)
    (a9 : At K "heads_of" s_heads_of f9)
    (a10 : AtC K "crowd_holds" s_crowd_holds f10 c10 P10)
    (a11 : At K "clash_holds" s_clash_holds f11)
    (a12 : At K "case_holds" s_case_holds f12)
    (a13 : At K "paper_holds" s_paper_holds f13)
    (a14 : At K "none_holds" s_none_holds f14)
    (a15 : At K "_law_deck" s_l_deck f15)
    (a16 : At K "_law_draw" s_l_draw f16)
    (a17 : At K "_law_groups" s_l_groups f17)
    (a18 : At K "_law_is_place" s_l_is_place f18)
    (a19 : At K "_law_crowd" s_l_crowd f19)
    (a20 : At K "_law_clash" s_l_clash f20)
    (a21 : At K "_law_none" s_l_none f21)
    (a22 : At K "_law_small_web" s_l_small_web f22)
    (a23 : At K "_law_crowds" s_l_crowds f23)
    (a24 : At K "_law_made" s_l_made f24)
    (a25 : At K "_law_odd" s_l_odd f25)
    (a26 : At K "_law_same" s_l_same f26)
    (a27 : At K "_law_within" s_l_within f27)
    (a28 : At K "_law_number" s_l_number f28)
    (a29 : At K "_law_bent" s_l_bent f29)
    (a30 : At K "_law_right" s_l_right f30)
    (a31 : At K "law" s_law f31)
    (z0 : PySem.W.nsIn K mainGlobals "len" = some none)
    (z1 : PySem.W.nsIn K mainGlobals "int" = some none)
    (z2 : PySem.W.nsIn K mainGlobals "bool" = some none)
    (z3 : PySem.W.nsIn K mainGlobals "str" = some none)
    (z4 : PySem.W.nsIn K mainGlobals "list" = some none)
    (z5 : PySem.W.nsIn K mainGlobals "tuple" = some none)
    (z6 : PySem.W.nsIn K mainGlobals "range" = some none)
    (z7 : PySem.W.nsIn K mainGlobals "isinstance" = some none)
    (z8 : PySem.W.nsIn K mainGlobals "sum" = some none)
    (z9 : PySem.W.nsIn K mainGlobals "all" = some none)
    (z10 : PySem.W.nsIn K mainGlobals "max" = some none)
    (z11 : PySem.W.nsIn K mainGlobals "min" = some none)
    (z12 : PySem.W.nsIn K mainGlobals "repr" = some none)
    (z13 : PySem.W.nsIn K mainGlobals "set" = some none)
    (z14 : PySem.W.nsIn K mainGlobals "sorted" = some none)
    (z15 : PySem.W.nsIn K mainGlobals "zip" = some none)
     :
    GoesT l.prog w K mg 193 fa "_law_script" 63 h := by
  have efa := hfa.symm.trans (PySem.W.mg_of X G a31.ns)
  cases efa
  have M : Free mg := ⟨PySem.W.mg_none_of X G z0, PySem.W.mg_none_of X G z1, PySem.W.mg_none_of X G z2, PySem.W.mg_none_of X G z3, PySem.W.mg_none_of X G z4, PySem.W.mg_none_of X G z5, PySem.W.mg_none_of X G z6, PySem.W.mg_none_of X G z7, PySem.W.mg_none_of X G z8⟩
  have m_all := PySem.W.mg_none_of X G z9
  have m_max := PySem.W.mg_none_of X G z10
  have m_min := PySem.W.mg_none_of X G z11
  have m_repr := PySem.W.mg_none_of X G z12
  have m_set := PySem.W.mg_none_of X G z13
  have m_sorted := PySem.W.mg_none_of X G z14
  have m_zip := PySem.W.mg_none_of X G z15
  obtain ⟨d0, F0⟩ := a0.fn
  obtain ⟨d1, F1⟩ := a1.fn
  obtain ⟨d2, F2⟩ := a2.fn
  obtain ⟨d3, F3⟩ := a3.fn
  obtain ⟨d4, F4⟩ := a4.fn
  obtain ⟨d5, F5⟩ := a5.fn
  obtain ⟨d6, F6⟩ := a6.fn
  obtain ⟨d7, F7⟩ := a7.fn
  obtain ⟨d8, F8⟩ := a8.fn
  obtain ⟨d9, F9⟩ := a9.fn
  obtain ⟨d10, F10⟩ := a10.fn
  obtain ⟨d11, F11⟩ := a11.fn
  obtain ⟨d12, F12⟩ := a12.fn
  obtain ⟨d13, F13⟩ := a13.fn
  obtain ⟨d14, F14⟩ := a14.fn
  obtain ⟨d15, F15⟩ := a15.fn
  obtain ⟨d16, F16⟩ := a16.fn
  obtain ⟨d17, F17⟩ := a17.fn
  obtain ⟨d18, F18⟩ := a18.fn
  obtain ⟨d19, F19⟩ := a19.fn
  obtain ⟨d20, F20⟩ := a20.fn
  obtain ⟨d21, F21⟩ := a21.fn
  obtain ⟨d22, F22⟩ := a22.fn
  obtain ⟨d23, F23⟩ := a23.fn
  obtain ⟨d24, F24⟩ := a24.fn
  obtain ⟨d25, F25⟩ := a25.fn
  obtain ⟨d26, F26⟩ := a26.fn
  obtain ⟨d27, F27⟩ := a27.fn
  obtain ⟨d28, F28⟩ := a28.fn
  obtain ⟨d29, F29⟩ := a29.fn
  obtain ⟨d30, F30⟩ := a30.fn
  obtain ⟨d31, F31⟩ := a31.fn
  have g0 := PySem.W.mg_of X G a0.ns
  have g1 := PySem.W.mg_of X G a1.ns
  have g2 := PySem.W.mg_of X G a2.ns
  have g3 := PySem.W.mg_of X G a3.ns
  have g4 := PySem.W.mg_of X G a4.ns
  have g5 := PySem.W.mg_of X G a5.ns
  have g6 := PySem.W.mg_of X G a6.ns
  have g7 := PySem.W.mg_of X G a7.ns
  have g8 := PySem.W.mg_of X G a8.ns
  have g9 := PySem.W.mg_of X G a9.ns
  have g10 := PySem.W.mg_of X G a10.ns
  have g11 := PySem.W.mg_of X G a11.ns
  have g12 := PySem.W.mg_of X G a12.ns
  have g13 := PySem.W.mg_of X G a13.ns
  have g14 := PySem.W.mg_of X G a14.ns
  have g15 := PySem.W.mg_of X G a15.ns
  have g16 := PySem.W.mg_of X G a16.ns
  have g17 := PySem.W.mg_of X G a17.ns
  have g18 := PySem.W.mg_of X G a18.ns
  have g19 := PySem.W.mg_of X G a19.ns
  have g20 := PySem.W.mg_of X G a20.ns
  have g21 := PySem.W.mg_of X G a21.ns
  have g22 := PySem.W.mg_of X G a22.ns
  have g23 := PySem.W.mg_of X G a23.ns
  have g24 := PySem.W.mg_of X G a24.ns
  have g25 := PySem.W.mg_of X G a25.ns
  have g26 := PySem.W.mg_of X G a26.ns
  have g27 := PySem.W.mg_of X G a27.ns
  have g28 := PySem.W.mg_of X G a28.ns
  have g29 := PySem.W.mg_of X G a29.ns
  have g30 := PySem.W.mg_of X G a30.ns
  have hb0 : ∀ (s : Shared) (u : Value), BindsTo s d31 ⟨[u], []⟩ [("_law_script", u)] := by
    obtain ⟨oc, od, kV, doc, pm, an, cdv, ct, osl, rfl, _⟩ := F31.ex
    exact fun s u => .of_eq rfl
  refine ⟨d31, [(c7, P7), (c10, P10)], (spLaw K [P7, P10]), (List.forall_mem_cons.mpr ⟨a7.tab (t7 _ g7), (List.forall_mem_cons.mpr ⟨a10.tab (t10 _ g10), (fun p hp => by simp at hp)⟩)⟩), (List.forall_mem_cons.mpr ⟨a7.nP, (List.forall_mem_cons.mpr ⟨a10.nP, (fun p hp => by simp at hp)⟩)⟩), (List.forall_mem_cons.mpr ⟨a7.hd X, (List.forall_mem_cons.mpr ⟨a10.hd X, (fun p hp => by simp at hp)⟩)⟩), hb0, fun H a ns hl hT hS => ⟨a, ns, rfl, hS, hl, (List.forall_mem_cons.mpr ⟨⟨#[], hT (c7, P7) (by simp), by trivial⟩, (List.forall_mem_cons.mpr ⟨⟨#[], hT (c10, P10) (by simp), by trivial⟩, (fun p hp => by simp at hp)⟩)⟩), fun _ => rfl⟩, fun base KB GB TB => ?_⟩
  have tb7 := TB (c7, P7) (by simp)
  have tb10 := TB (c10, P10) (by simp)
  have D0 : Df l.prog w K mg base 1 "neighbours" ["web"] spNeighbours := .of g0 F0 (ok_neighbours F0 M) fun _ _ _ _ _ _ us hl => match us, hl with | [_], _ => rfl
  have D1 : Df l.prog w K mg base 1 "sides_from" ["start", "around"] spSidesFrom := .of g1 F1 (ok_sides_from F1 M) fun _ _ _ _ _ _ us hl => match us, hl with | [_, _], _ => rfl
  have D2 : Df l.prog w K mg base 2 "parts_of" ["web"] spPartsOf := .of g2 F2 (ok_parts_of F2 M m_sorted D0 D1) fun _ _ _ _ _ _ us hl => match us, hl with | [_], _ => rfl
  have D3 : Df l.prog w K mg base 1 "is_whole" ["thing"] spWhole := .of g3 F3 (ok_is_whole F3 M) fun _ _ _ _ _ _ us hl => match us, hl with | [_], _ => rfl
  have D4 : Df l.prog w K mg base 2 "is_whole_below" ["limit", "thing"] spBelow := .of g4 F4 (ok_is_whole_below F4 D3) fun _ _ _ _ _ _ us hl => match us, hl with | [_, _], _ => rfl
  have D5 : Df l.prog w K mg base 3 "are_unlike_places" ["many", "one", "other"] spUnlikePl := .of g5 F5 (ok_are_unlike_places F5 D4) fun _ _ _ _ _ _ us hl => match us, hl with | [_, _, _], _ => rfl
  have D6 : Df l.prog w K mg base 1 "is_tuple_of" ["length", "thing"] spTupleOf := .of g6 F6 (ok_is_tuple_of F6 M) fun _ _ _ _ _ _ us hl => match us, hl with | [_, _], _ => rfl
  have D7 : Df l.prog w K mg base 4 "are_rising_below" ["limit", "thing"] (spRising [P7, P10]) := .of g7 F7.fn (ok_are_rising_below F7 ⟨tb7.code, tb7.bm, tb7.gP⟩ (show P7 ∈ [P7, P10] by simp) M m_all m_zip D4) fun _ _ _ _ _ _ us hl => match us, hl with | [_, _], _ => rfl
  have D8 : Df l.prog w K mg base 3 "friends_of" ["web"] spFriends := .of g8 F8 (ok_friends_of F8 M D2) fun _ _ _ _ _ _ us hl => match us, hl with | [_], _ => rfl
  have D9 : Df l.prog w K mg base 4 "heads_of" ["web"] spHeads := .of g9 F9 (ok_heads_of F9 D8) fun _ _ _ _ _ _ us hl => match us, hl with | [_], _ => rfl
  have D10 : Df l.prog w K mg base 6 "crowd_holds" ["k", "heads", "foes", "thing"] (spCrowdH [P7, P10]) := .of g10 F10.fn (ok_crowd_holds F10 ⟨tb10.code, tb10.bm, tb10.gP⟩ (show P10 ∈ [P7, P10] by simp) M m_all m_set D7) fun _ _ _ _ _ _ us hl => match us, hl with | [_, _, _, _], _ => rfl
  have D11 : Df l.prog w K mg base 4 "clash_holds" ["heads", "foes", "one", "other"] spClashH := .of g11 F11 (ok_clash_holds F11 M D5) fun _ _ _ _ _ _ us hl => match us, hl with | [_, _, _, _], _ => rfl
  have D12 : Df l.prog w K mg base 1 "case_holds" ["k", "heads", "foes", "thing"] (fun _ _ _ _ => False) := .of g12 F12 (⟨fun vs H Q E h => h.elim, fun B out z H ar us vs Q E _ _ _ _ h => h.elim⟩) fun _ _ _ _ _ _ us hl => match us, hl with | [_, _, _, _], _ => rfl
  have D13 : Df l.prog w K mg base 190 "paper_holds" ["k", "heads", "foes", "thing"] (spPaperH [P7, P10] 90) := .of g13 F13 (ok_papers66 F13 F12 M g13 g12 (F13.binds fun _ _ _ _ _ _ us hl => match us, hl with | [_, _, _, _], _ => rfl) (F12.binds fun _ _ _ _ _ _ us hl => match us, hl with | [_, _, _, _], _ => rfl) D6 D10 D11 D5 91) fun _ _ _ _ _ _ us hl => match us, hl with | [_, _, _, _], _ => rfl
  have D14 : Df l.prog w K mg base 191 "none_holds" ["web", "k", "thing"] (spNoneH [P7, P10]) := .of g14 F14 (ok_none_holds F14 D9 D13) fun _ _ _ _ _ _ us hl => match us, hl with | [_, _, _], _ => rfl
  have D15 : Df l.prog w K mg base 1 "_law_deck" ["_law_script"] (spDeck K) := .of g15 F15 (ok_l_deck F15 M) fun _ _ _ _ _ _ us hl => match us, hl with | [_], _ => rfl
  have D16 : Df l.prog w K mg base 1 "_law_draw" ["_law_deck_here", "_law_most"] spDraw := .of g16 F16 (ok_l_draw F16) fun _ _ _ _ _ _ us hl => match us, hl with | [_, _], _ => rfl
  have D17 : Df l.prog w K mg base 1 "_law_groups" ["_law_web", "_law_kinds"] spGroups2 := .of g17 F17 (okL_l_groups F17 M m_min m_max) fun _ _ _ _ _ _ us hl => match us, hl with | [_, _], _ => rfl
  have D18 : Df l.prog w K mg base 1 "_law_is_place" ["_law_web", "_law_thing"] spIsPl := .of g18 F18 (ok_l_is_place F18 M) fun _ _ _ _ _ _ us hl => match us, hl with | [_, _], _ => rfl
  have D19 : Df l.prog w K mg base 2 "_law_crowd" ["_law_web", "_law_k", "_law_places"] spLCrowd := .of g19 F19 (ok_l_crowd F19 M m_sorted m_set D18 D17) fun _ _ _ _ _ _ us hl => match us, hl with | [_, _, _], _ => rfl
  have D20 : Df l.prog w K mg base 2 "_law_clash" ["_law_web", "_law_one", "_law_other"] spLClash := .of g20 F20 (ok_l_clash F20 D18 D17) fun _ _ _ _ _ _ us hl => match us, hl with | [_, _, _], _ => rfl
  have D21 : Df l.prog w K mg base 3 "_law_none" ["_law_web", "_law_k", "_law_thing"] spLNone := .of g21 F21 (ok_l_none F21 M D19 D20 D18) fun _ _ _ _ _ _ us hl => match us, hl with | [_, _, _], _ => rfl
  have D22 : Df l.prog w K mg base 2 "_law_small_web" ["_law_deck_here"] spWebS := .of g22 F22 (ok_l_small_web F22 M D16) fun _ _ _ _ _ _ us hl => match us, hl with | [_], _ => rfl
  have D23 : Df l.prog w K mg base 1 "_law_crowds" ["_law_web", "_law_k", "_law_groups_here"] spCrowds := .of g23 F23 (ok_l_crowds F23 M m_max) fun _ _ _ _ _ _ us hl => match us, hl with | [_, _, _], _ => rfl
  have D24 : Df l.prog w K mg base 9 "_law_made" ["_law_deck_here", "_law_web", "_law_k", "_law_deep"] (spMade 6) := .of g24 F24 (ok_made68 F24 M m_sorted g24 (F24.binds fun _ _ _ _ _ _ us hl => match us, hl with | [_, _, _, _], _ => rfl) D17 D16 D23 7) fun _ _ _ _ _ _ us hl => match us, hl with | [_, _, _, _], _ => rfl
  have D25 : Df l.prog w K mg base 2 "_law_odd" ["_law_deck_here"] (spOdd67 K) := .of g25 F25 (ok_l_odd F25 D16) fun _ _ _ _ _ _ us hl => match us, hl with | [_], _ => rfl
  have D26 : Df l.prog w K mg base 1 "_law_same" ["_law_found", "_law_due"] spSameB := .of g26 F26 (ok_l_same F26 M) fun _ _ _ _ _ _ us hl => match us, hl with | [_, _], _ => rfl
  have D27 : Df l.prog w K mg base 2 "_law_within" ["_law_deck_here", "_law_web", "_law_paper"] spWithin := .of g27 F27 (ok_l_within F27 M D16) fun _ _ _ _ _ _ us hl => match us, hl with | [_, _, _], _ => rfl
  have D28 : Df l.prog w K mg base 3 "_law_number" ["_law_deck_here", "_law_many"] (spNum67 K) := .of g28 F28 (ok_l_number F28 D16 D25) fun _ _ _ _ _ _ us hl => match us, hl with | [_, _], _ => rfl
  have D29 : Df l.prog w K mg base 11 "_law_bent" ["_law_deck_here", "_law_paper", "_law_many", "_law_deep"] (spBent67 K 6) := .of g29 F29 (ok_bent67 F29 M g29 (F29.binds fun _ _ _ _ _ _ us hl => match us, hl with | [_, _, _, _], _ => rfl) D16 D25 D28 7) fun _ _ _ _ _ _ us hl => match us, hl with | [_, _, _, _], _ => rfl
  have D30 : DfG l.prog w K mg base 192 "_law_right" ["_law_web", "_law_k", "_law_thing"] (spRight67 K [P7, P10]) := .of g30 F30 (ok_l_right F30 m_max m_repr D21 D14 D26) fun _ _ _ _ _ _ us hl => match us, hl with | [_, _, _], _ => rfl
  exact ok_law F31 M D15 D22 D16 D24 D27 D30 D29 D21 D14 D26 D25
end
end FF
open PySem PySem.W PyProof.Rows
set_option maxRecDepth 100000 in
set_option maxHeartbeats 0 in
theorem PySem.Challenge.cw_friendfoe_k67_papers_that_none_do_holds : PySem.Challenge.rw_friendfoe_k67_papers_that_none_do.Holds := by
  w_on; o_law; k_head; (case hw => w_witness2)
  k_fill
  refine FF.walk_gt (l := PySem.Challenge.rw_friendfoe_k67_papers_that_none_do) (n := 63) (k := 193) (x := "_law_script") rfl (by decide) rfl ⟨rfl, by decide, by decide⟩ (fun w h Y => PySem.W.kIn_of Y) ?F
  case F =>
    intro w mg fa h KX G hmg tabs
    refine' FF.law_at KX G hmg (fun fy => tabs "are_rising_below" fy ?r7) (fun fy => tabs "crowd_holds" fy ?r10) ?a0 ?a1 ?a2 ?a3 ?a4 ?a5 ?a6 ?a7 ?a8 ?a9 ?a10 ?a11 ?a12 ?a13 ?a14 ?a15 ?a16 ?a17 ?a18 ?a19 ?a20 ?a21 ?a22 ?a23 ?a24 ?a25 ?a26 ?a27 ?a28 ?a29 ?a30 ?a31 ?z0 ?z1 ?z2 ?z3 ?z4 ?z5 ?z6 ?z7 ?z8 ?z9 ?z10 ?z11 ?z12 ?z13 ?z14 ?z15 
    (case r7 => rfl)
    (case r10 => rfl)
    (case a0 => refine' FF.at_mk ?p1 ?p2 ?p3 ?p4; (case p1 => k_is); (case p2 => k_is); (case p3 => k_is); (case p4 => k_is))
    (case a1 => refine' FF.at_mk ?p1 ?p2 ?p3 ?p4; (case p1 => k_is); (case p2 => k_is); (case p3 => k_is); (case p4 => k_is))
    (case a2 => refine' FF.at_mk ?p1 ?p2 ?p3 ?p4; (case p1 => k_is); (case p2 => k_is); (case p3 => k_is); (case p4 => k_is))
    (case a3 => refine' FF.at_mk ?p1 ?p2 ?p3 ?p4; (case p1 => k_is); (case p2 => k_is); (case p3 => k_is); (case p4 => k_is))
    (case a4 => refine' FF.at_mk ?p1 ?p2 ?p3 ?p4; (case p1 => k_is); (case p2 => k_is); (case p3 => k_is); (case p4 => k_is))
    (case a5 => refine' FF.at_mk ?p1 ?p2 ?p3 ?p4; (case p1 => k_is); (case p2 => k_is); (case p3 => k_is); (case p4 => k_is))
    (case a6 => refine' FF.at_mk ?p1 ?p2 ?p3 ?p4; (case p1 => k_is); (case p2 => k_is); (case p3 => k_is); (case p4 => k_is))
    (case a7 => refine' FF.atC_mk ?p1 ?p2 ?p3 ?p4 ?p5 ?p6 ?p7 ?p8 ?p9 ?p10 ?p11 ?p12 ?p13; (case p1 => k_is); (case p2 => k_is); (case p3 => k_is); (case p4 => k_is); (case p5 => k_is); (case p6 => rfl); (case p7 => rfl); (case p8 => rfl); (case p9 => rfl); (case p10 => rfl); (case p11 => rfl); (case p12 => decide); (case p13 => rfl))
    (case a8 => refine' FF.at_mk ?p1 ?p2 ?p3 ?p4; (case p1 => k_is); (case p2 => k_is); (case p3 => k_is); (case p4 => k_is))
    (case a9 => refine' FF.at_mk ?p1 ?p2 ?p3 ?p4; (case p1 => k_is); (case p2 => k_is); (case p3 => k_is); (case p4 => k_is))
    (case a10 => refine' FF.atC_mk ?p1 ?p2 ?p3 ?p4 ?p5 ?p6 ?p7 ?p8 ?p9 ?p10 ?p11 ?p12 ?p13; (case p1 => k_is); (case p2 => k_is); (case p3 => k_is); (case p4 => k_is); (case p5 => k_is); (case p6 => rfl); (case p7 => rfl); (case p8 => rfl); (case p9 => rfl); (case p10 => rfl); (case p11 => rfl); (case p12 => decide); (case p13 => rfl))
    (case a11 => refine' FF.at_mk ?p1 ?p2 ?p3 ?p4; (case p1 => k_is); (case p2 => k_is); (case p3 => k_is); (case p4 => k_is))
    (case a12 => refine' FF.at_mk ?p1 ?p2 ?p3 ?p4; (case p1 => k_is); (case p2 => k_is); (case p3 => k_is); (case p4 => k_is))
    (case a13 => refine' FF.at_mk ?p1 ?p2 ?p3 ?p4; (case p1 => k_is); (case p2 => k_is); (case p3 => k_is); (case p4 => k_is))
    (case a14 => refine' FF.at_mk ?p1 ?p2 ?p3 ?p4; (case p1 => k_is); (case p2 => k_is); (case p3 => k_is); (case p4 => k_is))
    (case a15 => refine' FF.at_mk ?p1 ?p2 ?p3 ?p4; (case p1 => k_is); (case p2 => k_is); (case p3 => k_is); (case p4 => k_is))
    (case a16 => refine' FF.at_mk ?p1 ?p2 ?p3 ?p4; (case p1 => k_is); (case p2 => k_is); (case p3 => k_is); (case p4 => k_is))
    (case a17 => refine' FF.at_mk ?p1 ?p2 ?p3 ?p4; (case p1 => k_is); (case p2 => k_is); (case p3 => k_is); (case p4 => k_is))
    (case a18 => refine' FF.at_mk ?p1 ?p2 ?p3 ?p4; (case p1 => k_is); (case p2 => k_is); (case p3 => k_is); (case p4 => k_is))
    (case a19 => refine' FF.at_mk ?p1 ?p2 ?p3 ?p4; (case p1 => k_is); (case p2 => k_is); (case p3 => k_is); (case p4 => k_is))
    (case a20 => refine' FF.at_mk ?p1 ?p2 ?p3 ?p4; (case p1 => k_is); (case p2 => k_is); (case p3 => k_is); (case p4 => k_is))
    (case a21 => refine' FF.at_mk ?p1 ?p2 ?p3 ?p4; (case p1 => k_is); (case p2 => k_is); (case p3 => k_is); (case p4 => k_is))
    (case a22 => refine' FF.at_mk ?p1 ?p2 ?p3 ?p4; (case p1 => k_is); (case p2 => k_is); (case p3 => k_is); (case p4 => k_is))
    (case a23 => refine' FF.at_mk ?p1 ?p2 ?p3 ?p4; (case p1 => k_is); (case p2 => k_is); (case p3 => k_is); (case p4 => k_is))
    (case a24 => refine' FF.at_mk ?p1 ?p2 ?p3 ?p4; (case p1 => k_is); (case p2 => k_is); (case p3 => k_is); (case p4 => k_is))
    (case a25 => refine' FF.at_mk ?p1 ?p2 ?p3 ?p4; (case p1 => k_is); (case p2 => k_is); (case p3 => k_is); (case p4 => k_is))
    (case a26 => refine' FF.at_mk ?p1 ?p2 ?p3 ?p4; (case p1 => k_is); (case p2 => k_is); (case p3 => k_is); (case p4 => k_is))
    (case a27 => refine' FF.at_mk ?p1 ?p2 ?p3 ?p4; (case p1 => k_is); (case p2 => k_is); (case p3 => k_is); (case p4 => k_is))
    (case a28 => refine' FF.at_mk ?p1 ?p2 ?p3 ?p4; (case p1 => k_is); (case p2 => k_is); (case p3 => k_is); (case p4 => k_is))
    (case a29 => refine' FF.at_mk ?p1 ?p2 ?p3 ?p4; (case p1 => k_is); (case p2 => k_is); (case p3 => k_is); (case p4 => k_is))
    (case a30 => refine' FF.at_mk ?p1 ?p2 ?p3 ?p4; (case p1 => k_is); (case p2 => k_is); (case p3 => k_is); (case p4 => k_is))
    (case a31 => refine' FF.at_mk ?p1 ?p2 ?p3 ?p4; (case p1 => k_is); (case p2 => k_is); (case p3 => k_is); (case p4 => k_is))
    (case z0 => k_is)
    (case z1 => k_is)
    (case z2 => k_is)
    (case z3 => k_is)
    (case z4 => k_is)
    (case z5 => k_is)
    (case z6 => k_is)
    (case z7 => k_is)
    (case z8 => k_is)
    (case z9 => k_is)
    (case z10 => k_is)
    (case z11 => k_is)
    (case z12 => k_is)
    (case z13 => k_is)
    (case z14 => k_is)
    (case z15 => k_is)
