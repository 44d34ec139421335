import PyProof.Rows.All
import Wide.All
import OpenK.AllK
import Wide.FinOn
import HandS.ForMost
import HandS.IsInst
import HandS.TupAny
import HandS.TupLe
import HandS.Wide
import HandS.Style
import HandS.SortInts
import HandS.Conv
import HandS.More
import HandS.EndTab
import HandS.EndOwn
import HandS.AnyAll
import HandS.GenOver
import HandS.Evl
import HandS.Walk
import HandS.NoneIn
import HandS.Zip
import HandS.DictComp
import HandS.SetFor
import KE.GoesEnum
import HandS.TupMul
import HandS.Strs
import KE.DataMinMax
import HandS.ForExc
import HandS.ExcIs
import HandS.FStr
import HandS.Text
import KE.KUnpackStar
import HandS.Defaults
import HandS.ExcCtx
import HandS.HotCalls
import PyProof.StrBlock2
import PySem.Challenge.RW_friendfoe_k05_texts_read
set_option Elab.async false
set_option linter.all false
set_option maxRecDepth 100000
namespace FF
open PySem PySem.Spec PyProof.Rows L2
/-! ### heaps: what is kept -/
/-- all that is tracked, but at d and c, is as it was -/
def Kp (d c : Addr) (H H' : Hp) : Prop := ∀ b o, b ≠ d → b ≠ c → H b = some o → H' b = some o
theorem Kp.refl {d c : Addr} {H : Hp} : Kp d c H H := fun _ _ _ _ h => h
theorem Kp.trans {d c : Addr} {H H1 H2 : Hp} (a : Kp d c H H1) (b : Kp d c H1 H2) : Kp d c H H2 := fun x o h1 h2 h => b x o h1 h2 (a x o h1 h2 h)
theorem Kp.at_d {d c : Addr} {H : Hp} {o : HO} : Kp d c H (upd H d o) := fun b u h1 _ h => by rw [upd_ne h1]; exact h
theorem Kp.at_c {d c : Addr} {H : Hp} {o : HO} : Kp d c H (upd H c o) := fun b u _ h2 h => by rw [upd_ne h2]; exact h
theorem Kp.new {d c p : Addr} {H : Hp} {o : HO} (hp : H p = none) : Kp d c H (upd H p o) := fun b u _ _ h => by rw [upd_ne (ne_of_none h hp)]; exact h
theorem same_new {H : Hp} {p : Addr} {o : HO} (h : H p = none) : Same H (upd H p o) := fun b x e => by
  rw [upd_ne (ne_of_none e h)]
  exact e
theorem Same.kp {d c : Addr} {H H' : Hp} (s : Same H H') : Kp d c H H' := fun b o _ _ h => s b o h
/-! ### defs as they are called -/
def Df (P : Program) (w : World) (K : PySem.W.Frag) (mg : Str → Option Value) (base : Heap) (k : Nat) (x : Str) (ps : List Str) (sp : Sp) : Prop :=
  ∃ (f : Addr) (fd : FuncData), FnOk P w K mg base CX0 k f fd ps sp ∧ mg x = some (.ref f) ∧ PySem.W.keepIn K (.ref f) = true ∧ Binds K fd ps []
/-- built-in names that the module has not taken -/
structure Free (mg : Str → Option Value) : Prop where
  len : mg "len" = none
  int : mg "int" = none
  bool : mg "bool" = none
  str : mg "str" = none
  list : mg "list" = none
  tuple : mg "tuple" = none
  range : mg "range" = none
  isinstance : mg "isinstance" = none
  sum : mg "sum" = none
/-! ### the deck -/
structure Deck (H : Hp) (d c : Addr) : Prop where
  ex : ∃ (cells : List Int) (st n : Int), H d = some (.lst [.ref c, .int st, .int n]) ∧ H c = some (.lst (cells.map V.int)) ∧ cells.length ≤ 63
theorem Deck.ne {H : Hp} {d c : Addr} (h : Deck H d c) : d ≠ c := by
  obtain ⟨cells, st, n, h1, h2, _⟩ := h
  intro e
  rw [e, h2] at h1
  have q := HO.lst.inj (Option.some.inj h1)
  cases cells with
  | nil => simp at q
  | cons x r => simp at q
theorem Deck.same {H H' : Hp} {d c : Addr} (h : Deck H d c) (s : Same H H') : Deck H' d c := by
  obtain ⟨cells, st, n, h1, h2, h3⟩ := h
  exact ⟨cells, st, n, s _ _ h1, s _ _ h2, h3⟩
theorem mod_rng {a m : Int} (h : 0 < m) : 0 ≤ a % m ∧ a % m < m := ⟨Int.emod_nonneg a (by omega), Int.emod_lt_of_pos a h⟩
/-- a draw below m: any number from 0 on, less than m -/
def spDraw : Sp := fun vs H Q _ => ∃ (d c : Addr) (m : Int), vs = [.ref d, .int m] ∧ Deck H d c ∧ 0 < m ∧ m.natAbs < 2 ^ 120 ∧
  ∀ v H', 0 ≤ v → v < m → Deck H' d c → Kp d c H H' → Q (.int v) H'
/-! ### a generator expression's own frame -/
/-- the context of a generator's turns: its frame cenv stands over the def's -/
abbrev gX (X : Cx) (s : Shared) (H : Hp) (A' : Around) (cenv : Env) (fp : List Addr) : Cx :=
  { X with A := A', s_0 := s, H_0 := H, env := cenv, outer := X.stack, stack := cenv :: X.stack, ex := fp, fn := fun _ => false, pn := [], xe := fun _ _ => False }
/-- what is asked of the expression's own scope -/
structure GnOk (scope : Scope) : Prop where
  co : scope.isCoroutine = false
  nocell : ∀ y ∈ scope.names, y.2 ≠ .cell
  dot : scope.names.lookup (".0" : Str) = some NameKind.local
section
variable {X : Cx} {pins : List (Addr × Obj)} {σ : L2.St} {H : Hp} {s : Shared}
theorem gen_start {scope : Scope} {own : List (Str × Nat)} {fp : List Addr} {A' : Around} {code : Value} {m0 : Str → Option Value} {h5 : Heap} {g5 : Array GenState} {t5 : Nat} {a : Addr} {go : Obj}
    (I : Inv X pins σ H s) (ok : BlkOk X.N X.env.scope scope own) (gk : GnOk scope) (hN : X.N.Nodup) (hfp : ∀ b ∈ fp, FpOk X pins H b ∧ b < s.heap.objs.size)
    (hA : A'.handled = none) (hF : A'.frames = some (genEnv scope (cloFrom X.env.cells scope.names []) s.heap.objs.size code builtinsNs X.env :: X.stack))
    (kp : ∀ b o, s.heap.get? b = some o → h5.get? b = some o) (hn : h5.Ns s.heap.objs.size m0) (hm0 : ∀ x, x ≠ (".0" : Str) → m0 x = none) (hdN : (".0" : Str) ∉ X.N) (hb5 : AllBare g5)
    (ha : s.heap.objs.size < a) (hgo : h5.get? a = some go) (hgd : ∀ v, go.data ≠ .cell v) :
    Inv (gX X s H A' (genEnv scope (cloFrom X.env.cells scope.names []) s.heap.objs.size code builtinsNs X.env) fp) [(a, go)] (wipe σ (own.map (·.2))) H { s with heap := h5, gens := g5, toks := t5 } := by
  have hfree : ∀ y ∈ scope.names, y.2 = .free → ∃ c, X.env.cells.lookup y.1 = some c := fun y hy e =>
    (ok.free y hy e).elim (fun k => I.ok.has _ (.inl k)) fun k => I.ok.has _ (.inr k)
  have cm : ∀ {y c}, (y, c) ∈ cloFrom X.env.cells scope.names [] → X.env.cells.lookup y = some c ∧ c < s.heap.objs.size := fun {y c} q => by
    rcases cloFrom_mem q with q | ⟨h1, e1⟩
    · cases q
    · obtain ⟨c1, hc1⟩ := hfree _ h1 rfl
      rw [hc1] at e1
      cases e1
      obtain ⟨w1, z1⟩ := I.cell _ _ hc1
      exact ⟨hc1, z1.lt⟩
  have cl : ∀ {y c}, (cloFrom X.env.cells scope.names []).lookup y = some c → X.env.cells.lookup y = some c ∧ c < s.heap.objs.size := fun {y c} e => cm (PySem.mem_of_lookup e)
  have look : ∀ {y}, scope.names.lookup y = some .free → ∃ c, (cloFrom X.env.cells scope.names []).lookup y = some c := fun {y} e =>
    mem_lookup (cloFrom_has (cells := X.env.cells) (acc := []) (PySem.mem_of_lookup e))
  generalize hce : genEnv scope (cloFrom X.env.cells scope.names []) s.heap.objs.size code builtinsNs X.env = ce at hF
  have cL : ce.locals = s.heap.objs.size := by rw [← hce]; rfl
  have cC : ce.cells = cloFrom X.env.cells scope.names [] := by rw [← hce]; rfl
  have cS : ce.scope = scope := by rw [← hce]; rfl
  have cF : ce.frame = some ce.locals := by rw [← hce]; rfl
  have okG : (gX X s H A' ce fp).Ok := by
    refine ⟨I.ok.mod, ?_, ?_, ?_, ?_, fun y z c e1 e2 => ?_, fun y hy => ?_, fun y c z e => ?_, fun _ => hA, hF, .inr ⟨rfl, cF⟩, fun b hb => ⟨?_, fun y c e z => ?_⟩, I.bs, Nat.le_trans I.ok.bsz I.sz, fun b o e hb => ?_, fun b hb z => ?_, I.stack, I.stkFree⟩
    · show ce.scope.kind = _
      rw [cS]
      exact ok.kind
    · show ce.globals = _
      rw [← hce]
      exact I.ok.glob
    · show ce.builtins = _
      rw [← hce]
      rfl
    · show s.heap.objs.size ≤ ce.locals
      rw [cL]
      exact Nat.le_refl _
    · have e1 : ce.cells.lookup y = some c := e1
      have e2 : ce.cells.lookup z = some c := e2
      rw [cC] at e1 e2
      exact I.ok.inj y z c (cl e1).1 (cl e2).1
    · show ∃ c, ce.cells.lookup y = some c
      rw [cC]
      have hy : scope.names.lookup y = some .cell ∨ scope.names.lookup y = some .free := by
        have hy' : ce.scope.names.lookup y = some .cell ∨ ce.scope.names.lookup y = some .free := hy
        rw [cS] at hy'
        exact hy'
      rcases hy with k | k
      · exact absurd rfl (gk.nocell _ (PySem.mem_of_lookup k))
      · exact look k
    · exact absurd (show false = true from z) Bool.false_ne_true
    · show b ≠ ce.locals
      rw [cL]
      exact Nat.ne_of_lt (hfp b hb).2
    · have e : ce.cells.lookup y = some c := e
      rw [cC] at e
      exact (hfp b hb).1.2.2.2.2.1 y c (cl e).1 z
    · rcases (hfp b hb).1.2.2.2.1 with q | q
      · exact I.ok.noex b o e q
      · exact absurd (Nat.lt_of_lt_of_le (Heap.lt_size e) (Nat.le_trans I.ok.bsz q)) (Nat.lt_irrefl _)
    · rcases List.mem_cons.mp (I.stkSub b z) with q | q
      · exact (hfp b hb).1.2.1 q
      · exact (hfp b hb).1.2.2.1 q
  refine ⟨okG, rfl, hb5, Un.kept kp, ⟨m0, ?_, fun i y av e1 e2 e3 => ?_⟩, fun y c e => ?_, ?_, fun y c e => ?_, fun p hp => ?_, I.hok.kept kp, by rw [wipe_length]; exact I.len⟩
  · show Heap.Ns _ ce.locals _
    rw [cL]
    exact hn
  · obtain ⟨e2, hne⟩ := wipe_some e2
    have e3 : Vis ce.scope y := e3
    rw [cS] at e3
    have hfr : scope.names.lookup y = some .free := by
      have no : ∀ k, scope.names.lookup y = some k → ¬ (k = .local ∨ k = .cell) := fun k hk hh => by
        rcases ok.own _ (PySem.mem_of_lookup hk) hh with q | q
        · obtain ⟨p, hp, hpy⟩ := List.mem_map.mp q
          have e4 := ok.ix p hp
          have hpy : p.1 = y := hpy
          rw [hpy] at e4
          exact hne (List.mem_map.mpr ⟨p, hp, nodup_ix hN e4 e1⟩)
        · exact q (List.mem_of_getElem? e1)
      rcases e3 with e3 | e3 | e3
      · exact absurd (.inl rfl) (no _ e3)
      · exact absurd (.inr rfl) (no _ e3)
      · exact e3
    obtain ⟨m, _, hl⟩ := I.loc
    have hvis : Vis X.env.scope y := (ok.free _ (PySem.mem_of_lookup hfr) rfl).elim (fun k => .inr (.inl k)) fun k => .inr (.inr k)
    obtain ⟨w1, r1, q1⟩ := hl i y av e1 e2 hvis
    obtain ⟨c, hc⟩ := look hfr
    refine ⟨w1, r1, .inr ⟨.inr (by show ce.scope.names.lookup y = _; rw [cS]; exact hfr), c, by show ce.cells.lookup y = _; rw [cC]; exact hc, ?_⟩⟩
    rcases q1 with ⟨k, _⟩ | ⟨_, c', e', z⟩
    · have k : X.env.scope.names.lookup y = some .local := k
      rcases ok.free _ (PySem.mem_of_lookup hfr) rfl with k' | k' <;> (have k' : X.env.scope.names.lookup y = _ := k'; rw [k'] at k; cases k)
    · rw [(cl hc).1] at e'
      cases e'
      exact z.keeps kp
  · have e : ce.cells.lookup y = some c := e
    rw [cC] at e
    obtain ⟨w1, z1⟩ := I.cell y c (cl e).1
    exact ⟨w1, z1.keeps kp⟩
  · show H ce.locals = none
    rw [cL]
    exact I.hok.fresh (Nat.le_refl _)
  · have e : ce.cells.lookup y = some c := e
    rw [cC] at e
    exact I.freeC y c (cl e).1
  · have hp : p = (a, go) := by simpa using hp
    subst hp
    refine ⟨hgo, I.hok.fresh (Nat.le_of_lt ha), ?_, fun z => ?_, hgd⟩
    · show a ≠ ce.locals
      rw [cL]
      exact Nat.ne_of_gt ha
    · have z : a ∈ frs X.stack := z
      obtain ⟨_, o, ho, _⟩ := I.stack.mem z
      exact absurd (Nat.lt_trans (Heap.lt_size ho) ha) (Nat.lt_irrefl _)
end
/-! ### all(..), any(..) of a generator, told by what each turn does -/
/-- between a yield and the next turn -/
structure Rs (s s' : Shared) : Prop where
  heap : s'.heap = s.heap
  os : s'.os = s.os
  bare : AllBare s'.gens
  size : s.gens.size ≤ s'.gens.size
theorem inv_gens {X : Cx} {pins : List (Addr × Obj)} {σ : L2.St} {H : Hp} {s s' : Shared} (I : Inv X pins σ H s) (h1 : s'.heap = s.heap) (h2 : s'.os = s.os) (h3 : AllBare s'.gens) : Inv X pins σ H s' := by
  obtain ⟨hh, g, d, t, o⟩ := s'
  have e1 : hh = s.heap := h1
  have e2 : o = s.os := h2
  subst e1 e2
  exact ⟨I.ok, I.os, h3, I.base, I.loc, I.cell, I.free, I.freeC, I.pin, I.hok, I.len⟩
theorem Rs.inv {X : Cx} {pins : List (Addr × Obj)} {σ : L2.St} {H : Hp} {s s' : Shared} (r : Rs s s') (I : Inv X pins σ H s) : Inv X pins σ H s' := by
  obtain ⟨h1, h2, h3, _⟩ := r
  obtain ⟨hh, g, d, t, o⟩ := s'
  have e1 : hh = s.heap := h1
  have e2 : o = s.os := h2
  subst e1 e2
  exact ⟨I.ok, I.os, h3, I.base, I.loc, I.cell, I.free, I.freeC, I.pin, I.hok, I.len⟩
theorem bare_set {gens : Array GenState} (h : AllBare gens) {g : Nat} {x : GenState} (hx : x.bare = true) : AllBare (gens.setIfInBounds g x) := fun y hy => by
  obtain ⟨i, hi, rfl⟩ := Array.mem_iff_getElem.mp hy
  rw [Array.size_setIfInBounds] at hi
  rw [Array.getElem_setIfInBounds hi]
  split
  · exact hx
  · exact h _ (Array.getElem_mem hi)
theorem Rs.set {s : Shared} (hb : AllBare s.gens) {g : Nat} {x : GenState} (hx : x.bare = true) : Rs s (s.setGen g x) :=
  ⟨rfl, rfl, bare_set hb hx, Nat.le_of_eq (GenW.setGen_size s g x).symm⟩
theorem Rs.trans {s s1 s2 : Shared} (a : Rs s s1) (b : Rs s1 s2) : Rs s s2 := ⟨b.heap.trans a.heap, b.os.trans a.os, b.bare, Nat.le_trans a.size b.size⟩
/-- the protocol of a generator whose items are truths: T b: what holds where b comes out -/
def gY (gi : Nat) (a : Addr) (stop : Bool) (Fin : Shared → Prop) : Protocol := fun n s₀ v s kap =>
  ∃ b, v = .bool b ∧ s.heap.IsGen a gi ∧ s.heap.NoLimit ∧ AllBare s.gens ∧ gi < s.gens.size ∧ (b = stop → Fin s) ∧ (b ≠ stop → ∀ s', Rs s s' → kap (.send .none) s')
def gR (End : Shared → Prop) : Nat → Shared → Shared → Prop := fun _ _ s => AllBare s.gens ∧ End s
/-- the generator waits -/
def Waits (prog : Program) (w : World) (A : Around) (gi : Nat) (a : Addr) (stop : Bool) (End Fin : Shared → Prop) (n : Nat) (s : Shared) : Prop :=
  s.heap.IsGen a gi ∧ s.heap.NoLimit ∧ AllBare s.gens ∧ ∃ gs, s.gens[gi]? = some gs ∧
    ∀ s', Rs s s' → gs.Goes (model prog w) A.in1 (fun n s₀ r s₁ => r = .ok .next ∧ gR End n s₀ s₁) (gY gi a stop Fin) n (.send .none) s'
section
variable {prog : Program} {w : World} {A : Around} {gi : Nat} {a : Addr} {stop : Bool} {End Fin : Shared → Prop}
theorem waits_next {n : Nat} {s : Shared} {Q : Option Value → Shared → Prop} {E : Value → Shared → Prop} (hh : A.handled = none) (hroom : A.depth < recursionLimit)
    (hE : ∀ s s' : Shared, End s → s'.os = s.os → AllBare s'.gens → (∀ b o, s.heap.get? b = some o → s'.heap.get? b = some o) → End s')
    (hF : ∀ s s' : Shared, Fin s → s'.os = s.os → AllBare s'.gens → (∀ b o, s.heap.get? b = some o → s'.heap.get? b = some o) → Fin s')
    (W : Waits prog w A gi a stop End Fin n s) (hN : ∀ s', End s' → Q none s') (hS : ∀ s', Fin s' → Q (some (.bool stop)) s')
    (hG : ∀ s' m, m < n → Waits prog w A gi a stop End Fin m s' → Q (some (.bool (!stop))) s') : wpAny (model prog w) A (pyNext (.ref a)) Q E s := by
  obtain ⟨hg, hl, hb, gs, hgs, hgo⟩ := W
  refine wpAny_pyNext_genexpQ (P := gR End) (Y := gY gi a stop Fin) hh hl hroom hg hgs (hgo _ (Rs.set hb rfl)) (fun v s₁ gs' hb' hv => ?_) fun s₁ hp h' hk => ?_
  · obtain ⟨b, rfl, g1, l1, b1, z1, f1, k1⟩ := hv
    by_cases e : b = stop
    · subst e
      exact hS _ (hF _ _ (f1 rfl) rfl (bare_set b1 hb') fun _ _ q => q)
    · have eb : b = !stop := by cases b <;> cases stop <;> first | rfl | exact absurd rfl e
      subst eb
      cases n with
      | zero => exact False.elim (k1 e s₁ ⟨rfl, rfl, b1, Nat.le_refl _⟩)
      | succ m =>
        refine hG _ m (Nat.lt_succ_self m) ⟨g1, l1, bare_set b1 hb', gs', ?_, fun s' r => k1 e s' ((Rs.set b1 hb').trans r)⟩
        show (s₁.gens.setIfInBounds gi gs')[gi]? = some gs'
        rw [Array.getElem?_setIfInBounds_self_of_lt z1]
  · obtain ⟨b1, e1⟩ := hp
    exact hN _ (hE _ _ e1 rfl (bare_set b1 rfl) fun b o q => hk b o q)
end
section
variable {prog : Program} {w : World} {A : Around} {gi : Nat} {a : Addr} {End Fin : Shared → Prop}
theorem all_loop (hh : A.handled = none) (hroom : A.depth < recursionLimit)
    (hE : ∀ s s' : Shared, End s → s'.os = s.os → AllBare s'.gens → (∀ b o, s.heap.get? b = some o → s'.heap.get? b = some o) → End s')
    (hF : ∀ s s' : Shared, Fin s → s'.os = s.os → AllBare s'.gens → (∀ b o, s.heap.get? b = some o → s'.heap.get? b = some o) → Fin s') :
    ∀ (n : Nat) (s : Shared), Waits prog w A.in1 gi a false End Fin n s →
      codeAny (model prog w) A (.builtin "all.loop" ⟨[.ref a], []⟩) (fun r s' => (r = .ok (.ret (.bool true)) ∧ End s') ∨ (r = .ok (.ret (.bool false)) ∧ Fin s')) s := by
  intro n
  induction n using Nat.strongRecOn with
  | ind n ih =>
    intro s W
    refine codeAny_builtin PySem.F.entry_all_loop ?_
    rw [Around.under_plainId PySem.F.plain_all_loop]
    show wpAny (model prog w) A.in1 (pyNext (.ref a) >>= _) _ _ s
    refine wpAny_bind (waits_next (A := A.in1) hh hroom hE hF W (fun s' e => ?_) (fun s' e => ?_) fun s' m hm W' => ?_)
    · exact wpAny_bind (wpAny_rule (wpAny_pure (.inl ⟨rfl, e⟩)))
    · refine wpAny_bind (wpAny_holding (wpAny_truthy_bool ?_))
      refine wpAny_bind (wpAny_letGo ?_)
      exact wpAny_bind (wpAny_rule (wpAny_pure (.inr ⟨rfl, e⟩)))
    · refine wpAny_bind (wpAny_holding (wpAny_truthy_bool ?_))
      refine wpAny_bind (wpAny_letGo ?_)
      exact wpAny_pure ⟨plainId_quiet PySem.F.plain_all_loop _, ih m hm s' W'⟩
end
/-! ### all(elt for target in iter) -/
/-- the reading: W by the turn and a measure; P: the def's table, which may grow -/
def tAll (P : Addr) (wi : TI) (g : TG) (te : TE) (vs : List Nat) : TE := fun σ H Q => wi σ H fun J H1 => GxR.TabG H1 P ∧ ∃ W : Nat → Nat → Hp → Prop, (∀ H2, GxR.Tabbed P H1 H2 → ∃ m, W 0 m H2) ∧ ∀ i m H, W i m H →
  (J.stop i H ∧ Q (.bl true) H) ∨ (J.go i H ∧ ∃ Nx : Hp → Prop, (∀ H', Nx H' → ∃ m', m' < m ∧ W (i + 1) m' H') ∧ ∀ x H', J.yld i H x H' → g x (wipe σ vs) H' fun σ2 H2 => wipe σ2 vs = wipe σ vs ∧
    te σ2 H2 fun y H3 => ∃ b, y = .bl b ∧ if b = true then Nx H3 else Q (.bl false) H3)
section
variable {X : Cx}
theorem pe_all {k : Nat} {c P : Addr} {elt tg iter : Expr} {scope : Scope} {own : List (Str × Nat)} {p pos gpos : Pos} {wi : TI} {g : TG} {te : TE}
    (hr : Room (k + 1) X.A) (TB : GxR.TabB X.base X.mg c P) (hcode : X.env.code = .ref c) (hc : X.calm = true) (hN : X.N.Nodup) (hG : Gl X "all") (hM : X.mg "all" = none) (hi : PI X tg iter wi) (ok : BlkOk X.N X.env.scope scope own) (gk : GnOk scope) (hdN : (".0" : Str) ∉ X.N)
    (hg : ∀ (s : Shared) (H : Hp) (A' : Around) (C : Addr) (cl : List (Str × Addr)) (code : Value) (fp : List Addr), PG (gX X s H A' (genEnv scope cl C code builtinsNs X.env) fp) tg g)
    (he : ∀ (s : Shared) (H : Hp) (A' : Around) (C : Addr) (cl : List (Str × Addr)) (code : Value) (fp : List Addr), Room k A' → PE (gX X s H A' (genEnv scope cl C code builtinsNs X.env) fp) elt te)
    (hs : ∀ v, genFold iter X.env v = pure v := by intro _; rfl)
    (hst : starEach [.GeneratorExp elt [⟨tg, iter, [], 0⟩] scope gpos] X.env = (false, eval (.GeneratorExp elt [⟨tg, iter, [], 0⟩] scope gpos) X.env) :: starEach [] X.env := by rfl) :
    PE X (.Call (.Name "all" p) [.GeneratorExp elt [⟨tg, iter, [], 0⟩] scope gpos] [] pos) (tAll P wi g te (own.map (·.2))) := by
  refine ⟨fun pins s σ H Q I h => ?_⟩
  have hh : X.A.handled = none := hr.hd
  refine wpAny_Call_Name_kw (ld_blt I hG hM PyProof.Rows.boot_all ?_)
  refine PyProof.Rows.callWith_builtin1 ?_ hst (by rfl)
  rw [hst]
  show wpAny _ _ (spliced ((false, eval (.GeneratorExp elt [⟨tg, iter, [], 0⟩] scope gpos) X.env) :: backTo pos (starEach [] X.env))) _ _ s
  have hfree : ∀ y ∈ scope.names, y.2 = .free → ∃ c, X.env.cells.lookup y.1 = some c := fun y hy e =>
    (ok.free y hy e).elim (fun k => I.ok.has _ (.inl k)) fun k => I.ok.has _ (.inr k)
  refine Calls.spliced_cons (wpAny_GeneratorExp_make gk.co (closure_ok hfree) gk.nocell gk.dot ok.kind (by have := hr.dp; omega) (thn (hi.run pins s σ H _ I h) fun xv s1 hx => thn hx fun itv s2 h2 => ?_) hs)
  obtain ⟨it, fp, tn, J, H2, e, I2, T, st2, f2, ⟨ps, hP, ht⟩, W, w0, turn⟩ := h2
  subst e
  refine ⟨I2.nolimit, ?_⟩
  have hPs : s2.heap.get? P = some { cls := .none, data := .fields ps } := I2.hok P _ hP
  have cd : PySem.W.CodeHd s2.heap c P := TB.code.keeps fun b u e => I2.bk b u e
  have sz2 : ∀ b ∈ fp, b < s2.heap.objs.size := fun b hb => by
    obtain ⟨o, e, _⟩ := T.obj _ _ st2 b hb
    exact Heap.lt_size e
  have nfP : ∀ b ∈ fp, b ≠ P := fun b hb z => by
    have q := (f2 b hb).1
    rw [z, hP] at q
    cases q
  -- behind the table
  have cont : ∀ (code : Value) (h3 : Heap) (tk : Nat) (more : Array Value), s2.heap.objs.size ≤ h3.objs.size → (∀ b o, b ≠ P → s2.heap.get? b = some o → h3.get? b = some o) → h3.get? P = some { cls := .none, data := .fields (ps ++ more) } → TriplesOk (ps ++ more).toList →
      wpAny (model X.prog X.w) X.A (builtinsFor X.env.globals X.env.builtins) (fun bi s4 => ∀ h', h'.Ns s4.heap.objs.size (fun y => if y = ".0" then some (.ref it) else none) → Heap.SameBut s4.heap.objs.size (s4.heap.push { cls := .type "frame", data := .dict #[] }) h' →
        wpAny (model X.prog X.w) X.A (spliced (backTo pos (starEach [] X.env))) (fun vs s5 => wpAny (model X.prog X.w) X.A (call (.builtin "all") (.ref h'.objs.size :: vs)) (EP X pins σ Q) X.xe s5) X.xe { s4 with
            gens := s4.gens.push (.fresh (.compStart (.GeneratorExp elt [⟨tg, iter, [], 0⟩] scope gpos) 0 (.ref it) .none (genEnv scope (cloFrom X.env.cells scope.names []) s4.heap.objs.size code bi X.env))), toks := s4.toks + 1 + 1 + 1,
            heap := h'.push { cls := .type "generator", data := .fields #[.int s4.gens.size 0, .str "<genexpr>" (s4.toks + 1), .str (X.env.qual ++ "<genexpr>") (s4.toks + 1 + 1)] } }) X.xe { s2 with heap := h3, toks := tk } := by
    intro code h3 tk more hle3 hk3 hP3 ht3
    have I3 : Inv X pins σ (upd H2 P (.tbl (ps ++ more))) { s2 with heap := h3, gens := s2.gens, drawn := s2.drawn, toks := tk } := GxR.inv_tab I2 hP hk3 hP3 I2.bare
    have tab3 : GxR.Tabbed P H2 (upd H2 P (.tbl (ps ++ more))) := ⟨⟨_, upd_same, ht3⟩, fun b hb => upd_ne hb⟩
    have st3 : tn 0 h3 := T.keep _ _ _ st2 fun b hb o e => hk3 b o (nfP b hb) e
    have f3 : ∀ b ∈ fp, FpOk X pins (upd H2 P (.tbl (ps ++ more))) b := fun b hb => ⟨by rw [upd_ne (nfP b hb)]; exact (f2 b hb).1, (f2 b hb).2⟩
    generalize upd H2 P (.tbl (ps ++ more)) = H3 at I3 tab3 f3
    obtain ⟨m0, hw0⟩ := w0 H3 tab3
    have sz3 : ∀ b ∈ fp, b < h3.objs.size := fun b hb => Nat.lt_of_lt_of_le (sz2 b hb) hle3
    have hs3 : ({ s2 with heap := h3, gens := s2.gens, drawn := s2.drawn, toks := tk } : Shared) = { s2 with heap := h3, toks := tk } := rfl
    rw [hs3] at I3
    generalize hsh : ({ s2 with heap := h3, toks := tk } : Shared) = s3 at I3 ⊢
    have eh : h3 = s3.heap := by rw [← hsh]
    rw [eh] at st3 sz3
    clear hsh hs3 eh hP3 hk3 hle3
    obtain ⟨bm, ob, e1, e2, e3, e4, e5, e6, e7, e8⟩ := TB.bm
    refine wpAny_builtinsFor (m := X.mg) (by rw [I3.ok.glob]; exact I3.mod.glob.keeps I3.bk) e1 e2 (I3.bk _ _ e5) e6 e7 e8 ?_
    intro h' hn' hs'
    refine Calls.spliced_nil ?_
    have hsz : h'.objs.size = s3.heap.objs.size + 1 := by rw [hs'.1, Heap.size_push]
    generalize hgo : ({ cls := .type "generator", data := .fields #[.int s3.gens.size 0, .str "<genexpr>" (s3.toks + 1), .str (X.env.qual ++ "<genexpr>") (s3.toks + 1 + 1)] } : Obj) = go
    have kp5 : ∀ b o, s3.heap.get? b = some o → (h'.push go).get? b = some o := fun b o e => Heap.get?_push_of_some _ (hs'.extBut b o (Nat.ne_of_lt (Heap.lt_size e)) (Heap.get?_push_of_some _ e))
    generalize hce : genEnv scope (cloFrom X.env.cells scope.names []) s3.heap.objs.size code builtinsNs X.env = ce
    have hhA : (X.A.in1.in1.over (.compLoop (.GeneratorExp elt [⟨tg, iter, [], 0⟩] scope gpos) 0 (.ref it) .none ce) []).handled = none := hh
    have hFr : (X.A.in1.in1.over (.compLoop (.GeneratorExp elt [⟨tg, iter, [], 0⟩] scope gpos) 0 (.ref it) .none ce) []).frames = some (ce :: X.stack) := by
      show pushEnvs [ce] (pushEnvs [] X.A.frames) = _
      rw [I3.ok.frames]
      rfl
    have hRm : Room k (X.A.in1.in1.over (.compLoop (.GeneratorExp elt [⟨tg, iter, [], 0⟩] scope gpos) 0 (.ref it) .none ce) []) := by
      have z1 := hr.dp
      have z2 := hr.un
      refine ⟨hhA, ?_, ?_⟩
      · show X.A.depth + 0 + 1 + 3 * k + 5 < recursionLimit
        omega
      · show X.A.units + 1 + 1 + 0 + 3 + 16 * k + 200 < cLine
        omega
    generalize hAg : X.A.in1.in1.over (.compLoop (.GeneratorExp elt [⟨tg, iter, [], 0⟩] scope gpos) 0 (.ref it) .none ce) [] = Ag at hhA hFr hRm
    have I5 : Inv (gX X s3 H3 Ag ce fp) [(h'.objs.size, go)] (wipe σ (own.map (·.2))) H3 { s3 with heap := h'.push go, gens := s3.gens.push (.fresh (.compStart (.GeneratorExp elt [⟨tg, iter, [], 0⟩] scope gpos) 0 (.ref it) .none ce)), toks := s3.toks + 1 + 1 + 1 } := by
      have q := gen_start (code := code) (A' := Ag) (h5 := h'.push go) (g5 := s3.gens.push (.fresh (.compStart (.GeneratorExp elt [⟨tg, iter, [], 0⟩] scope gpos) 0 (.ref it) .none ce))) (t5 := s3.toks + 1 + 1 + 1) (go := go) I3 ok gk hN (fun b hb => ⟨f3 b hb, sz3 b hb⟩) hhA (by rw [hce]; exact hFr) kp5 (hn'.push _)
        (fun x hx => if_neg hx) hdN (I3.bare.push rfl) (a := h'.objs.size) (by omega) (Heap.get?_push_size _ (by rw [← hgo]; rfl)) (by rw [← hgo]; intro v z; cases z)
      rw [hce] at q
      exact q
    have st5 : tn 0 (h'.push go) := T.keep _ _ _ st3 fun b _ o e => kp5 b o e
    have nfp : ∀ b ∈ fp, H3 b = none := fun b hb => (f3 b hb).1
    have pg := hg s3 H3 Ag s3.heap.objs.size (cloFrom X.env.cells scope.names []) code fp
    have pe := he s3 H3 Ag s3.heap.objs.size (cloFrom X.env.cells scope.names []) code fp hRm
    rw [hce] at pg pe
    have cCo : ce.scope.isCoroutine = false := by rw [← hce]; exact gk.co
    clear hn' hs' kp5 w0 hce
    -- back in the def's context
    have back : ∀ {σ' : L2.St} {H' : Hp} {s' : Shared} {pl : List (Addr × Obj)}, Inv (gX X s3 H3 Ag ce fp) pl σ' H' s' → Inv X pins σ H' s' := fun {σ' H' s' pl} J => I3.call' (ch := fp) J.os J.base J.hok J.bare fun b hb =>
      ⟨(f3 b hb).2.2.2.1, (f3 b hb).2.1, (f3 b hb).2.2.2.2.1, (f3 b hb).2.2.2.2.2⟩
    have stat : ∀ {σ' : L2.St} {H' : Hp} {s' : Shared}, Inv (gX X s3 H3 Ag ce fp) [(h'.objs.size, go)] σ' H' s' → (∀ b ∈ fp, H' b = none) → ∀ b ∈ fp, FpOk (gX X s3 H3 Ag ce fp) [(h'.objs.size, go)] H' b := fun {σ' H' s'} J hn b hb =>
      ⟨hn b hb, (J.ok.exf b hb).1, J.ok.exfs b hb, .inl hb, fun x c e => (J.ok.exf b hb).2 x c e, fun p hp => by
        have hp : p = (h'.objs.size, go) := by simpa using hp
        rw [hp]
        exact Nat.ne_of_gt (Nat.lt_trans (sz3 b hb) (by rw [hsz]; exact Nat.lt_succ_self _))⟩
    have gen : ∀ {σ' : L2.St} {H' : Hp} {s' : Shared} {pl : List (Addr × Obj)}, Inv (gX X s3 H3 Ag ce fp) ([(h'.objs.size, go)] ++ pl) σ' H' s' → s'.heap.IsGen h'.objs.size s3.gens.size := fun {σ' H' s' pl} J => by
      have q := (J.pin (h'.objs.size, go) (by simp)).1
      exact ⟨go, _, _, q, by rw [← hgo], by rw [← hgo], by rw [← hgo]⟩
    -- the turns
    have loop : ∀ (m n i : Nat) (s₀ s : Shared) (H : Hp), m < n → W i m H → Inv (gX X s3 H3 Ag ce fp) [(h'.objs.size, go)] (wipe σ (own.map (·.2))) H s → tn i s.heap → (∀ b ∈ fp, H b = none) → s3.gens.size + 1 ≤ s.gens.size →
        Seg (model X.prog X.w) X.A.in1.in1 (fun n s₀ r s₁ => r = .ok .next ∧ gR (fun s => ∃ H', Inv X pins σ H' s ∧ Q (.bl true) H') n s₀ s₁) (gY s3.gens.size h'.objs.size false fun s => ∃ H', Inv X pins σ H' s ∧ Q (.bl false) H') n s₀
          (.compLoop (.GeneratorExp elt [⟨tg, iter, [], 0⟩] scope gpos) 0 (.ref it) .none ce) ((model X.prog X.w).den (.compLoop (.GeneratorExp elt [⟨tg, iter, [], 0⟩] scope gpos) 0 (.ref it) .none ce)) [] s := by
      intro m
      induction m using Nat.strongRecOn with
      | ind m ih =>
        intro n i s₀ s H hmn w J st nf hz
        show Seg (model X.prog X.w) _ _ _ n s₀ _ ((compTurn (.GeneratorExp elt [⟨tg, iter, [], 0⟩] scope gpos) 0 (.ref it) .none ce).onRaise (leaving ce)) [] s
        rw [compTurn_gen]
        rw [Sem.onRaise_eq_wrap]
        refine seg_bind_wrap (wpAny_standAt (seg_bind_wrap ?_))
        rw [hAg]
        rcases turn i m H w with ⟨stp, qq⟩ | ⟨go', Nx, hNx, step⟩
        · refine thnF (T.done (gX X s3 H3 Ag ce fp) rfl rfl rfl hc i _ s _ H (fun _ _ => False) J (stat J nf) st stp) fun r s6 ⟨hr6, J6⟩ => ?_
          subst hr6
          exact seg_end (.ok .next) ⟨rfl, J6.bare, H, back J6, qq⟩
        · refine GenW.wpAny_gsz hz (thnF (T.item (gX X s3 H3 Ag ce fp) rfl rfl rfl hc i _ s _ H (fun _ _ => False) J (stat J nf) st go') fun r s6 ⟨u, hr6, h6⟩ hz6 => ?_)
          subst hr6
          refine seg_bind_wrap ?_
          rw [hAg]
          refine GenW.wpAny_gsz hz6 (thnF h6 fun _ s7 ⟨x, H7, J7, r7, y7, st7, n7⟩ hz7 => ?_)
          have J7' := J7.pinned (stat J7 n7) (T.obj _ _ st7)
          refine seg_bind_wrap ?_
          rw [hAg]
          refine GenW.wpAny_gsz hz7 (thnF (pg.run _ s7 _ H7 x u _ J7' r7 (step x H7 y7)) fun _ s8 ⟨σ8, H8, J8, hw8, q8⟩ hz8 => ?_)
          simp only [List.forIn_nil]
          refine seg_bind_wrap (wpAny_pure ?_)
          simp only [if_true]
          have hy : ∀ v, yieldOut ce v = yieldValue v := fun v => by simp only [yieldOut, cCo, Bool.false_eq_true, if_false]
          simp only [hy]
          rw [Sem.bind_eq_wrap', Sem.bind_eq_wrap']
          rw [Sem.wrap_wrap, Sem.wrap_wrap]
          refine seg_wrap ?_
          rw [hAg]
          refine GenW.wpAny_gsz hz8 (thnF (pe.run _ s8 σ8 H8 _ J8 q8) fun z s9 ⟨yv, H9, J9, r9, b, eb, qb⟩ hz9 => ?_)
          subst eb
          obtain rfl : z = Value.bool b := r9
          obtain ⟨n', rfl⟩ : ∃ n', n = n' + 1 := ⟨n - 1, by omega⟩
          refine seg_at (seg_yield rfl rfl rfl ⟨b, rfl, gen J9, J9.nolimit, J9.bare, hz9, fun e => ?_, fun e s' r => ?_⟩)
          · subst e
            exact ⟨H9, back J9, qb⟩
          · have e : b = true := by
              cases b with
              | true => rfl
              | false => exact absurd rfl e
            subst e
            rw [if_pos rfl] at qb
            obtain ⟨m', hm', w'⟩ := hNx H9 qb
            have pin' : ∀ b ∈ fp, ∀ o, s7.heap.get? b = some o → s9.heap.get? b = some o ∧ H9 b = none := fun b hb o e =>
              let z := J9.pin (b, o) (List.mem_append_right _ (List.mem_append_right _ (mem_pinsAt hb e)))
              ⟨z.1, z.2.1⟩
            have hl : (wipe σ (own.map (·.2))).length = σ8.length := by rw [← hw8, wipe_length]
            have K9 : Inv (gX X s3 H3 Ag ce fp) [(h'.objs.size, go)] (wipe σ (own.map (·.2))) H9 s9 := J9.unpinned.weak hl fun j v e => by
              rw [← hw8] at e
              exact (wipe_some e).1
            refine seg_again rfl (ih m' hm' n' (i + 1) s' s' H9 (by omega) w' (r.inv K9) ?_ (fun b hb => ?_) (Nat.le_trans hz9 r.size))
            · rw [r.heap]
              exact T.keep _ _ _ st7 fun b hb o e => (pin' b hb o e).1
            · obtain ⟨o, e, _⟩ := T.obj _ _ st7 b hb
              exact (pin' b hb o e).2
    have mono : ∀ (b : Bool) (s s' : Shared), (∃ H', Inv X pins σ H' s ∧ Q (.bl b) H') → s'.os = s.os → AllBare s'.gens → (∀ b o, s.heap.get? b = some o → s'.heap.get? b = some o) → ∃ H', Inv X pins σ H' s' ∧ Q (.bl b) H' := fun b s s' ⟨H', J, q⟩ h1 h2 h3 =>
      ⟨H', inv_gens (J.kept (t' := s'.toks) h3) rfl h1 h2, q⟩
    generalize hs5 : ({ s3 with heap := h'.push go, gens := s3.gens.push (.fresh (.compStart (.GeneratorExp elt [⟨tg, iter, [], 0⟩] scope gpos) 0 (.ref it) .none ce)), toks := s3.toks + 1 + 1 + 1 } : Shared) = s5 at I5
    have hg5 : s5.gens[s3.gens.size]? = some (.fresh (.compStart (.GeneratorExp elt [⟨tg, iter, [], 0⟩] scope gpos) 0 (.ref it) .none ce)) := by
      rw [← hs5]
      exact Array.getElem?_push_size ..
    have hz5 : s3.gens.size + 1 ≤ s5.gens.size := by
      rw [← hs5]
      exact Nat.le_of_eq (Array.size_push ..).symm
    have ht5 : tn 0 s5.heap := by rw [← hs5]; exact st5
    have wt : Waits X.prog X.w X.A.in1 s3.gens.size h'.objs.size false (fun s => ∃ H', Inv X pins σ H' s ∧ Q (.bl true) H') (fun s => ∃ H', Inv X pins σ H' s ∧ Q (.bl false) H') (m0 + 1) s5 := by
      refine ⟨gen (pl := []) I5, I5.nolimit, I5.bare, _, hg5, fun s' r => ⟨rfl, ?_⟩⟩
      have lp := loop m0 (m0 + 1) 0 s' s' H3 (Nat.lt_succ_self _) hw0 (r.inv I5) (by rw [r.heap]; exact ht5) nfp (Nat.le_trans hz5 r.size)
      show Seg (model X.prog X.w) _ _ _ _ s' _ ((compStart (.GeneratorExp elt [⟨tg, iter, [], 0⟩] scope gpos) 0 (.ref it) .none ce).onRaise (leaving ce)) [] s'
      unfold compStart
      rw [Sem.onRaise_eq_wrap]
      show Seg (model X.prog X.w) _ _ _ _ s' _ ((ask >>= _).wrap _ _ _ _) [] s'
      refine seg_bind_wrap (wpAny_askSetting ?_)
      have ts : tn 0 s'.heap := by rw [r.heap]; exact ht5
      split
      · exact seg_again rfl lp
      · first
          | exact seg_bind_wrap (wpAny_rule (seg_bind_wrap (wpAny_standAt (seg_bind_wrap (T.self _ 0 s' _ _ ts (seg_again rfl lp))))))
          | (refine seg_bind_wrap (wpAny_rule ?_); show Seg (model X.prog X.w) _ _ _ _ s' _ ((standAt iter.pos >>= _).wrap _ _ _ _) [] s'; exact seg_bind_wrap (wpAny_standAt (seg_bind_wrap (T.self _ 0 s' _ _ ts (seg_again rfl lp)))))
    refine call_function_tree PySem.F.kind_all PySem.F.plain_all PySem.F.entry_all (PySem.F.args_all1 _) ?_
    unfold Builtin.«all»
    refine wpAny_bind (m := oneArg "all" _) (wpAny_pure ?_)
    refine wpAny_bind (wpAny_pyIter_gen (gen (pl := []) I5) ?_)
    refine wpAny_pure ⟨plainId_quiet PySem.F.plain_all_loop _, codeAny_mono (all_loop hh hr.depth (mono true) (mono false) (m0 + 1) s5 wt) fun r s' hq => ?_⟩
    rcases hq with ⟨rfl, H', J, q⟩ | ⟨rfl, H', J, q⟩
    · exact ⟨.bl true, H', J, rfl, q⟩
    · exact ⟨.bl false, H', J, rfl, q⟩
  cases hf : codeAmong gpos ps.toList with
  | none =>
    refine wpAny_genexprCodeX hcode (cd.code hPs ht) (cd.tab hPs) hf fun c' h' tk hx hge hlt hco' _ htab' _ => ?_
    obtain ⟨o1, vs, f1, tf, fl, tg1, inF, tx, tt, op, _, _, _, _, _, _, _, _, _, htr, _⟩ := hco'
    exact cont _ h' tk _ (Nat.le_trans hge (Nat.le_of_lt hlt)) (fun b o hb e => hx b o hb e) htab'.2 htr
  | some cv =>
    refine wpAny_genexprCode_hit hcode (cd.code hPs ht) hf ?_
    have := cont cv s2.heap s2.toks #[] (Nat.le_refl _) (fun _ _ _ e => e) (by rw [hPs]; simp) (by simpa using ht)
    exact this
end
def topS (i : Nat) : Stmt := PySem.Challenge.pw_friendfoe_k05_texts_read.main.body.getD i (.Pass ⟨0, 0, 0, 0⟩)
abbrev s_is_whole : Stmt := topS 9
abbrev N_is_whole : List Str := ["thing"]
theorem sc_is_whole : FnScope N_is_whole ["thing"] (defScope s_is_whole) := ⟨rfl, rfl, rfl, by decide +kernel, rfl, by decide +kernel, by decide +kernel⟩
abbrev s_is_whole_from : Stmt := topS 10
abbrev N_is_whole_from : List Str := ["low", "thing"]
theorem sc_is_whole_from : FnScope N_is_whole_from ["low", "thing"] (defScope s_is_whole_from) := ⟨rfl, rfl, rfl, by decide +kernel, rfl, by decide +kernel, by decide +kernel⟩
abbrev s_is_whole_below : Stmt := topS 11
abbrev N_is_whole_below : List Str := ["limit", "thing"]
theorem sc_is_whole_below : FnScope N_is_whole_below ["limit", "thing"] (defScope s_is_whole_below) := ⟨rfl, rfl, rfl, by decide +kernel, rfl, by decide +kernel, by decide +kernel⟩
abbrev s_are_unlike_places : Stmt := topS 12
abbrev N_are_unlike_places : List Str := ["many", "one", "other"]
theorem sc_are_unlike_places : FnScope N_are_unlike_places ["many", "one", "other"] (defScope s_are_unlike_places) := ⟨rfl, rfl, rfl, by decide +kernel, rfl, by decide +kernel, by decide +kernel⟩
abbrev s_is_tuple_of : Stmt := topS 13
abbrev N_is_tuple_of : List Str := ["length", "thing"]
theorem sc_is_tuple_of : FnScope N_is_tuple_of ["length", "thing"] (defScope s_is_tuple_of) := ⟨rfl, rfl, rfl, by decide +kernel, rfl, by decide +kernel, by decide +kernel⟩
abbrev s_is_tie : Stmt := topS 16
abbrev N_is_tie : List Str := ["many", "thing", "one", "other", "kind"]
theorem sc_is_tie : FnScope N_is_tie ["many", "thing"] (defScope s_is_tie) := ⟨rfl, rfl, rfl, by decide +kernel, rfl, by decide +kernel, by decide +kernel⟩
abbrev s_is_web : Stmt := topS 17
abbrev N_is_web : List Str := ["thing", "many", "ties", "tie"]
theorem sc_is_web : FnScope N_is_web ["thing"] (defScope s_is_web) := ⟨rfl, rfl, rfl, by decide +kernel, rfl, by decide +kernel, by decide +kernel⟩
abbrev s_is_weights : Stmt := topS 18
abbrev N_is_weights : List Str := ["web", "thing", "weight"]
theorem sc_is_weights : FnScope N_is_weights ["web", "thing"] (defScope s_is_weights) := ⟨rfl, rfl, rfl, by decide +kernel, rfl, by decide +kernel, by decide +kernel⟩
abbrev s_writes_number : Stmt := topS 22
abbrev N_writes_number : List Str := ["word", "sign"]
theorem sc_writes_number : FnScope N_writes_number ["word"] (defScope s_writes_number) := ⟨rfl, rfl, rfl, by decide +kernel, rfl, by decide +kernel, by decide +kernel⟩
abbrev s_read_number : Stmt := topS 23
abbrev N_read_number : List Str := ["word"]
theorem sc_read_number : FnScope N_read_number ["word"] (defScope s_read_number) := ⟨rfl, rfl, rfl, by decide +kernel, rfl, by decide +kernel, by decide +kernel⟩
abbrev s_read_many : Stmt := topS 24
abbrev N_read_many : List Str := ["line", "words"]
theorem sc_read_many : FnScope N_read_many ["line"] (defScope s_read_many) := ⟨rfl, rfl, rfl, by decide +kernel, rfl, by decide +kernel, by decide +kernel⟩
abbrev s_read_weights : Stmt := topS 25
abbrev N_read_weights : List Str := ["rows", "words"]
theorem sc_read_weights : FnScope N_read_weights ["rows"] (defScope s_read_weights) := ⟨rfl, rfl, rfl, by decide +kernel, rfl, by decide +kernel, by decide +kernel⟩
abbrev s_read_web : Stmt := topS 26
abbrev N_read_web : List Str := ["text", "first", "lines", "many", "rows", "line", "weights", "web", "words"]
theorem sc_read_web : FnScope N_read_web ["text"] (defScope s_read_web) := ⟨rfl, rfl, rfl, by decide +kernel, rfl, by decide +kernel, by decide +kernel⟩
abbrev s_l_deck : Stmt := topS 28
abbrev N_l_deck : List Str := ["_law_script"]
theorem sc_l_deck : FnScope N_l_deck ["_law_script"] (defScope s_l_deck) := ⟨rfl, rfl, rfl, by decide +kernel, rfl, by decide +kernel, by decide +kernel⟩
abbrev s_l_draw : Stmt := topS 29
abbrev N_l_draw : List Str := ["_law_deck_here", "_law_many", "_law_cell", "_law_number_here"]
theorem sc_l_draw : FnScope N_l_draw ["_law_deck_here", "_law_many"] (defScope s_l_draw) := ⟨rfl, rfl, rfl, by decide +kernel, rfl, by decide +kernel, by decide +kernel⟩
abbrev s_l_web : Stmt := topS 30
abbrev N_l_web : List Str := ["_law_deck_here", "_law_many", "_law_count", "_law_ties", "_law_k", "_law_one", "_law_other"]
theorem sc_l_web : FnScope N_l_web ["_law_deck_here"] (defScope s_l_web) := ⟨rfl, rfl, rfl, by decide +kernel, rfl, by decide +kernel, by decide +kernel⟩
abbrev s_l_weights : Stmt := topS 31
abbrev N_l_weights : List Str := ["_law_deck_here", "_law_many", "_law_most", "_law_k"]
theorem sc_l_weights : FnScope N_l_weights ["_law_deck_here", "_law_many"] (defScope s_l_weights) := ⟨rfl, rfl, rfl, by decide +kernel, rfl, by decide +kernel, by decide +kernel⟩
abbrev s_l_shown : Stmt := topS 32
abbrev N_l_shown : List Str := ["_law_web_here", "_law_weights_here", "_law_text", "_law_k", "_law_one", "_law_other", "_law_kind"]
theorem sc_l_shown : FnScope N_l_shown ["_law_web_here", "_law_weights_here"] (defScope s_l_shown) := ⟨rfl, rfl, rfl, by decide +kernel, rfl, by decide +kernel, by decide +kernel⟩
abbrev s_l_number : Stmt := topS 33
abbrev N_l_number : List Str := ["_law_word", "_law_sign"]
theorem sc_l_number : FnScope N_l_number ["_law_word"] (defScope s_l_number) := ⟨rfl, rfl, rfl, by decide +kernel, rfl, by decide +kernel, by decide +kernel⟩
abbrev s_l_tie_of : Stmt := topS 34
abbrev N_l_tie_of : List Str := ["_law_words", "_law_many", "_law_one", "_law_other"]
theorem sc_l_tie_of : FnScope N_l_tie_of ["_law_words", "_law_many"] (defScope s_l_tie_of) := ⟨rfl, rfl, rfl, by decide +kernel, rfl, by decide +kernel, by decide +kernel⟩
abbrev s_l_due : Stmt := topS 35
abbrev N_l_due : List Str := ["_law_text", "_law_lines", "_law_line", "_law_many", "_law_ties", "_law_weights_here", "_law_words"]
theorem sc_l_due : FnScope N_l_due ["_law_text"] (defScope s_l_due) := ⟨rfl, rfl, rfl, by decide +kernel, rfl, by decide +kernel, by decide +kernel⟩
abbrev s_l_far_web : Stmt := topS 36
abbrev N_l_far_web : List Str := ["_law_deck_here", "_law_zeros", "_law_many", "_law_ties", "_law_k", "_law_one"]
theorem sc_l_far_web : FnScope N_l_far_web ["_law_deck_here"] (defScope s_l_far_web) := ⟨rfl, rfl, rfl, by decide +kernel, rfl, by decide +kernel, by decide +kernel⟩
abbrev s_l_word_otherwise : Stmt := topS 37
abbrev N_l_word_otherwise : List Str := ["_law_deck_here", "_law_word", "_law_letters", "_law_some"]
theorem sc_l_word_otherwise : FnScope N_l_word_otherwise ["_law_deck_here", "_law_word"] (defScope s_l_word_otherwise) := ⟨rfl, rfl, rfl, by decide +kernel, rfl, by decide +kernel, by decide +kernel⟩
abbrev s_l_signs : Stmt := topS 38
abbrev N_l_signs : List Str := ["_law_signs_here"]
theorem sc_l_signs : FnScope N_l_signs [] (defScope s_l_signs) := ⟨rfl, rfl, rfl, by decide +kernel, rfl, by decide +kernel, by decide +kernel⟩
abbrev s_l_bent : Stmt := topS 39
abbrev N_l_bent : List Str := ["_law_deck_here", "_law_text", "_law_way", "_law_at", "_law_sign", "_law_lines", "_law_words", "_law_spot"]
theorem sc_l_bent : FnScope N_l_bent ["_law_deck_here", "_law_text"] (defScope s_l_bent) := ⟨rfl, rfl, rfl, by decide +kernel, rfl, by decide +kernel, by decide +kernel⟩
abbrev s_l_told : Stmt := topS 40
abbrev N_l_told : List Str := ["_law_thing", "_law_told_here", "e", "_law_others"]
theorem sc_l_told : FnScope N_l_told ["_law_thing"] (defScope s_l_told) := ⟨rfl, rfl, rfl, by decide +kernel, rfl, by decide +kernel, by decide +kernel⟩
abbrev s_l_right : Stmt := topS 41
abbrev N_l_right : List Str := ["_law_text", "_law_due_here"]
theorem sc_l_right : FnScope N_l_right ["_law_text"] (defScope s_l_right) := ⟨rfl, rfl, rfl, by decide +kernel, rfl, by decide +kernel, by decide +kernel⟩
abbrev s_law : Stmt := topS 42
abbrev N_law : List Str := ["_law_script", "_law_deck_here", "_law_web_here", "_law_weights_here", "_law_text", "_law_k", "_law_bent_here", "_law_odd", "_law_thing"]
theorem sc_law : FnScope N_law ["_law_script"] (defScope s_law) := ⟨rfl, rfl, rfl, by decide +kernel, rfl, by decide +kernel, by decide +kernel⟩
/-! ### own rules: a list against [] -/
section
variable {X : Cx}
def rEqE (K : PySem.W.Frag) : R2 := fun x y H Q => ∃ (a b : Addr) (xs : List V), x = .ref a ∧ y = .ref b ∧ SqL K H a xs ∧ SqL K H b [] ∧ Q (.bl xs.isEmpty) H
def rNeE (K : PySem.W.Frag) : R2 := fun x y H Q => ∃ (a b : Addr) (xs : List V), x = .ref a ∧ y = .ref b ∧ SqL K H a xs ∧ SqL K H b [] ∧ Q (.bl (!xs.isEmpty)) H
theorem op_eqE (hu : X.A.units < cLine) : OpR X (compareOp .Eq) (rEqE X.K) := by
  intro pins s σ H x y v u Q I rx ry h
  obtain ⟨a, b, xs, rfl, rfl, ha, hb, q⟩ := h
  obtain rfl : v = Value.ref a := rx
  obtain rfl : u = Value.ref b := ry
  obtain ⟨its, r1, p1, _⟩ := I.list ha
  obtain ⟨its2, r2, p2, _⟩ := I.list hb
  cases r2
  cases xs with
  | nil =>
    cases r1
    exact SeqAt.eq_listAt (e := fun _ => true) p1.isList p2.isList rfl hu (fun j h1 _ => absurd h1 (by simp)) ⟨.bl true, H, I, rfl, q⟩
  | cons z zs =>
    cases r1 with
    | cons r t => exact SeqAt.eq_list_lengthsAt p1.isList p2.isList (by simp) hu ⟨.bl false, H, I, rfl, q⟩
theorem op_neE (hu : X.A.units < cLine) : OpR X (compareOp .NotEq) (rNeE X.K) := by
  intro pins s σ H x y v u Q I rx ry h
  obtain ⟨a, b, xs, rfl, rfl, ha, hb, q⟩ := h
  obtain rfl : v = Value.ref a := rx
  obtain rfl : u = Value.ref b := ry
  obtain ⟨its, r1, p1, _⟩ := I.list ha
  obtain ⟨its2, r2, p2, _⟩ := I.list hb
  cases r2
  cases xs with
  | nil =>
    cases r1
    exact SeqAt.RcNeAt.lists (e := fun _ => true) p1.isList p2.isList rfl hu (fun j h1 _ => absurd h1 (by simp)) _ _ _ _ ⟨.bl false, H, I, rfl, q⟩
  | cons z zs =>
    cases r1 with
    | cons r t => exact SeqAt.RcNeAt.lists_lengths p1.isList p2.isList (by simp) hu _ _ _ _ ⟨.bl true, H, I, rfl, q⟩
end
section
variable {P : Program} {w : World} {K : PySem.W.Frag} {mg : Str → Option Value} {base : Heap}
/-! ### a draw -/
theorem ok_l_draw {f : Addr} {fd : FuncData} (F : Fun K "_law_draw" "_law_draw" s_l_draw f fd) : FnOk P w K mg base CX0 1 f fd ["_law_deck_here", "_law_many"] spDraw := by
  refine F.ok sc_l_draw (fun vs H Q E h => ?_) (fun cdv A outer s H vs Q E hr h => ?_)
  · obtain ⟨d, c, m, rfl, _⟩ := h
    rfl
  · obtain ⟨d, c, m, rfl, hD, hm, hb, q⟩ := h
    have ndc := hD.ne
    obtain ⟨cells, st, n, hd, hc, hl⟩ := hD
    refine ⟨_, (pss_cons (ps_asg (pe_op op_add (pe_ix ix_list (pv 0) pe_int (fun _ _ => rfl)) pe_int) (pg_sub (pv 0) pe_int set_list))
      (pss_cons (ps_set (i := 2) sc_l_draw.nd rfl (.inl rfl) (pe_ix ix_list (pv 0) pe_int (fun _ _ => rfl)))
      (Evl.pss_cut (ps_if (pt_cmpR (op_neE hr.units0) (pe_ix ix_list (pv 0) pe_int (fun _ _ => rfl)) (pe_lst pa_nil) (nomark _))
        (pss_cons (ps_set (i := 2) sc_l_draw.nd rfl (.inl rfl) (pe_bm0 PySem.F.plainAttrs_list PySem.F.slot_list_pop PySem.F.type_list_pop mt_pop (pe_ix ix_list (pv 0) pe_int (fun _ _ => rfl))))
        (pss_one (ps_if (pt_cmpR op_ge (pv 2) (pe_op op_pow pe_int pe_int) (nomark _))
          (pss_cons (ps_expr (pe_bm PySem.F.plainAttrs_list PySem.F.slot_list_append PySem.F.type_list_append mt_append (pe_ix ix_list (pv 0) pe_int (fun _ _ => rfl)) (pa_cons (pe_op op_fdivW (pv 2) (pv 1)) pa_nil)))
          (pss_one (ps_ret (pe_op op_mod (pv 2) (pv 1)))))
          pss_nil)))
        pss_nil)
      (Evl.pss_cut (ps_set (i := 3) sc_l_draw.nd rfl (.inl rfl) (pe_op op_mod (pe_op op_mul (pe_op op_add (pe_op op_add (pe_op op_mod (pv 2) pe_int) (pe_op op_mul pe_int (pe_ix ix_list (pv 0) pe_int (fun _ _ => rfl)))) pe_int) pe_int) pe_int))
      (Evl.pss_cut (ps_set (i := 3) sc_l_draw.nd rfl (.inl rfl) (pe_op op_mod (pe_op op_add (pe_op op_add (pe_op op_mul (pv 3) (pv 3)) (pe_op op_mul pe_int (pv 3))) (pe_ix ix_list (pv 0) pe_int (fun _ _ => rfl))) pe_int))
      (pss_one (ps_ret (pe_op op_mod (pe_op op_fdiv (pe_op op_mod (pe_op op_mul (pv 3) (pv 3)) pe_int) pe_int) (pv 1))))))))), ?_⟩
    -- deck[2] = deck[2] + 1
    refine ⟨.ref d, rfl, d, _, 2, .int n, rfl, rfl, SqL.of hd, rfl, n, 1, rfl, rfl, .ref d, rfl, d, _, 2, 2, rfl, rfl, hd, rfl, ?_⟩
    generalize hH1 : upd H d (.lst ([V.ref c, .int st, .int n].set 2 (.int (n + 1)))) = H1
    have hd1 : H1 d = some (.lst [.ref c, .int st, .int (n + 1)]) := by rw [← hH1]; exact upd_same
    have hc1 : H1 c = some (.lst (cells.map V.int)) := by rw [← hH1, upd_ne (Ne.symm ndc)]; exact hc
    have k1 : Kp d c H H1 := by rw [← hH1]; exact Kp.at_d
    clear hH1
    -- cell = deck[1]
    refine ⟨.ref d, rfl, d, _, 1, .int st, rfl, rfl, SqL.of hd1, rfl, ?_⟩
    -- if deck[0] != []
    refine ⟨fun σ' H3 => ∃ x : Int, σ' = [some (.ref d), some (.int m), some (.int x), none] ∧ H3 d = some (.lst [.ref c, .int st, .int (n + 1)]) ∧ (∃ cs : List Int, H3 c = some (.lst (cs.map V.int)) ∧ cs.length ≤ 63) ∧ Kp d c H H3, ?_, ?_⟩
    · refine ⟨.ref d, rfl, d, _, 0, .ref c, rfl, rfl, SqL.of hd1, rfl, Nat.zero_le _, fun p np => ?_⟩
      have hd2 : (upd H1 p (.lst [])) d = some (.lst [.ref c, .int st, .int (n + 1)]) := by rw [upd_ne (ne_of_none hd1 np)]; exact hd1
      have hc2 : (upd H1 p (.lst [])) c = some (.lst (cells.map V.int)) := by rw [upd_ne (ne_of_none hc1 np)]; exact hc1
      have k2 : Kp d c H (upd H1 p (.lst [])) := k1.trans (Kp.new np)
      refine ⟨c, p, cells.map V.int, rfl, rfl, SqL.of hc2, SqL.of upd_same, _, rfl, ?_⟩
      generalize upd H1 p (.lst []) = H2 at hd2 hc2 k2
      cases hcs : cells with
      | nil =>
        subst hcs
        exact ⟨st, rfl, hd2, ⟨[], hc2, by simp⟩, k2⟩
      | cons z zs =>
        rw [hcs] at hc2 hl
        obtain ⟨ys, y, e⟩ : ∃ (ys : List Int) (y : Int), z :: zs = ys ++ [y] := ⟨(z :: zs).dropLast, (z :: zs).getLast (by simp), (List.dropLast_concat_getLast (by simp)).symm⟩
        rw [e] at hc2 hl
        have hl2 : ys.length ≤ 62 := by rw [List.length_append] at hl; simp at hl; omega
        -- cell = deck[0].pop()
        refine ⟨.ref d, rfl, d, _, 0, .ref c, rfl, rfl, SqL.of hd2, rfl, .inl ⟨rfl, _, SqL.of hc2⟩, c, _, .int y, rfl, rfl, hc2, by simp, ?_⟩
        have e3 : ((ys ++ [y]).map V.int).dropLast = ys.map V.int := by simp
        rw [e3]
        have hd3 : (upd H2 c (.lst (ys.map V.int))) d = some (.lst [.ref c, .int st, .int (n + 1)]) := by rw [upd_ne ndc]; exact hd2
        have hc3 : (upd H2 c (.lst (ys.map V.int))) c = some (.lst (ys.map V.int)) := upd_same
        have k3 : Kp d c H (upd H2 c (.lst (ys.map V.int))) := k2.trans Kp.at_c
        generalize upd H2 c (.lst (ys.map V.int)) = H3 at hd3 hc3 k3
        -- if cell >= 10 ** 18
        refine ⟨.int y, rfl, 10, 18, rfl, rfl, ⟨by decide, by decide, by decide⟩, y, _, rfl, rfl, _, rfl, ?_⟩
        refine ite2 (fun _ => ?_) (fun _ => ?_)
        · refine ⟨.ref d, rfl, d, _, 0, .ref c, rfl, rfl, SqL.of hd3, rfl, .inl ⟨rfl, _, SqL.of hc3⟩, .int y, rfl, .int m, rfl, y, m, rfl, rfl, wide_div hm hb (by decide) (by decide), c, _, _, rfl, rfl, hc3, ?_, ?_⟩
          · rw [List.length_map]
            exact small1000 (by omega)
          · refine ⟨.int y, rfl, .int m, rfl, y, m, rfl, rfl, hm, ?_⟩
            refine q _ _ (mod_rng hm).1 (mod_rng hm).2 ⟨ys ++ [y / m], st, n + 1, ?_, ?_, ?_⟩ (k3.trans Kp.at_c)
            · rw [upd_ne ndc]
              exact hd3
            · rw [upd_same, List.map_append]
              rfl
            · rw [List.length_append]
              show ys.length + 1 ≤ 63
              omega
        · exact ⟨y, rfl, hd3, ⟨ys, hc3, by omega⟩, k3⟩
    · rintro σ' H3 ⟨x, rfl, hd3, ⟨cs, hc3, hl3⟩, k3⟩
      refine ⟨fun σ' H4 => ∃ N : Int, σ' = [some (.ref d), some (.int m), some (.int x), some (.int N)] ∧ 0 ≤ N ∧ N < 2147483647 ∧ H4 = H3, ?_, ?_⟩
      · exact ⟨.int x, rfl, x, 2147483629, rfl, rfl, show (0 : Int) < 2147483629 by decide, .ref d, rfl, d, _, 2, .int (n + 1), rfl, rfl, SqL.of hd3, rfl, 7919, n + 1, rfl, rfl, .inl ⟨by decide, by decide⟩, _, _, rfl, rfl, _, 11, rfl, rfl, _, 48271, rfl, rfl, .inr ⟨by decide, by decide⟩, _, 2147483647, rfl, rfl, show (0 : Int) < 2147483647 by decide, _, rfl, (mod_rng (by decide)).1, (mod_rng (by decide)).2, rfl⟩
      rintro σ' H4 ⟨N, rfl, hN0, hN1, rfl⟩
      refine ⟨fun σ' H5 => ∃ M : Int, σ' = [some (.ref d), some (.int m), some (.int x), some (.int M)] ∧ 0 ≤ M ∧ M < 2147483587 ∧ H5 = H4, ?_, ?_⟩
      · exact ⟨.int N, rfl, .int N, rfl, N, N, rfl, rfl, .inl ⟨by omega, by omega⟩, .int N, rfl, 69621, N, rfl, rfl, .inl ⟨by decide, by decide⟩, _, _, rfl, rfl, .ref d, rfl, d, _, 2, .int (n + 1), rfl, rfl, SqL.of hd3, rfl, _, _, rfl, rfl, _, 2147483587, rfl, rfl, show (0 : Int) < 2147483587 by decide, _, rfl, (mod_rng (by decide)).1, (mod_rng (by decide)).2, rfl⟩
      rintro σ' H5 ⟨M, rfl, hM0, hM1, rfl⟩
      refine ⟨.int M, rfl, .int M, rfl, M, M, rfl, rfl, .inl ⟨by omega, by omega⟩, _, 2147483563, rfl, rfl, show (0 : Int) < 2147483563 by decide, _, 32, rfl, rfl, ⟨by decide, by decide⟩, .int m, rfl, _, m, rfl, rfl, hm, ?_⟩
      exact q _ _ (mod_rng hm).1 (mod_rng hm).2 ⟨cs, st, n + 1, hd3, hc3, hl3⟩ k3
/-! ### the deck is laid -/
theorem cutV_ints (ns : List Int) (lo hi : Option Int) : ∃ ms : List Int, cutV (ns.map V.int) lo hi = ms.map V.int ∧ ms.length ≤ ns.length := by
  refine ⟨(ns.drop (HT.sIx ns.length 0 lo)).take (HT.sIx ns.length ns.length hi - HT.sIx ns.length 0 lo), ?_, ?_⟩
  · unfold cutV
    rw [List.length_map, List.map_take, List.map_drop]
  · rw [List.length_take, List.length_drop]
    omega
def spDeck (K : PySem.W.Frag) : Sp := fun vs H Q _ => ∃ (a : Addr) (ns : List Int), vs = [.ref a] ∧ SqL K H a (ns.map V.int) ∧ ns.length ≤ 63 ∧
  ∀ d c H', Same H H' → H d = none → H c = none → Deck H' d c → Q (.ref d) H'
theorem ok_l_deck {f : Addr} {fd : FuncData} (F : Fun K "_law_deck" "_law_deck" s_l_deck f fd) (M : Free mg) : FnOk P w K mg base CX0 1 f fd ["_law_script"] (spDeck K) := by
  refine F.ok sc_l_deck (fun vs H Q E h => ?_) (fun cdv A outer s H vs Q E hr h => ?_)
  · obtain ⟨a, ns, rfl, _⟩ := h
    rfl
  · obtain ⟨a, ns, rfl, hS, hl, q⟩ := h
    refine ⟨_, (pss_one (ps_ret (pe_lst (pa_cons (pe_revL (pe_callTy call_list_of (by rfl) M.list (by decide +kernel) (pa_cons (pe_slice sl_list (pv 0) po_none (po_some pe_int)) pa_nil))) (pa_cons (pe_op op_add (pe_callB (cr_sum rfl) (by rfl) M.sum (by decide +kernel) (pa_cons (pe_slice sl_list (pv 0) po_none (po_some pe_int)) pa_nil)) (pe_op op_mul pe_int (pe_callB call_len_seq (by rfl) M.len PySem.boot_len (pa_cons (pe_slice sl_list (pv 0) po_none (po_some pe_int)) pa_nil)))) (pa_cons pe_int pa_nil)))))), ?_⟩
    obtain ⟨ms, em, lm⟩ := cutV_ints ns none (some 63)
    refine ⟨.ref a, rfl, 63, rfl, a, _, rfl, hS, fun p1 n1 => ⟨p1, _, rfl, .inl (SqL.of upd_same), fun p2 n2 => ⟨p2, _, rfl, SqL.of upd_same, fun p3 n3 => ?_⟩⟩⟩
    rw [em] at n2 n3 ⊢
    have s1 : Same H (upd H p1 (.lst (ms.map V.int))) := same_new n1
    have s2 := s1.trans (same_new (o := .lst (ms.map V.int)) n2)
    have s3 := s2.trans (same_new (o := .lst (ms.map V.int).reverse) n3)
    have h3 : (upd (upd (upd H p1 (.lst (ms.map V.int))) p2 (.lst (ms.map V.int))) p3 (.lst (ms.map V.int).reverse)) p3 = some (.lst (ms.reverse.map V.int)) := by
      rw [upd_same, List.map_reverse]
    have f3 : H p3 = none := s2.free n3
    generalize upd (upd (upd H p1 (.lst (ms.map V.int))) p2 (.lst (ms.map V.int))) p3 (.lst (ms.map V.int).reverse) = H3 at s3 h3
    refine ⟨.ref a, rfl, 63, rfl, a, _, rfl, s3.seq hS, fun p4 n4 => ⟨p4, ms, rfl, SqL.of (by rw [upd_same, em]), .ref a, rfl, 63, rfl, a, _, rfl, (s3.trans (same_new n4)).seq hS, fun p5 n5 => ?_⟩⟩
    have s5 := (s3.trans (same_new (o := .lst (cutV (ns.map V.int) none (some 63))) n4)).trans (same_new (o := .lst (cutV (ns.map V.int) none (some 63))) n5)
    have h5 := same_new (o := .lst (cutV (ns.map V.int) none (some 63))) n5 _ _ (same_new (o := .lst (cutV (ns.map V.int) none (some 63))) n4 _ _ h3)
    refine ⟨p5, _, rfl, .inl (SqL.of upd_same), 31, _, rfl, rfl, .inl ⟨by decide, by decide⟩, _, _, rfl, rfl, (by show 3 ≤ sizeLine; decide), fun d nd => ?_⟩
    refine q d p3 _ (s5.trans (same_new nd)) (s5.free nd) f3 ⟨ms.reverse, _, 0, upd_same, ?_, ?_⟩
    · rw [upd_ne (ne_of_none h5 nd)]
      exact h5
    · rw [List.length_reverse]
      omega
/-! ### webs -/
structure Tie where
  one : Int
  other : Int
  foe : Bool
def kindS : Bool → Str
  | true => "foe"
  | false => "friend"
def TieV (H : Hp) (v : V) (t : Tie) : Prop := ∃ a, v = .ref a ∧ H a = some (.tup [.int t.one, .int t.other, .str (kindS t.foe)])
def TieOk (n : Int) (t : Tie) : Prop := 0 ≤ t.one ∧ t.one < n ∧ 0 ≤ t.other ∧ t.other < n ∧ t.one ≠ t.other
def WebAt (H : Hp) (v : V) (n : Int) (ts : List Tie) : Prop := ∃ a b vs, v = .ref a ∧ H a = some (.tup [.int n, .ref b]) ∧ H b = some (.tup vs) ∧ Paired (TieV H) vs ts
structure WebOk (n : Int) (ts : List Tie) : Prop where
  lo : 1 ≤ n
  hi : n ≤ 40
  few : ts.length ≤ 120
  ok : ∀ t ∈ ts, TieOk n t
/-- tuples stay -/
def Tk (H H' : Hp) : Prop := ∀ b xs, H b = some (.tup xs) → H' b = some (.tup xs)
theorem Tk.trans {H H1 H2 : Hp} (a : Tk H H1) (b : Tk H1 H2) : Tk H H2 := fun x xs h => b x xs (a x xs h)
theorem Same.tk {H H' : Hp} (s : Same H H') : Tk H H' := fun b xs h => s b _ h
theorem tk_lst {H : Hp} {l : Addr} {xs ys : List V} (h : H l = some (.lst xs)) : Tk H (upd H l (.lst ys)) := fun b zs e => by
  rw [upd_ne (ne_of e h (by intro z; cases z))]
  exact e
theorem TieV.tk {H H' : Hp} (k : Tk H H') {v : V} {t : Tie} (h : TieV H v t) : TieV H' v t := by
  obtain ⟨a, rfl, e⟩ := h
  exact ⟨a, rfl, k _ _ e⟩
theorem ties_tk {H H' : Hp} (k : Tk H H') {vs : List V} {ts : List Tie} (h : Paired (TieV H) vs ts) : Paired (TieV H') vs ts := Paired.mono (fun _ _ x => x.tk k) h
theorem WebAt.tk {H H' : Hp} (k : Tk H H') {v : V} {n : Int} {ts : List Tie} (h : WebAt H v n ts) : WebAt H' v n ts := by
  obtain ⟨a, b, vs, rfl, h1, h2, h3⟩ := h
  exact ⟨a, b, vs, rfl, k _ _ h1, k _ _ h2, ties_tk k h3⟩
theorem Kp.tk {d c : Addr} {H H' : Hp} (k : Kp d c H H') (D : Deck H d c) : Tk H H' := fun b xs e => by
  obtain ⟨cells, st, n, h1, h2, _⟩ := D
  exact k b _ (ne_of e h1 (by intro z; cases z)) (ne_of e h2 (by intro z; cases z)) e
theorem Kp.mut {d c l : Addr} {H H' : Hp} {o : HO} (k : Kp d c H H') (h : H l = none) : Kp d c H (upd H' l o) := fun b u h1 h2 e => by
  rw [upd_ne (ne_of_none e h)]
  exact k b u h1 h2 e
theorem Deck.mut {H : Hp} {d c l : Addr} {o : HO} (D : Deck H d c) (h1 : l ≠ d) (h2 : l ≠ c) : Deck (upd H l o) d c := by
  obtain ⟨cells, st, n, e1, e2, e3⟩ := D
  exact ⟨cells, st, n, by rw [upd_ne (Ne.symm h1)]; exact e1, by rw [upd_ne (Ne.symm h2)]; exact e2, e3⟩
theorem Deck.new {H : Hp} {d c l : Addr} {o : HO} (D : Deck H d c) (h : H l = none) : Deck (upd H l o) d c := D.same (same_new h)
theorem Deck.ned {H : Hp} {d c l : Addr} (D : Deck H d c) (h : H l = none) : l ≠ d ∧ l ≠ c := by
  obtain ⟨cells, st, n, e1, e2, e3⟩ := D
  exact ⟨(ne_of_none e1 h).symm, (ne_of_none e2 h).symm⟩
theorem Paired.at {α β : Type} {F : α → β → Prop} : ∀ {l : List α} {m : List β} {i : Nat} {a : α}, Paired F l m → l[i]? = some a → ∃ b, m[i]? = some b ∧ F a b
  | _, _, _, _, .nil, e => by simp at e
  | _, _, 0, _, .cons r _, e => by simp at e; subst e; exact ⟨_, rfl, r⟩
  | _, _, i + 1, a, .cons _ t, e => by
    obtain ⟨u, h1, h2⟩ := Paired.at (i := i) (a := a) t (by simpa using e)
    exact ⟨u, by simpa using h1, h2⟩
theorem Paired.at' {α β : Type} {F : α → β → Prop} : ∀ {l : List α} {m : List β} {i : Nat} {b : β}, Paired F l m → m[i]? = some b → ∃ a, l[i]? = some a ∧ F a b
  | _, _, _, _, .nil, e => by simp at e
  | _, _, 0, _, .cons r _, e => by simp at e; subst e; exact ⟨_, rfl, r⟩
  | _, _, i + 1, b, .cons _ t, e => by
    obtain ⟨u, h1, h2⟩ := Paired.at' (i := i) (b := b) t (by simpa using e)
    exact ⟨u, by simpa using h1, h2⟩
theorem getI {α : Type} {xs : List α} {i : Int} (h0 : 0 ≤ i) (h1 : i < (xs.length : Int)) : ∃ v, atI xs i = some v ∧ xs[i.toNat]? = some v := by
  obtain ⟨j, rfl⟩ : ∃ j : Nat, i = (j : Int) := ⟨i.toNat, by omega⟩
  have h2 : j < xs.length := by omega
  exact ⟨xs[j], atI_nat (List.getElem?_eq_getElem h2), by rw [Int.toNat_natCast]; exact List.getElem?_eq_getElem h2⟩
theorem other_ne {n a b : Int} (h0 : 0 ≤ a) (h1 : a < n) (g0 : 0 ≤ b) (g1 : b < n - 1) : a ≠ (a + 1 + b) % n := by
  by_cases h : a + 1 + b < n
  · rw [Int.emod_eq_of_lt (by omega) h]
    omega
  · have e : a + 1 + b = (a + 1 + b - n) + 1 * n := by omega
    rw [e, Int.add_mul_emod_self_right, Int.emod_eq_of_lt (by omega) (by omega)]
    omega
theorem pick2 {α : Type} (a b : α) (k : Bool) : atI [a, b] (if k then 1 else 0) = some (if k then b else a) := by
  cases k <;> rfl
def spWeb : Sp := fun vs H Q _ => ∃ (d c : Addr), vs = [.ref d] ∧ Deck H d c ∧
  ∀ v n ts H', WebAt H' v n ts → WebOk n ts → Deck H' d c → Kp d c H H' → Q v H'
theorem ok_l_web {f : Addr} {fd : FuncData} (F : Fun K "_law_web" "_law_web" s_l_web f fd) (M : Free mg) (Dd : Df P w K mg base 1 "_law_draw" ["_law_deck_here", "_law_many"] spDraw) : FnOk P w K mg base CX0 2 f fd ["_law_deck_here"] spWeb := by
  obtain ⟨fD, fdD, GD, gD, kD, bD⟩ := Dd
  refine F.ok sc_l_web (fun vs H Q E h => ?_) (fun cdv A outer s H vs Q E hr h => ?_)
  · obtain ⟨d, c, rfl, _⟩ := h
    rfl
  · obtain ⟨d, c, rfl, hD, q⟩ := h
    refine ⟨_, (Evl.pss_cut (ps_set (i := 1) sc_l_web.nd rfl (.inl rfl) (pe_ix ix_list (pe_lst (pa_cons (pe_op op_add pe_int (pe_call GD hr (by rfl) gD kD bD .nil pass0 (pa_cons (pv 0) (pa_cons pe_int pa_nil)))) (pa_cons (pe_op op_add pe_int (pe_call GD hr (by rfl) gD kD bD .nil pass0 (pa_cons (pv 0) (pa_cons pe_int pa_nil)))) pa_nil))) (pe_callTy call_int1 (by rfl) M.int (by decide +kernel) (pa_cons (pe_cmpR op_eq (pe_call GD hr (by rfl) gD kD bD .nil pass0 (pa_cons (pv 0) (pa_cons pe_int pa_nil))) pe_int (nomark _)) pa_nil)) (fun _ _ => rfl)))
      (Evl.pss_cut (ps_set (i := 2) sc_l_web.nd rfl (.inl rfl) (pe_ix ix_list (pe_lst (pa_cons (pe_call GD hr (by rfl) gD kD bD .nil pass0 (pa_cons (pv 0) (pa_cons pe_int pa_nil))) (pa_cons (pe_call GD hr (by rfl) gD kD bD .nil pass0 (pa_cons (pv 0) (pa_cons pe_int pa_nil))) pa_nil))) (pe_callTy call_int1 (by rfl) M.int (by decide +kernel) (pa_cons (pe_cmpR op_eq (pe_call GD hr (by rfl) gD kD bD .nil pass0 (pa_cons (pv 0) (pa_cons pe_int pa_nil))) pe_int (nomark _)) pa_nil)) (fun _ _ => rfl)))
      (pss_cons (ps_set (i := 3) sc_l_web.nd rfl (.inl rfl) (pe_lst pa_nil))
      (pss_cons (ps_for PassesOwn.never rfl (pi_range1 (by rfl) M.range (pa_cons (pe_op op_mul (pv 2) (pe_callTy call_int1 (by rfl) M.int (by decide +kernel) (pa_cons (pe_cmpR op_gt (pv 1) pe_int (nomark _)) pa_nil))) pa_nil)) (pg_name (i := 4) sc_l_web.nd rfl (.inl rfl))
        (pss_cons (ps_set (i := 5) sc_l_web.nd rfl (.inl rfl) (pe_call GD hr (by rfl) gD kD bD .nil pass0 (pa_cons (pv 0) (pa_cons (pv 1) pa_nil))))
        (pss_cons (ps_set (i := 6) sc_l_web.nd rfl (.inl rfl) (pe_op op_mod (pe_op op_add (pe_op op_add (pv 5) pe_int) (pe_call GD hr (by rfl) gD kD bD .nil pass0 (pa_cons (pv 0) (pa_cons (pe_op op_sub (pv 1) pe_int) pa_nil)))) (pv 1)))
        (Evl.pss_cut (ps_if (PW.pt (pw_and (pt_cmpR (op_neE hr.units0) (pv 3) (pe_lst pa_nil) (nomark _)) (pw_and1 (pt_cmpR op_eq (pe_call GD hr (by rfl) gD kD bD .nil pass0 (pa_cons (pv 0) (pa_cons pe_int pa_nil))) pe_int (nomark _)))))
          (pss_one (ps_asg (pe_slice sl_tupA (pe_ix ix_list (pv 3) (pe_call GD hr (by rfl) gD kD bD .nil pass0 (pa_cons (pv 0) (pa_cons (pe_callB call_len_seq (by rfl) M.len PySem.boot_len (pa_cons (pv 3) pa_nil)) pa_nil))) (fun _ _ => rfl)) po_none (po_some pe_int)) (pg_tup rfl (pgs_cons (pg_name (i := 6) sc_l_web.nd rfl (.inl rfl)) (pgs_cons (pg_name (i := 5) sc_l_web.nd rfl (.inl rfl)) pgs_nil)))))
          pss_nil)
        (pss_one (ps_expr (pe_bm PySem.F.plainAttrs_list PySem.F.slot_list_append PySem.F.type_list_append mt_append (pv 3) (pa_cons (pe_tup (pa_cons (pv 5) (pa_cons (pv 6) (pa_cons (pe_ix ix_list (pe_lst (pa_cons pe_str (pa_cons pe_str pa_nil))) (pe_call GD hr (by rfl) gD kD bD .nil pass0 (pa_cons (pv 0) (pa_cons pe_int pa_nil))) (fun _ _ => rfl)) pa_nil)))) pa_nil))))))))
      (pss_one (ps_ret (pe_tup (pa_cons (pv 1) (pa_cons (pe_callTy call_tuple_of (by rfl) M.tuple (by decide +kernel) (pa_cons (pv 3) pa_nil)) pa_nil))))))))), ?_⟩
    -- many
    refine ⟨fun σ' H' => ∃ n : Int, σ' = [some (.ref d), some (.int n), none, none, none, none, none] ∧ 1 ≤ n ∧ n ≤ 40 ∧ Deck H' d c ∧ Kp d c H H', ?_, ?_⟩
    · refine ⟨.ref d, rfl, d, c, 6, rfl, hD, by decide, by decide, fun v1 H1 a1 b1 D1 K1 => ⟨1, v1, rfl, rfl, .ref d, rfl, d, c, 40, rfl, D1, by decide, by decide, fun v2 H2 a2 b2 D2 K2 => ⟨1, v2, rfl, rfl, by show 2 ≤ sizeLine; decide, fun p np => ?_⟩⟩⟩
      refine ⟨.ref d, rfl, d, c, 8, rfl, D2.new np, by decide, by decide, fun v3 H3 a3 b3 D3 K3 => ⟨rfl, .inr ⟨_, rfl, p, _, _, _, rfl, rfl, SqL.of (K3 p _ (D2.ned np).1 (D2.ned np).2 upd_same), pick2 _ _ _, ?_⟩⟩⟩
      have K := ((K1.trans K2).trans (Kp.new (o := .lst [.int (1 + v1), .int (1 + v2)]) np)).trans K3
      by_cases hk : decide (V.int v3 = V.int 5) = true
      · rw [hk]
        exact ⟨1 + v2, rfl, by omega, by omega, D3, K⟩
      · rw [Bool.not_eq_true] at hk
        rw [hk]
        exact ⟨1 + v1, rfl, by omega, by omega, D3, K⟩
    rintro σ' H0 ⟨n, rfl, hn1, hn2, hD0, K0⟩
    -- count
    refine ⟨fun σ' H' => ∃ k : Int, σ' = [some (.ref d), some (.int n), some (.int k), none, none, none, none] ∧ 0 ≤ k ∧ k ≤ 120 ∧ Deck H' d c ∧ Kp d c H H', ?_, ?_⟩
    · refine ⟨.ref d, rfl, d, c, 13, rfl, hD0, by decide, by decide, fun v1 H1 a1 b1 D1 K1 => ⟨.ref d, rfl, d, c, 121, rfl, D1, by decide, by decide, fun v2 H2 a2 b2 D2 K2 => ⟨by show 2 ≤ sizeLine; decide, fun p np => ?_⟩⟩⟩
      refine ⟨.ref d, rfl, d, c, 8, rfl, D2.new np, by decide, by decide, fun v3 H3 a3 b3 D3 K3 => ⟨rfl, .inr ⟨_, rfl, p, _, _, _, rfl, rfl, SqL.of (K3 p _ (D2.ned np).1 (D2.ned np).2 upd_same), pick2 _ _ _, ?_⟩⟩⟩
      have K := (((K0.trans K1).trans K2).trans (Kp.new (o := .lst [.int v1, .int v2]) np)).trans K3
      by_cases hk : decide (V.int v3 = V.int 3) = true
      · rw [hk]
        exact ⟨v2, rfl, by omega, by omega, D3, K⟩
      · rw [Bool.not_eq_true] at hk
        rw [hk]
        exact ⟨v1, rfl, by omega, by omega, D3, K⟩
    clear hD0 K0 H0
    rintro σ' H0 ⟨k, rfl, hk1, hk2, hD0, K0⟩
    -- ties = []
    refine ⟨Nat.zero_le _, fun L nL => ?_⟩
    have hLd := hD0.ned nL
    have nL0 : H L = none := by
      cases e : H L with
      | none => rfl
      | some o =>
        rw [K0 L o hLd.1 hLd.2 e] at nL
        cases nL
    -- the loop
    refine ⟨.int k, rfl, .int n, rfl, n, 1, rfl, rfl, .inr ⟨_, rfl, k, _, rfl, rfl, .inl ⟨by omega, by omega⟩, _, rfl, ?_, ?_, ?_⟩⟩
    · by_cases hb : decide ((1 : Int) < n) = true
      · rw [hb]
        show -(2 ^ 62) ≤ k * 1
        omega
      · rw [Bool.not_eq_true] at hb
        rw [hb]
        show -(2 ^ 62) ≤ k * 0
        omega
    · by_cases hb : decide ((1 : Int) < n) = true
      · rw [hb]
        show k * 1 < 2 ^ 62
        omega
      · rw [Bool.not_eq_true] at hb
        rw [hb]
        show k * 0 < 2 ^ 62
        omega
    generalize hN : (k * (if decide ((1 : Int) < n) = true then 1 else 0)).toNat = N
    have hN2 : N ≤ 120 ∧ (0 < N → 1 < n) := by
      by_cases hb : (1 : Int) < n
      · rw [if_pos (decide_eq_true hb)] at hN
        exact ⟨by omega, fun _ => hb⟩
      · rw [if_neg (by simpa using hb)] at hN
        exact ⟨by omega, fun z => by omega⟩
    refine for_range (lo := 0) (n := N) (fun i σ' H' => ∃ (y4 y5 y6 : Option V) (vs : List V) (ts : List Tie), σ' = [some (.ref d), some (.int n), some (.int k), some (.ref L), y4, y5, y6] ∧ H' L = some (.lst vs) ∧ Paired (TieV H') vs ts ∧ ts.length = i ∧ (∀ t ∈ ts, TieOk n t) ∧ Deck H' d c ∧ Kp d c H H') ?_ ?_ ?_
    · exact ⟨none, none, none, [], [], rfl, upd_same, .nil, rfl, fun t ht => by simp at ht, hD0.new nL, K0.trans (Kp.new nL)⟩
    · rintro i σ' H1 hi ⟨y4, y5, y6, vs, ts, rfl, hL, hP, hlen, hok, D1, K1⟩
      have hn := hN2.2 (by omega)
      -- one, other
      refine ⟨.ref d, rfl, .int n, rfl, d, c, n, rfl, D1, by omega, by omega, fun v1 H2 a1 b1 D2 K2 => ?_⟩
      refine ⟨.int v1, rfl, v1, 1, rfl, rfl, .ref d, rfl, .int n, rfl, n, 1, rfl, rfl, d, c, n - 1, rfl, D2, by omega, by omega, fun v2 H3 a2 b2 D3 K3 => ⟨v1 + 1, v2, rfl, rfl, .int n, rfl, _, n, rfl, rfl, show (0 : Int) < n by omega, ?_⟩⟩
      have hL3 : H3 L = some (.lst vs) := K3 _ _ hLd.1 hLd.2 (K2 _ _ hLd.1 hLd.2 hL)
      have hP3 : Paired (TieV H3) vs ts := ties_tk ((K2.tk D1).trans (K3.tk D2)) hP
      have K13 : Kp d c H H3 := (K1.trans K2).trans K3
      -- as one ahead, the other way about
      refine ⟨fun σ' H' => ∃ (y4 : Option V) (t : Tie), σ' = [some (.ref d), some (.int n), some (.int k), some (.ref L), y4, some (.int t.one), some (.int t.other)] ∧ TieOk n t ∧ H' L = some (.lst vs) ∧ Paired (TieV H') vs ts ∧ Deck H' d c ∧ Kp d c H H', ?_, ?_⟩
      · have ok1 : TieOk n ⟨v1, (v1 + 1 + v2) % n, false⟩ := ⟨a1, b1, (mod_rng (by omega)).1, (mod_rng (by omega)).2, other_ne a1 b1 a2 b2⟩
        refine ⟨.ref L, rfl, Nat.zero_le _, fun p np => ⟨L, p, vs, rfl, rfl, SqL.of (same_new np _ _ hL3), SqL.of upd_same, _, rfl, ?_⟩⟩
        by_cases hvs : vs = []
        · subst hvs
          exact ⟨_, ⟨v1, (v1 + 1 + v2) % n, false⟩, rfl, ok1, same_new np _ _ hL3, ties_tk (Same.tk (same_new np)) hP3, D3.new np, K13.trans (Kp.new np)⟩
        · have hpos : 0 < vs.length := List.length_pos_iff.mpr hvs
          have hb : (!vs.isEmpty) = true := by
            cases vs with
            | nil => exact absurd rfl hvs
            | cons z zs => rfl
          rw [hb]
          refine ⟨.ref d, rfl, d, c, 4, rfl, D3.new np, by decide, by decide, fun v3 H4 a3 b3 D4 K4 => ⟨rfl, _, rfl, ?_⟩⟩
          have hL4 : H4 L = some (.lst vs) := K4 _ _ hLd.1 hLd.2 (same_new np _ _ hL3)
          have hP4 : Paired (TieV H4) vs ts := ties_tk (K4.tk (D3.new np)) (ties_tk (Same.tk (same_new np)) hP3)
          have K14 : Kp d c H H4 := (K13.trans (Kp.new np)).trans K4
          refine ite2 (fun _ => ?_) (fun _ => ?_)
          · have hlv : vs.length = ts.length := Paired.length hP4
            refine ⟨.ref L, rfl, .ref d, rfl, .ref L, rfl, L, vs, rfl, .inl (SqL.of hL4), d, c, vs.length, rfl, D4, by omega, by omega, fun v4 H5 a4 b4 D5 K5 => ?_⟩
            have hL5 : H5 L = some (.lst vs) := K5 _ _ hLd.1 hLd.2 hL4
            have hP5 : Paired (TieV H5) vs ts := ties_tk (K5.tk D4) hP4
            obtain ⟨v, e1, e2⟩ := getI a4 b4
            obtain ⟨t, e3, a, rfl, e4⟩ := Paired.at hP5 e2
            have okt : TieOk n t := hok t (List.mem_of_getElem? e3)
            refine ⟨L, vs, v4, _, rfl, rfl, SqL.of hL5, e1, 2, rfl, a, _, rfl, SqT.of e4, fun z => absurd z.2 (show ¬ (HT.sIx 3 3 (some 2) = 3) by decide), fun _ q2 nq => ?_⟩
            refine ⟨q2, _, rfl, SqT.of upd_same, rfl, _, _, rfl, _, _, rfl, rfl, _, ⟨t.other, t.one, false⟩, rfl, ⟨okt.2.2.1, okt.2.2.2.1, okt.1, okt.2.1, Ne.symm okt.2.2.2.2⟩, same_new nq _ _ hL5, ties_tk (Same.tk (same_new nq)) hP5, D5.new nq, (K14.trans K5).trans (Kp.new nq)⟩
          · exact ⟨_, ⟨v1, (v1 + 1 + v2) % n, false⟩, rfl, ok1, hL4, hP4, D4, K14⟩
      rintro σ' H4 ⟨y, t, rfl, okt, hL4, hP4, D4, K4⟩
      -- append
      refine ⟨.ref L, rfl, .inl ⟨rfl, _, SqL.of hL4⟩, .int t.one, rfl, .int t.other, rfl, by show 2 ≤ sizeLine; decide, fun p np => ⟨.ref d, rfl, d, c, 2, rfl, D4.new np, by decide, by decide, fun v5 H5 a5 b5 D5 K5 => ?_⟩⟩
      have e5 : atI [V.str "friend", V.str "foe"] v5 = some (.str (kindS (decide (v5 = 1)))) := by
        have h01 : v5 = 0 ∨ v5 = 1 := by omega
        rcases h01 with e | e <;> subst e <;> rfl
      refine ⟨p, _, v5, _, rfl, rfl, SqL.of (K5 p _ (D4.ned np).1 (D4.ned np).2 upd_same), e5, by show 3 ≤ sizeLine; decide, fun q2 nq => ?_⟩
      have hL5 : H5 L = some (.lst vs) := K5 _ _ hLd.1 hLd.2 (same_new np _ _ hL4)
      have hL6 : (upd H5 q2 (.tup [.int t.one, .int t.other, .str (kindS (decide (v5 = 1)))])) L = some (.lst vs) := same_new nq _ _ hL5
      have hP6 := ties_tk (Same.tk (same_new (o := .tup [.int t.one, .int t.other, .str (kindS (decide (v5 = 1)))]) nq)) (ties_tk (K5.tk (D4.new np)) (ties_tk (Same.tk (same_new np)) hP4))
      have hlv : vs.length = ts.length := Paired.length hP4
      refine ⟨L, vs, _, rfl, rfl, hL6, small1000 (by omega), ?_⟩
      refine ⟨_, _, _, vs ++ [.ref q2], ts ++ [⟨t.one, t.other, decide (v5 = 1)⟩], rfl, upd_same, Paired.snoc (ties_tk (tk_lst hL6) hP6) ⟨q2, rfl, tk_lst hL6 _ _ upd_same⟩, by rw [List.length_append, hlen]; rfl, fun t' ht => ?_, (D5.new nq).mut hLd.1 hLd.2, (((K4.trans (Kp.new np)).trans K5).trans (Kp.new nq)).mut nL0⟩
      rcases List.mem_append.mp ht with h | h
      · exact hok t' h
      · rw [List.mem_singleton.mp h]
        exact okt
    · rintro σ' H1 ⟨y4, y5, y6, vs, ts, rfl, hL, hP, hlen, hok, D1, K1⟩
      -- return
      refine ⟨.int n, rfl, .ref L, rfl, L, vs, rfl, .inl ⟨SqL.of hL, fun b nb => ⟨by show 2 ≤ sizeLine; decide, fun a na => ?_⟩⟩⟩
      have s2 := (same_new (o := .tup vs) nb).trans (same_new (o := .tup [.int n, .ref b]) na)
      exact q _ n ts _ ⟨a, b, vs, rfl, upd_same, same_new na _ _ upd_same, ties_tk (Same.tk s2) hP⟩ ⟨hn1, hn2, by omega, hok⟩ (D1.same s2) (K1.trans (Same.kp s2))
end
/-! ### tuples cut and put together -/
section
variable {X : Cx}
theorem cutV_whole {xs : List V} {lo hi : Option Int} (h : HT.sIx xs.length 0 lo = 0 ∧ HT.sIx xs.length xs.length hi = xs.length) : cutV xs lo hi = xs := by
  unfold cutV
  rw [h.1, h.2]
  simp
def rSlU : V → Option Int → Option Int → Hp → VK → Prop := fun x lo hi H Q => ∃ a xs, x = .ref a ∧ H a = some (.tup xs) ∧ ∀ r H', Same H H' → H' r = some (.tup (cutV xs lo hi)) → Q (.ref r) H'
theorem sl_tupU : SlR X rSlU := by
  intro pins s σ H x v vl vu lo hi sl Q I rx hs pl pu h
  obtain ⟨a, xs, rfl, hx, q⟩ := h
  refine sl_tupA pins s σ H _ v vl vu lo hi sl Q I rx hs pl pu ⟨a, xs, rfl, SqT.of hx, fun hw => ?_, fun _ p np => ?_⟩
  · exact q a H (Same.refl H) (by rw [cutV_whole hw]; exact hx)
  · exact q p _ (same_new np) upd_same
def rCatU : R2 := fun x y H Q => ∃ a b xs ys, x = .ref a ∧ y = .ref b ∧ H a = some (.tup xs) ∧ H b = some (.tup ys) ∧ xs.length + ys.length ≤ 100000 ∧ ∀ r H', Same H H' → H' r = some (.tup (xs ++ ys)) → Q (.ref r) H'
theorem op_catU : OpR X (binaryOp .Add) rCatU := by
  intro pins s σ H x y v u Q I rx ry h
  obtain ⟨a, b, xs, ys, rfl, rfl, ha, hb, hz, q⟩ := h
  refine op_catA pins s σ H _ _ v u Q I rx ry ⟨a, b, xs, ys, rfl, rfl, SqT.of ha, SqT.of hb, Evl.sz_of hz, fun e => ?_, fun _ e => ?_, fun _ _ p np => ?_⟩
  · subst e
    exact q b H (Same.refl H) hb
  · subst e
    exact q a H (Same.refl H) (by rw [List.append_nil]; exact ha)
  · exact q p _ (same_new np) upd_same
end
/-! ### things of any kind -/
/-- its kind is known -/
def Kn (H : Hp) : V → Prop
  | .non => True
  | .bl _ => True
  | .int _ => True
  | .str _ => True
  | .ref a => (∃ xs, H a = some (.lst xs)) ∨ (∃ xs, H a = some (.tup xs)) ∨ ∃ kvs, H a = some (.dK kvs)
  | _ => False
def isI : V → Bool
  | .int _ => true
  | .bl _ => true
  | _ => false
def isB : V → Bool
  | .bl _ => true
  | _ => false
def isW : V → Bool
  | .int _ => true
  | _ => false
def isT (H : Hp) : V → Bool
  | .ref a => match H a with
    | some (.tup _) => true
    | _ => false
  | _ => false
section
variable {K : PySem.W.Frag} {H : Hp}
theorem kn_int {v : V} (h : Kn H v) : ∃ t, TyX K H v t ∧ PySem.W.kitOne K t (.type "int") = some (isI v) := by
  cases v with
  | non => exact ⟨_, .base .non, kit_ty (r := false) (by decide +kernel)⟩
  | bl b => exact ⟨_, .base (.bl b), kit_ty (r := true) (by decide +kernel)⟩
  | int i => exact ⟨_, .base (.int i), kit_ty (r := true) (by decide +kernel)⟩
  | str x => exact ⟨_, .base (.str x), kit_ty (r := false) (by decide +kernel)⟩
  | ref a =>
    rcases h with ⟨xs, h⟩ | ⟨xs, h⟩ | ⟨xs, h⟩
    · exact ⟨_, .base (.lst h), kit_ty (r := false) (by decide +kernel)⟩
    · exact ⟨_, .base (.tup h), kit_ty (r := false) (by decide +kernel)⟩
    · exact ⟨_, .base (.dK h), kit_ty (r := false) (by decide +kernel)⟩
  | byt b => exact h.elim
  | flt b => exact h.elim
  | ty n => exact h.elim
theorem kn_bool {v : V} (h : Kn H v) : ∃ t, TyX K H v t ∧ PySem.W.kitOne K t (.type "bool") = some (isB v) := by
  cases v with
  | non => exact ⟨_, .base .non, kit_ty (r := false) (by decide +kernel)⟩
  | bl b => exact ⟨_, .base (.bl b), kit_ty (r := true) (by decide +kernel)⟩
  | int i => exact ⟨_, .base (.int i), kit_ty (r := false) (by decide +kernel)⟩
  | str x => exact ⟨_, .base (.str x), kit_ty (r := false) (by decide +kernel)⟩
  | ref a =>
    rcases h with ⟨xs, h⟩ | ⟨xs, h⟩ | ⟨xs, h⟩
    · exact ⟨_, .base (.lst h), kit_ty (r := false) (by decide +kernel)⟩
    · exact ⟨_, .base (.tup h), kit_ty (r := false) (by decide +kernel)⟩
    · exact ⟨_, .base (.dK h), kit_ty (r := false) (by decide +kernel)⟩
  | byt b => exact h.elim
  | flt b => exact h.elim
  | ty n => exact h.elim
theorem kn_tup {v : V} (h : Kn H v) : ∃ t, TyX K H v t ∧ PySem.W.kitOne K t (.type "tuple") = some (isT H v) := by
  cases v with
  | non => exact ⟨_, .base .non, kit_ty (r := false) (by decide +kernel)⟩
  | bl b => exact ⟨_, .base (.bl b), kit_ty (r := false) (by decide +kernel)⟩
  | int i => exact ⟨_, .base (.int i), kit_ty (r := false) (by decide +kernel)⟩
  | str x => exact ⟨_, .base (.str x), kit_ty (r := false) (by decide +kernel)⟩
  | ref a =>
    unfold isT
    rcases h with ⟨xs, h⟩ | ⟨xs, h⟩ | ⟨xs, h⟩
    · exact ⟨_, .base (.lst h), by simp only [h]; exact kit_ty (r := false) (by decide +kernel)⟩
    · exact ⟨_, .base (.tup h), by simp only [h]; exact kit_ty (r := true) (by decide +kernel)⟩
    · exact ⟨_, .base (.dK h), by simp only [h]; exact kit_ty (r := false) (by decide +kernel)⟩
  | byt b => exact h.elim
  | flt b => exact h.elim
  | ty n => exact h.elim
theorem isT_at {v : V} (h : isT H v = true) : ∃ a xs, v = .ref a ∧ H a = some (.tup xs) := by
  cases v with
  | ref a =>
    unfold isT at h
    cases e : H a with
    | none => simp only [e] at h; cases h
    | some o =>
      cases o with
      | tup xs => exact ⟨a, xs, rfl, e⟩
      | _ => simp only [e] at h; cases h
  | _ => cases h
theorem isT_of {a : Addr} {xs : List V} (h : H a = some (.tup xs)) : isT H (.ref a) = true := by
  unfold isT
  simp only [h]
end
section
variable {P : Program} {w : World} {K : PySem.W.Frag} {mg : Str → Option Value} {base : Heap}
def spWhole : Sp := fun vs H Q _ => ∃ v, vs = [v] ∧ Kn H v ∧ Q (.bl (isW v)) H
theorem and_whole {v : V} : (isI v && !isB v) = isW v := by cases v <;> rfl
theorem ok_is_whole {f : Addr} {fd : FuncData} (F : Fun K "is_whole" "is_whole" s_is_whole f fd) (M : Free mg) : FnOk P w K mg base CX0 1 f fd ["thing"] spWhole := by
  refine F.ok sc_is_whole (fun vs H Q E h => ?_) (fun cdv A outer s H vs Q E hr h => ?_)
  · obtain ⟨v, rfl, _⟩ := h
    rfl
  · obtain ⟨v, rfl, hk, q⟩ := h
    refine ⟨_, (pss_one (ps_ret (pe_and (pe_callB call_isi (by rfl) M.isinstance (by decide +kernel) (pa_cons (pv 0) (pa_cons (pe_bltn (v := .ty "int") (by rfl) M.int (by decide +kernel) rfl) pa_nil))) (pe_one (pe_not (pe_callB call_isi (by rfl) M.isinstance (by decide +kernel) (pa_cons (pv 0) (pa_cons (pe_bltn (v := .ty "bool") (by rfl) M.bool (by decide +kernel) rfl) pa_nil)))))))), ?_⟩
    obtain ⟨t1, h1, e1⟩ := kn_int (K := K) hk
    obtain ⟨t2, h2, e2⟩ := kn_bool (K := K) hk
    refine ⟨v, rfl, v, _, t1, _, _, rfl, .ty "int", h1, e1, _, rfl, ?_⟩
    rw [← and_whole] at q
    cases hi : isI v with
    | false =>
      rw [hi] at q
      exact q
    | true =>
      rw [hi] at q
      exact ⟨v, rfl, v, _, t2, _, _, rfl, .ty "bool", h2, e2, _, rfl, q⟩
def wfrom (lo : Int) : V → Bool
  | .int i => decide (lo ≤ i)
  | _ => false
def spFrom : Sp := fun vs H Q _ => ∃ lo v, vs = [.int lo, v] ∧ Kn H v ∧ Q (.bl (wfrom lo v)) H
theorem ok_is_whole_from {f : Addr} {fd : FuncData} (F : Fun K "is_whole_from" "is_whole_from" s_is_whole_from f fd) (Dw : Df P w K mg base 1 "is_whole" ["thing"] spWhole) : FnOk P w K mg base CX0 2 f fd ["low", "thing"] spFrom := by
  obtain ⟨fW, fdW, GW, gW, kW, bW⟩ := Dw
  refine F.ok sc_is_whole_from (fun vs H Q E h => ?_) (fun cdv A outer s H vs Q E hr h => ?_)
  · obtain ⟨lo, v, rfl, _⟩ := h
    rfl
  · obtain ⟨lo, v, rfl, hk, q⟩ := h
    refine ⟨_, (pss_one (ps_ret (pe_and (pe_call GW hr (by rfl) gW kW bW .nil pass0 (pa_cons (pv 1) pa_nil)) (pe_one (pe_cmpR op_ge (pv 1) (pv 0) (nomark _)))))), ?_⟩
    refine ⟨v, rfl, v, rfl, hk, _, rfl, ?_⟩
    cases v with
    | int i => exact ⟨.int i, rfl, .int lo, rfl, i, lo, rfl, rfl, q⟩
    | _ => exact q
/-- the parts of a tuple -/
def parts (H : Hp) : V → Option (List V)
  | .ref a => match H a with
    | some (.tup xs) => some xs
    | _ => none
  | _ => none
theorem parts_of' {H : Hp} {a : Addr} {xs : List V} (h : H a = some (.tup xs)) : parts H (.ref a) = some xs := by
  unfold parts
  simp only [h]
theorem parts_none {H : Hp} {v : V} (h : isT H v = false) : parts H v = none := by
  cases v with
  | ref a =>
    unfold isT at h
    unfold parts
    cases e : H a with
    | none => simp only [e]
    | some o =>
      cases o with
      | tup xs => simp only [e] at h; cases h
      | _ => simp only [e]
  | _ => rfl
def lenIs (H : Hp) (v : V) (n : Int) : Bool := match parts H v with
  | some xs => decide ((xs.length : Int) = n)
  | none => false
def spTupleOf : Sp := fun vs H Q _ => ∃ n v, vs = [.int n, v] ∧ Kn H v ∧ Q (.bl (lenIs H v n)) H
theorem dec_int (a b : Int) : decide (V.int a = V.int b) = decide (a = b) := by
  by_cases h : a = b
  · rw [decide_eq_true h, h, decide_eq_true rfl]
  · rw [decide_eq_false h, decide_eq_false (fun z => h (V.int.inj z))]
theorem ok_is_tuple_of {f : Addr} {fd : FuncData} (F : Fun K "is_tuple_of" "is_tuple_of" s_is_tuple_of f fd) (M : Free mg) : FnOk P w K mg base CX0 1 f fd ["length", "thing"] spTupleOf := by
  refine F.ok sc_is_tuple_of (fun vs H Q E h => ?_) (fun cdv A outer s H vs Q E hr h => ?_)
  · obtain ⟨n, v, rfl, _⟩ := h
    rfl
  · obtain ⟨n, v, rfl, hk, q⟩ := h
    refine ⟨_, (pss_one (ps_ret (pe_and (pe_callB call_isi (by rfl) M.isinstance (by decide +kernel) (pa_cons (pv 1) (pa_cons (pe_bltn (v := .ty "tuple") (by rfl) M.tuple (by decide +kernel) rfl) pa_nil))) (pe_one (pe_cmpR op_eq (pe_callB call_len_seq (by rfl) M.len PySem.boot_len (pa_cons (pv 1) pa_nil)) (pv 0) (nomark _)))))), ?_⟩
    obtain ⟨t1, h1, e1⟩ := kn_tup (K := K) hk
    refine ⟨v, rfl, v, _, t1, _, _, rfl, .ty "tuple", h1, e1, _, rfl, ?_⟩
    unfold lenIs at q
    cases hi : isT H v with
    | false =>
      rw [parts_none hi] at q
      exact q
    | true =>
      obtain ⟨a, xs, rfl, e⟩ := isT_at hi
      rw [parts_of' e] at q
      refine ⟨.ref a, rfl, a, xs, rfl, .inr (SqT.of e), .int n, rfl, rfl, ?_⟩
      rw [dec_int]
      exact q
/-! ### a def whose code object stands at c: its own table is at Pt -/
structure FunC (K : PySem.W.Frag) (x qual : Str) (st : Stmt) (f : Addr) (fd : FuncData) (c : Addr) : Prop where
  ex : ∃ (oc : Value) (od : Option Addr) (kV doc pm : Value) (an : Option Addr) (ct : Value) (osl : Array (Option Value)),
    fd = PySem.W.fnOf x qual (defArgs st) (defBody st) (defScope st) .none kV doc pm an (.ref c) ct ∧ K.lookup f = some ⟨oc, od, .func fd, osl⟩ ∧ PySem.W.codeIn K (.ref c) qual = true
  kp : PySem.W.keepIn K (.ref f) = true
theorem FunC.ok {x qual : Str} {st : Stmt} {f c : Addr} {fd : FuncData} {N ps : List Str} {k : Nat} {sp : Sp} (F : FunC K x qual st f fd c) (S : FnScope N ps (defScope st)) (len : ∀ vs H Q E, sp vs H Q E → vs.length = ps.length)
    (hbody : ∀ (A : Around) (outer : List Env) (s : Shared) (H : Hp) (vs : List V) (Q : VK) (E : XK), Room k (A.deeper (envOfC qual (defScope st) s.heap.objs.size f (.ref c))) → sp vs H Q E →
      ∃ t, PSs (cxOf CX0 P w K mg base N qual (defScope st) f (.ref c) A outer s H E).nox (defBody st) t ∧ t { nx := fun _ H' => Q .non H', rt := Q } (start N vs) H) : FnOk P w K mg base CX0 (k + 1) f fd ps sp := by
  obtain ⟨oc, od, kV, doc, pm, an, ct, osl, rfl, lk, hcd⟩ := F.ex
  refine fn_of lk hcd S len fun A outer s H vs Q E hr hsp => ?_
  obtain ⟨t, h, q⟩ := hbody A outer s H vs Q E hr hsp
  exact ⟨t, h.nox, q⟩
theorem FunC.fn {x qual : Str} {st : Stmt} {f c : Addr} {fd : FuncData} (F : FunC K x qual st f fd c) : Fun K x qual st f fd := by
  obtain ⟨oc, od, kV, doc, pm, an, ct, osl, rfl, lk, hcd⟩ := F.ex
  exact ⟨⟨oc, od, kV, doc, pm, an, _, ct, osl, rfl, lk, hcd⟩, F.kp⟩
theorem parts_at {H : Hp} {v : V} {xs : List V} (h : parts H v = some xs) : ∃ a, v = .ref a ∧ H a = some (.tup xs) := by
  cases v with
  | ref a =>
    unfold parts at h
    cases e : H a with
    | none => simp only [e] at h; cases h
    | some o =>
      cases o with
      | tup ys => simp only [e] at h; cases h; exact ⟨a, rfl, e⟩
      | _ => simp only [e] at h; cases h
  | _ => cases h
end
/-! ### all but the tables is kept -/
structure Kt (Ps : List Addr) (H H' : Hp) : Prop where
  tab : ∀ P ∈ Ps, GxR.TabG H' P
  keep : ∀ b o, b ∉ Ps → H b = some o → H' b = some o
def Tabs (Ps : List Addr) (H : Hp) : Prop := ∀ P ∈ Ps, GxR.TabG H P
theorem Kt.refl {Ps : List Addr} {H : Hp} (h : Tabs Ps H) : Kt Ps H H := ⟨h, fun _ _ _ e => e⟩
theorem Kt.trans {Ps : List Addr} {H H1 H2 : Hp} (a : Kt Ps H H1) (b : Kt Ps H1 H2) : Kt Ps H H2 := ⟨b.tab, fun x o h e => b.keep x o h (a.keep x o h e)⟩
theorem Kt.same {Ps : List Addr} {H H' : Hp} (h : Tabs Ps H) (s : Same H H') : Kt Ps H H' := ⟨fun P hP => by obtain ⟨ps, e, t⟩ := h P hP; exact ⟨ps, s _ _ e, t⟩, fun b o _ e => s b o e⟩
theorem Kt.tabbed {Ps : List Addr} {P : Addr} {H H' : Hp} (h : Tabs Ps H) (hP : P ∈ Ps) (t : GxR.Tabbed P H H') : Kt Ps H H' := by
  refine ⟨fun Q hQ => ?_, fun b o hb e => ?_⟩
  · by_cases e : Q = P
    · rw [e]
      exact t.1
    · obtain ⟨ps, e1, t1⟩ := h Q hQ
      exact ⟨ps, by rw [t.2 Q e]; exact e1, t1⟩
  · rw [t.2 b (fun z => hb (by rw [z]; exact hP))]
    exact e
theorem Tabs.out {Ps : List Addr} {H : Hp} {a : Addr} {o : HO} (t : Tabs Ps H) (h : H a = some o) (no : ∀ ps, o ≠ .tbl ps) : a ∉ Ps := fun z => by
  obtain ⟨ps, e, _⟩ := t a z
  rw [e] at h
  cases h
  exact no _ rfl
theorem Kt.tup {Ps : List Addr} {a : Addr} {H H' : Hp} {xs : List V} (k : Kt Ps H H') (t : Tabs Ps H) (h : H a = some (.tup xs)) : H' a = some (.tup xs) := k.keep a _ (t.out h fun _ z => by cases z) h
theorem Kt.lst {Ps : List Addr} {a : Addr} {H H' : Hp} {xs : List V} (k : Kt Ps H H') (t : Tabs Ps H) (h : H a = some (.lst xs)) : H' a = some (.lst xs) := k.keep a _ (t.out h fun _ z => by cases z) h
theorem Kt.dct {Ps : List Addr} {a : Addr} {H H' : Hp} {xs : List (Key × V)} (k : Kt Ps H H') (t : Tabs Ps H) (h : H a = some (.dK xs)) : H' a = some (.dK xs) := k.keep a _ (t.out h fun _ z => by cases z) h
theorem Kt.tk {Ps : List Addr} {H H' : Hp} (k : Kt Ps H H') (t : Tabs Ps H) : Tk H H' := fun _ _ e => k.tup t e
theorem Kt.kn {Ps : List Addr} {H H' : Hp} (k : Kt Ps H H') (t : Tabs Ps H) {v : V} (h : Kn H v) : Kn H' v := by
  cases v with
  | ref a =>
    rcases h with ⟨xs, h⟩ | ⟨xs, h⟩ | ⟨xs, h⟩
    · exact .inl ⟨xs, k.lst t h⟩
    · exact .inr (.inl ⟨xs, k.tup t h⟩)
    · exact .inr (.inr ⟨xs, k.dct t h⟩)
  | _ => exact h
theorem Kt.deck {Ps : List Addr} {d c : Addr} {H H' : Hp} (k : Kt Ps H H') (t : Tabs Ps H) (D : Deck H d c) : Deck H' d c := by
  obtain ⟨cells, st, n, e1, e2, e3⟩ := D
  exact ⟨cells, st, n, k.lst t e1, k.lst t e2, e3⟩
/-! ### x in t of data of any depth -/
def rInT (K : PySem.W.Frag) : R2 := fun x y H Q => ∃ d ds, Dp K H x d ∧ Dp K H y (.tuple ds) ∧ SeqAt.shaped d = true ∧ SeqAt.shaped (.tuple ds) = true ∧ Q (.bl (ds.any fun z => PyData.eqv z d)) H
theorem op_inTup {X : Cx} (hu : X.A.units + 65 < cLine) : OpR X (compareOp .In) (rInT X.K) := by
  intro pins s σ H x y v u Q I rx ry want
  obtain ⟨d, ds, hd, he, sd, se, q⟩ := want
  obtain ⟨as, r1⟩ := Dp.reads I d x v hd rx
  obtain ⟨bs, r2⟩ := Dp.reads I (.tuple ds) y u he ry
  have lay : PyData.canLayAll0 ds = true := by
    have z := SeqAt.canLay_of_shaped se
    rw [PyData.canLay0] at z
    exact z
  have deep := SeqAt.depth_of_shaped sd
  exact SeqAt.in_tuple_reads r2 r1 lay (SeqAt.canLay_of_shaped sd) (by omega) ⟨.bl _, H, I, rfl, q⟩
/-! ### whole numbers below a limit -/
def wbelow (lim : Int) : V → Bool
  | .int i => decide (0 ≤ i) && decide (i < lim)
  | _ => false
def spBelow : Sp := fun vs H Q _ => ∃ lim v, vs = [.int lim, v] ∧ Kn H v ∧ Q (.bl (wbelow lim v)) H
section
variable {P : Program} {w : World} {K : PySem.W.Frag} {mg : Str → Option Value} {base : Heap}
theorem ok_is_whole_below {f : Addr} {fd : FuncData} (F : Fun K "is_whole_below" "is_whole_below" s_is_whole_below f fd) (D1 : Df P w K mg base 1 "is_whole" ["thing"] spWhole) : FnOk P w K mg base CX0 2 f fd ["limit", "thing"] spBelow := by
  obtain ⟨f1, fd1, G1, g1, k1, b1⟩ := D1
  refine F.ok sc_is_whole_below (fun vs H Q E h => ?_) (fun cdv A outer s H vs Q E hr h => ?_)
  · obtain ⟨lim, v, rfl, _⟩ := h
    rfl
  · obtain ⟨lim, v, rfl, hk, q⟩ := h
    refine ⟨_, (pss_one (ps_ret (pe_and (pe_call G1 hr (by rfl) g1 k1 b1 .nil pass0 (pa_cons (pv 1) pa_nil)) (pe_one (pe_chain op_le op_lt pe_int (pv 1) (pv 0)))))), ?_⟩
    refine ⟨v, rfl, v, rfl, hk, _, rfl, ?_⟩
    cases v with
    | int i =>
      refine ⟨.int i, rfl, 0, i, rfl, rfl, _, rfl, ?_⟩
      have e : wbelow lim (.int i) = (decide (0 ≤ i) && decide (i < lim)) := rfl
      rw [e] at q
      by_cases h0 : (0 : Int) ≤ i
      · rw [decide_eq_true h0] at q ⊢
        rw [Bool.true_and] at q
        exact ⟨.int lim, rfl, i, lim, rfl, rfl, q⟩
      · rw [decide_eq_false h0] at q ⊢
        exact q
    | _ => exact q
end
/-! ### a text against a dict -/
section
open PySem.SeqAt PySem.MeetsSeq
open PySem.AutoSeq1 (wpAny_loadPart')
variable {A : Around} {s : Shared}
theorem str_eq_declines_dict (b : Str) (u : Tok) (l : Addr) (o : Obj) : Meets (Builtin.«str.__eq__» ⟨[.str b u, .ref l], []⟩) (fun _ R s => s.heap.get? l = some o ∧ o.cls = .type "dict" ∧ (∃ es ep, o.data = .dict es ep) ∧ R (.ok (.ret .notImplemented)) s) :=
  .of_wp fun prog w A R s h => by
    obtain ⟨hp, g, d, tk, os⟩ := s
    obtain ⟨hl, hc, ⟨es, ep, hd⟩, h⟩ := h
    obtain ⟨cls, dd, data, sl⟩ := o
    simp only at hc hd
    subst hc hd
    wp_walk using wpAny_loadPart' hl, wpAny_load hl
    exact ⟨_, rfl, h⟩
theorem dict_eq_declines_str (l : Addr) (o : Obj) (b : Str) (u : Tok) : Meets (Builtin.«dict.__eq__» ⟨[.ref l, .str b u], []⟩) (fun _ R s => s.heap.get? l = some o ∧ o.cls = .type "dict" ∧ (∃ es ep, o.data = .dict es ep) ∧ R (.ok (.ret .notImplemented)) s) :=
  .of_wp fun prog w A R s h => by
    obtain ⟨hp, g, d, tk, os⟩ := s
    obtain ⟨hl, hc, ⟨es, ep, hd⟩, h⟩ := h
    obtain ⟨cls, dd, data, sl⟩ := o
    simp only at hc hd
    subst hc hd
    have f1 := F.sub_str_dict
    wp_walk using wpAny_loadPart' hl
    exact ⟨_, rfl, h⟩
theorem rc_str_dict {l : Addr} {o : Obj} {es : Array DictEntry} {ep : Nat} (b : Str) (u : Tok) (ho : s.heap.get? l = some o) (hc : o.cls = .type "dict") (hd : o.data = .dict es ep) (hu : A.units < cLine) : RcAt A s (.str b u) (.ref l) false := fun prog w E Q h => by
  exact rc_eq_decline_or (k := false) (typeIs_str s b u) ⟨_, ho, hc⟩ (by decide) F.sub_dict_str F.slot_str_eq F.slot_dict_eq_refl
    (fun _ hq => call_meets F.slot_str_eq (typeIs_str s b u) F.entry_str_eq (F.args_str_eq_2 _ _) (str_eq_declines_dict b u l o) ⟨ho, hc, ⟨_, _, hd⟩, hq⟩)
    (fun _ hq => call_meets F.slot_dict_eq_refl ⟨_, ho, hc⟩ F.entry_dict_eq (F.args_dict_eq_2 _ _) (dict_eq_declines_str l o b u) ⟨ho, hc, ⟨_, _, hd⟩, hq⟩)
    (fun _ hq => wpAny_of_eq (rfl : isSame (.str b u) (.ref l) = pure false) hq) (.inr hu) h
theorem eq_str_dict {l : Addr} {o : Obj} {es : Array DictEntry} {ep : Nat} (b : Str) (u : Tok) (ho : s.heap.get? l = some o) (hc : o.cls = .type "dict") (hd : o.data = .dict es ep) (hu : A.units < cLine) : EqAt A s (.str b u) (.ref l) false := fun prog w E Q h => by
  unfold eqBool
  refine wpAny_holding ?_
  refine wpAny_ite_split (fun hab => absurd (eq_of_beq hab) nofun) (fun _ => ?_)
  exact wpAny_bind (rc_str_dict b u ho hc hd hu prog w E _ (wpAny_truthy_bool h))
end
/-! ### kind in KINDS -/
def KD (K : PySem.W.Frag) (H : Hp) (x : V) : Prop := (∃ d, Dp K H x d ∧ SeqAt.shaped d = true) ∨ (∃ a kvs, x = .ref a ∧ H a = some (.dK kvs)) ∨ ∃ t, x = .str t
def inK (ss : List Str) : V → Bool
  | .str t => ss.any fun y => y == t
  | _ => false
def rInK (K : PySem.W.Frag) : R2 := fun x y H Q => ∃ b ss, y = .ref b ∧ SqT K H b (ss.map V.str) ∧ PyData.canLayAll0 (ss.map PyData.str) = true ∧ KD K H x ∧ Q (.bl (inK ss x)) H
theorem dp_strs {K : PySem.W.Frag} {H : Hp} : ∀ (ss : List Str), DpAll K H (ss.map V.str) (ss.map PyData.str)
  | [] => .nil
  | s :: ss => .cons (.str s) (dp_strs ss)
theorem depth_strs : ∀ (ss : List Str), PyData.depthAll (ss.map PyData.str) = 0
  | [] => rfl
  | s :: ss => by rw [List.map_cons, PyData.depthAll, depth_strs ss]; rfl
theorem inK_eqv {K : PySem.W.Frag} {H : Hp} {x : V} {d : PyData} (h : Dp K H x d) (ss : List Str) : ((ss.map PyData.str).any fun y => PyData.eqv y d) = inK ss x := by
  have no : (∀ y : Str, PyData.eqv (.str y) d = false) → ((ss.map PyData.str).any fun y => PyData.eqv y d) = false := fun h => by
    rw [List.any_map, List.any_eq_false]
    intro y _
    simp only [Function.comp]
    rw [h y]
    exact Bool.false_ne_true
  cases h with
  | str t =>
    rw [List.any_map]
    rfl
  | _ => exact no fun y => rfl
theorem op_inK {X : Cx} (hu : X.A.units + 65 < cLine) : OpR X (compareOp .In) (rInK X.K) := by
  intro pins s σ H x y v u Q I rx ry want
  obtain ⟨b, ss, rfl, hb, lay, hk, q⟩ := want
  obtain rfl : u = Value.ref b := ry
  rcases hk with ⟨d, hd, sd⟩ | ⟨a, kvs, rfl, ha⟩ | ⟨t, rfl⟩
  · obtain ⟨as, r1⟩ := Dp.reads I d x v hd rx
    obtain ⟨bs, r2⟩ := Dp.reads I (.tuple (ss.map .str)) (.ref b) (.ref b) (.tup hb (dp_strs ss)) rfl
    refine SeqAt.in_tuple_reads r2 r1 lay (SeqAt.canLay_of_shaped sd) (by rw [depth_strs]; omega) ⟨.bl _, H, I, rfl, ?_⟩
    rw [inK_eqv hd ss]
    exact q
  · obtain rfl : v = Value.ref a := rx
    obtain ⟨its, rv, ⟨o, ho, hc, n, hd⟩, hlen⟩ := I.tuple hb
    obtain ⟨hz, hne, vs, kv, o2, es, ep, ho2, ed, hd2, ko, pr, nd⟩ := I.hok a _ ha
    have ev : ∀ y ∈ its, ∃ (t : Str) (k : Tok), y = .str t k := fun y hy => by
      obtain ⟨i, hi, rfl⟩ := List.getElem_of_mem hy
      have hl : i < ss.length := by
        have := rv.length
        rw [List.length_map] at this
        omega
      obtain ⟨u, eu, ru⟩ := Vals.get (i := i) (x := .str ss[i]) rv (by rw [List.getElem?_map, List.getElem?_eq_getElem hl]; rfl)
      rw [List.getElem?_eq_getElem hi] at eu
      obtain ⟨t, et⟩ := ru
      exact ⟨_, t, (Option.some.inj eu).trans et⟩
    refine SeqAt.in_tupleAt (fun _ => false) ⟨o, ho, hc, n, hd⟩ (fun y hy => ?_) ?_
    · obtain ⟨t, k, rfl⟩ := ev y (by simpa using hy)
      exact eq_str_dict t k ho2 ed.1 hd2 (by show X.A.units + 1 < cLine; omega)
    · refine ⟨.bl false, H, I, ?_, q⟩
      show Value.bool _ = Value.bool false
      rw [Array.any_eq_false.mpr (fun _ _ => Bool.false_ne_true)]
  · refine op_in_seq pins s σ H (.str t) (.ref b) v (.ref b) Q I rx rfl ⟨b, ss.map V.str, rfl, .inr hb, rfl, flat_strs ss, ?_⟩
    have e : inV (.str t) (ss.map V.str) = inK ss (.str t) := by
      unfold inV inK
      rw [List.any_map]
      rfl
    show Q (.bl (inV (.str t) (ss.map V.str))) H
    rw [e]
    exact q
theorem lay_kinds : PyData.canLayAll0 ([("friend" : Str), "foe"].map PyData.str) = true := by decide +kernel
/-! ### k01: what is a web -/
theorem room65 {k : Nat} {A : PySem.Around} (r : Room k A) : A.units + 65 < cLine := by have := r.un; omega
def kindsL : List Str := ["friend", "foe"]
def unlB (many : Int) (a b : V) : Bool := wbelow many a && (wbelow many b && !decide (a = b))
def tieB (H : Hp) (many : Int) (v : V) : Bool := match parts H v with
  | some [a, b, c] => unlB many a b && inK kindsL c
  | _ => false
def TieK (K : PySem.W.Frag) (H : Hp) (v : V) : Prop := Kn H v ∧ ∀ xs, parts H v = some xs → (∀ x ∈ xs, Kn H x) ∧ ∀ a b c, xs = [a, b, c] → KD K H c
def spUnlPl : Sp := fun vs H Q _ => ∃ (many : Int) (a b : V), vs = [.int many, a, b] ∧ Kn H a ∧ Kn H b ∧ Q (.bl (unlB many a b)) H
def spTie (K : PySem.W.Frag) : Sp := fun vs H Q _ => ∃ (many : Int) (v : V), vs = [.int many, v] ∧ TieK K H v ∧ Q (.bl (tieB H many v)) H
section
variable {P : Program} {w : World} {K : PySem.W.Frag} {mg : Str → Option Value} {base : Heap}
theorem wbelow_int {many : Int} {v : V} (h : wbelow many v = true) : ∃ i, v = .int i := by
  cases v with
  | int i => exact ⟨i, rfl⟩
  | _ => cases h
theorem ok_unlike_places {f : Addr} {fd : FuncData} (F : Fun K "are_unlike_places" "are_unlike_places" s_are_unlike_places f fd) (D1 : Df P w K mg base 2 "is_whole_below" ["limit", "thing"] spBelow) : FnOk P w K mg base CX0 3 f fd ["many", "one", "other"] spUnlPl := by
  obtain ⟨f1, fd1, G1, g1, k1, b1⟩ := D1
  refine F.ok sc_are_unlike_places (fun vs H Q E h => ?_) (fun cdv A outer s H vs Q E hr h => ?_)
  · obtain ⟨many, a, b, rfl, _⟩ := h
    rfl
  · obtain ⟨many, a, b, rfl, ka, kb, q⟩ := h
    refine ⟨_, (pss_one (ps_ret (pe_and (pe_call G1 hr (by rfl) g1 k1 b1 .nil pass0 (pa_cons (pv 0) (pa_cons (pv 1) pa_nil))) (pe_and (pe_call G1 hr (by rfl) g1 k1 b1 .nil pass0 (pa_cons (pv 0) (pa_cons (pv 2) pa_nil))) (pe_one (pe_cmpR op_ne (pv 1) (pv 2) (nomark _))))))), ?_⟩
    refine ⟨.int many, rfl, a, rfl, many, a, rfl, ka, _, rfl, ?_⟩
    unfold unlB at q
    cases h1 : wbelow many a with
    | false =>
      rw [h1] at q
      exact q
    | true =>
      rw [h1] at q
      refine ⟨.int many, rfl, b, rfl, many, b, rfl, kb, _, rfl, ?_⟩
      cases h2 : wbelow many b with
      | false =>
        rw [h2] at q
        exact q
      | true =>
        rw [h2] at q
        obtain ⟨i, rfl⟩ := wbelow_int h1
        obtain ⟨j, rfl⟩ := wbelow_int h2
        exact ⟨.int i, rfl, .int j, rfl, rfl, q⟩
theorem ok_is_tie {f ka : Addr} {fd : FuncData} (F : Fun K "is_tie" "is_tie" s_is_tie f fd) (mk : mg "KINDS" = some (.ref ka)) (hk : ∀ H, SqT K H ka (kindsL.map V.str)) (D1 : Df P w K mg base 1 "is_tuple_of" ["length", "thing"] spTupleOf) (D2 : Df P w K mg base 3 "are_unlike_places" ["many", "one", "other"] spUnlPl) : FnOk P w K mg base CX0 4 f fd ["many", "thing"] (spTie K) := by
  obtain ⟨f1, fd1, G1, g1, k1, b1⟩ := D1
  obtain ⟨f2, fd2, G2, g2, k2, b2⟩ := D2
  refine F.ok sc_is_tie (fun vs H Q E h => ?_) (fun cdv A outer s H vs Q E hr h => ?_)
  · obtain ⟨many, v, rfl, _⟩ := h
    rfl
  · obtain ⟨many, v, rfl, ⟨kv, kp⟩, q⟩ := h
    refine ⟨_, (pss_cons (ps_if (pt_not (pt_val (pe_call G1 (hr.mono (by decide)) (by rfl) g1 k1 b1 .nil pass0 (pa_cons pe_int (pa_cons (pv 1) pa_nil)))))
        (pss_one (ps_ret pe_bl))
        pss_nil)
      (pss_cons (ps_asg (pv 1) (pg_tup rfl (pgs_cons (pg_name (i := 2) sc_is_tie.nd rfl (.inl rfl)) (pgs_cons (pg_name (i := 3) sc_is_tie.nd rfl (.inl rfl)) (pgs_cons (pg_name (i := 4) sc_is_tie.nd rfl (.inl rfl)) pgs_nil)))))
      (pss_one (ps_ret (pe_and (pe_call G2 hr (by rfl) g2 k2 b2 .nil pass0 (pa_cons (pv 0) (pa_cons (pv 2) (pa_cons (pv 3) pa_nil)))) (pe_one (pe_cmpR (op_inK (room65 hr)) (pv 4) (pe_glob (v := .ref ka) rfl mk rfl) rfl))))))), ?_⟩
    refine ⟨v, rfl, 3, v, rfl, kv, _, rfl, ?_⟩
    unfold tieB at q
    cases hpt : parts H v with
    | none =>
      have e0 : lenIs H v 3 = false := by
        unfold lenIs
        rw [hpt]
      rw [e0]
      rw [hpt] at q
      exact q
    | some xs =>
      have e0 : lenIs H v 3 = decide ((xs.length : Int) = 3) := by
        unfold lenIs
        rw [hpt]
      rw [e0]
      rw [hpt] at q
      obtain ⟨kx, k3⟩ := kp xs hpt
      by_cases hl : (xs.length : Int) = 3
      · rw [decide_eq_true hl]
        match xs, hl, hpt, kx, k3, q with
        | [a, b, c], _, hpt, kx, k3, q =>
          obtain ⟨va, rfl, ha⟩ : ∃ va, v = .ref va ∧ H va = some (.tup [a, b, c]) := by
            cases v with
            | ref va =>
              rcases kv with ⟨ys, h⟩ | ⟨ys, h⟩ | ⟨ys, h⟩
              · rw [parts_none (by unfold isT; simp only [h])] at hpt; cases hpt
              · rw [parts_of' h] at hpt; cases hpt; exact ⟨va, rfl, h⟩
              · rw [parts_none (by unfold isT; simp only [h])] at hpt; cases hpt
            | _ => rw [parts_none rfl] at hpt; cases hpt
          refine ⟨.ref va, rfl, va, _, rfl, SqT.of ha, rfl, _, _, rfl, _, _, rfl, _, _, rfl, rfl, ?_⟩
          refine ⟨.int many, rfl, a, rfl, b, rfl, many, a, b, rfl, kx a (by simp), kx b (by simp), _, rfl, ?_⟩
          have q : Q (.bl (unlB many a b && inK kindsL c)) H := q
          cases h1 : unlB many a b with
          | false =>
            rw [h1] at q
            exact q
          | true =>
            rw [h1] at q
            exact ⟨c, rfl, ka, kindsL, rfl, hk H, lay_kinds, k3 a b c rfl, q⟩
      · rw [decide_eq_false hl]
        have e1 : (match some xs with
            | some [a, b, c] => unlB many a b && inK kindsL c
            | _ => false) = false := by
          match xs, hl with
          | [], _ => rfl
          | [_], _ => rfl
          | [_, _], _ => rfl
          | [_, _, _], hl => exact absurd rfl hl
          | _ :: _ :: _ :: _ :: _, _ => rfl
        rw [e1] at q
        exact q
end
def webB (H : Hp) (v : V) : Bool := match parts H v with
  | some [.int i, t] => decide (1 ≤ i) && (match parts H t with
    | some ts => ts.all (tieB H i)
    | none => false)
  | _ => false
def WebK (K : PySem.W.Frag) (H : Hp) (v : V) : Prop := Kn H v ∧ ∀ xs, parts H v = some xs → (∀ x ∈ xs, Kn H x) ∧ ∀ m t, xs = [m, t] → ∀ ts, parts H t = some ts → ∀ x ∈ ts, TieK K H x
def spIsWeb (K : PySem.W.Frag) (Ps : List Addr) : Sp := fun vs H Q _ => ∃ v, vs = [v] ∧ WebK K H v ∧ Tabs Ps H ∧ ∀ H', Kt Ps H H' → Q (.bl (webB H v)) H'
theorem kt_parts {Ps : List Addr} {H H' : Hp} (k : Kt Ps H H') (t : Tabs Ps H) {v : V} (h : Kn H v) : parts H' v = parts H v := by
  cases v with
  | ref a =>
    unfold parts
    rcases h with ⟨xs, h⟩ | ⟨xs, h⟩ | ⟨xs, h⟩
    · simp only [h, k.lst t h]
    · simp only [h, k.tup t h]
    · simp only [h, k.dct t h]
  | _ => rfl
theorem tup_of_parts {H : Hp} {v : V} {xs : List V} (kv : Kn H v) (hpt : parts H v = some xs) : ∃ a, v = .ref a ∧ H a = some (.tup xs) := by
  cases v with
  | ref va =>
    rcases kv with ⟨ys, h⟩ | ⟨ys, h⟩ | ⟨ys, h⟩
    · rw [parts_none (by unfold isT; simp only [h])] at hpt; cases hpt
    · rw [parts_of' h] at hpt; cases hpt; exact ⟨va, rfl, h⟩
    · rw [parts_none (by unfold isT; simp only [h])] at hpt; cases hpt
  | _ => rw [parts_none rfl] at hpt; cases hpt
mutual
theorem Dp.kt {K : PySem.W.Frag} {Ps : List Addr} {H H' : Hp} (k : Kt Ps H H') (t : Tabs Ps H) : ∀ {v : V} {d : PyData}, Dp K H v d → Dp K H' v d
  | _, _, .non => .non
  | _, _, .bl b => .bl b
  | _, _, .int i => .int i
  | _, _, .str x => .str x
  | _, _, .lst hs ha => .lst (by
      rcases hs with (h | ⟨o, h⟩) | h
      · exact .inl (.inl (k.lst t h))
      · exact .inl (.inr ⟨o, k.keep _ _ (t.out h fun _ z => by cases z) h⟩)
      · exact .inr h) (DpAll.kt k t ha)
  | _, _, .tup hs ha => .tup (by
      rcases hs with (h | ⟨o, h⟩) | h
      · exact .inl (.inl (k.tup t h))
      · exact .inl (.inr ⟨o, k.keep _ _ (t.out h fun _ z => by cases z) h⟩)
      · exact .inr h) (DpAll.kt k t ha)
theorem DpAll.kt {K : PySem.W.Frag} {Ps : List Addr} {H H' : Hp} (k : Kt Ps H H') (t : Tabs Ps H) : ∀ {vs : List V} {ds : List PyData}, DpAll K H vs ds → DpAll K H' vs ds
  | _, _, .nil => .nil
  | _, _, .cons h r => .cons (Dp.kt k t h) (DpAll.kt k t r)
end
theorem KD.kt {K : PySem.W.Frag} {Ps : List Addr} {H H' : Hp} (k : Kt Ps H H') (t : Tabs Ps H) {v : V} (h : KD K H v) : KD K H' v := by
  rcases h with ⟨d, h1, h2⟩ | ⟨a, kvs, e, h⟩ | ⟨x, e⟩
  · exact .inl ⟨d, Dp.kt k t h1, h2⟩
  · exact .inr (.inl ⟨a, kvs, e, k.dct t h⟩)
  · exact .inr (.inr ⟨x, e⟩)
theorem TieK.kt {K : PySem.W.Frag} {Ps : List Addr} {H H' : Hp} (k : Kt Ps H H') (t : Tabs Ps H) {v : V} (h : TieK K H v) : TieK K H' v := ⟨k.kn t h.1, fun xs e => by
  rw [kt_parts k t h.1] at e
  exact ⟨fun x hx => k.kn t ((h.2 xs e).1 x hx), fun a b c z => ((h.2 xs e).2 a b c z).kt k t⟩⟩
theorem tie_kt {K : PySem.W.Frag} {Ps : List Addr} {H H' : Hp} (k : Kt Ps H H') (t : Tabs Ps H) {v : V} (h : TieK K H v) (many : Int) : tieB H' many v = tieB H many v := by
  unfold tieB
  rw [kt_parts k t h.1]
section
variable {P : Program} {w : World} {K : PySem.W.Frag} {mg : Str → Option Value} {base : Heap}
theorem ok_is_web {f c Pt : Addr} {fd : FuncData} {Ps : List Addr} (F : FunC K "is_web" "is_web" s_is_web f fd c) (TB : GxR.TabB base mg c Pt) (hPt : Pt ∈ Ps) (M : Free mg) (hall : mg "all" = none) (D1 : Df P w K mg base 1 "is_tuple_of" ["length", "thing"] spTupleOf) (D2 : Df P w K mg base 2 "is_whole_from" ["low", "thing"] spFrom) (D3 : Df P w K mg base 4 "is_tie" ["many", "thing"] (spTie K)) : FnOk P w K mg base CX0 6 f fd ["thing"] (spIsWeb K Ps) := by
  obtain ⟨f1, fd1, G1, g1, k1, b1⟩ := D1
  obtain ⟨f2, fd2, G2, g2, k2, b2⟩ := D2
  obtain ⟨f3, fd3, G3, g3, k3, b3⟩ := D3
  refine F.ok sc_is_web (fun vs H Q E h => ?_) (fun A outer s H vs Q E hr h => ?_)
  · obtain ⟨v, rfl, _⟩ := h
    rfl
  · obtain ⟨v, rfl, ⟨kv, kp⟩, hT, q⟩ := h
    refine ⟨_, (pss_cons (ps_if (pt_not (pt_val (pe_call G1 (hr.mono (by decide)) (by rfl) g1 k1 b1 .nil pass0 (pa_cons pe_int (pa_cons (pv 0) pa_nil)))))
        (pss_one (ps_ret pe_bl))
        pss_nil)
      (pss_cons (ps_asg (pv 0) (pg_tup rfl (pgs_cons (pg_name (i := 1) sc_is_web.nd rfl (.inr rfl)) (pgs_cons (pg_name (i := 2) sc_is_web.nd rfl (.inl rfl)) pgs_nil))))
      (pss_cons (ps_if (PW.pt (pw_or (pt_not (pt_val (pe_call G2 (hr.mono (by decide)) (by rfl) g2 k2 b2 .nil pass0 (pa_cons pe_int (pa_cons (pv 1) pa_nil))))) (pw_or1 (pt_not (pt_val (pe_callB call_isi (by rfl) M.isinstance (by decide +kernel) (pa_cons (pv 2) (pa_cons (pe_bltn (v := .ty "tuple") (by rfl) M.tuple (by decide +kernel) rfl) pa_nil))))))))
        (pss_one (ps_ret pe_bl))
        pss_nil)
      (pss_one (ps_ret (pe_all (k := 4) (own := [("tie", 3)]) (g := gName 3) hr TB rfl rfl sc_is_web.nd (by rfl) hall (pi_tup (pv 2)) (blkOk_by (N := N_is_web) (sc := defScope s_is_web) (own := [("tie", 3)]) (by decide +kernel)) ⟨rfl, by decide +kernel, by decide +kernel⟩ (show (".0" : Str) ∉ N_is_web by decide +kernel)
        (fun _ _ _ _ _ _ _ => pg_name (i := 3) sc_is_web.nd rfl (.inl rfl)) (fun _ _ _ _ _ _ _ hr' => pe_call G3 hr' (by rfl) g3 k3 b3 .nil pass0 (pa_cons (pv 1) (pa_cons (pv 3) pa_nil))))))))), ?_⟩
    refine ⟨v, rfl, 2, v, rfl, kv, _, rfl, ?_⟩
    unfold webB at q
    cases hpt : parts H v with
    | none =>
      have e0 : lenIs H v 2 = false := by
        unfold lenIs
        rw [hpt]
      rw [e0]
      rw [hpt] at q
      exact q _ (Kt.refl hT)
    | some xs =>
      have e0 : lenIs H v 2 = decide ((xs.length : Int) = 2) := by
        unfold lenIs
        rw [hpt]
      rw [e0]
      rw [hpt] at q
      obtain ⟨kx, k3⟩ := kp xs hpt
      obtain ⟨va, rfl, ha⟩ := tup_of_parts kv hpt
      by_cases hl : (xs.length : Int) = 2
      · rw [decide_eq_true hl]
        match xs, hl, hpt, kx, k3, q, ha with
        | [m, t], _, hpt, kx, k3, q, ha =>
          have km := kx m (by simp)
          have kt' := kx t (by simp)
          refine ⟨.ref va, rfl, va, _, rfl, SqT.of ha, rfl, _, _, rfl, _, _, rfl, rfl, ?_⟩
          refine ⟨m, rfl, 1, m, rfl, km, _, rfl, ?_⟩
          cases m with
          | int i =>
            have q : ∀ H', Kt Ps H H' → Q (.bl (decide (1 ≤ i) && (match parts H t with
              | some ts => ts.all (tieB H i)
              | none => false))) H' := q
            have ew : wfrom 1 (.int i) = decide (1 ≤ i) := rfl
            rw [ew]
            by_cases h1 : (1 : Int) ≤ i
            · rw [decide_eq_true h1] at q ⊢
              rw [Bool.true_and] at q
              obtain ⟨t1, y1, e1⟩ := kn_tup (K := K) kt'
              refine ⟨t, rfl, t, _, t1, _, _, rfl, .ty "tuple", y1, e1, _, rfl, ?_⟩
              cases hi : isT H t with
              | false =>
                rw [parts_none hi] at q
                exact q _ (Kt.refl hT)
              | true =>
                obtain ⟨ta, ts, rfl, hta⟩ := isT_at hi
                have hp2 := parts_of' hta
                rw [hp2] at q
                have tk := k3 _ _ rfl ts hp2
                have q : ∀ H', Kt Ps H H' → Q (.bl (ts.all (tieB H i))) H' := q
                refine ⟨.ref ta, rfl, ta, rfl, ⟨_, SqT.of hta⟩, hT Pt hPt, fun j m H' => j + m = ts.length ∧ Kt Ps H H' ∧ (ts.take j).all (tieB H i) = true, fun H2 hH2 => ⟨ts.length, by omega, Kt.tabbed hT hPt hH2, rfl⟩, fun j m H' hw => ?_⟩
                obtain ⟨em, kt, hal⟩ := hw
                have hta' := kt.tup hT hta
                by_cases hj : j < ts.length
                · refine .inr ⟨⟨_, _, SqT.of hta', List.getElem?_eq_getElem hj⟩, fun H3 => Kt Ps H H3 ∧ (ts.take (j + 1)).all (tieB H i) = true, fun H3 n3 => ⟨m - 1, by omega, by omega, n3.1, n3.2⟩, fun x H3 hy => ?_⟩
                  obtain ⟨rfl, fy⟩ := hy
                  have ex : ts[j]? = some x := fy _ (SqT.of hta')
                  have tx := tk x (List.mem_of_getElem? ex)
                  refine ⟨rfl, .int i, rfl, x, rfl, i, x, rfl, tx.kt kt hT, _, rfl, ?_⟩
                  rw [tie_kt kt hT tx]
                  have step : (ts.take (j + 1)).all (tieB H i) = tieB H i x := by
                    rw [List.take_add_one, ex, List.all_append, hal]
                    simp
                  cases hb : tieB H i x with
                  | true => exact ⟨kt, step.trans hb⟩
                  | false =>
                    have no : ts.all (tieB H i) = false := by
                      rw [Bool.eq_false_iff]
                      intro z
                      rw [List.all_eq_true] at z
                      rw [z x (List.mem_of_getElem? ex)] at hb
                      cases hb
                    rw [no] at q
                    exact q _ kt
                · refine .inl ⟨⟨_, SqT.of hta', by omega⟩, ?_⟩
                  rw [List.take_of_length_le (by omega)] at hal
                  rw [hal] at q
                  exact q _ kt
            · rw [decide_eq_false h1] at q ⊢
              exact q _ (Kt.refl hT)
          | bl _ => exact q _ (Kt.refl hT)
          | non => exact q _ (Kt.refl hT)
          | str _ => exact q _ (Kt.refl hT)
          | ref _ => exact q _ (Kt.refl hT)
          | byt x => exact km.elim
          | flt x => exact km.elim
          | ty x => exact km.elim
      · rw [decide_eq_false hl]
        refine (?_ : Q (.bl false) H)
        match xs, hl, q with
        | [], _, q => exact q _ (Kt.refl hT)
        | [x], _, q => cases x <;> exact q _ (Kt.refl hT)
        | [_, _], hl, _ => exact absurd rfl hl
        | x :: _ :: _ :: _, _, q => cases x <;> exact q _ (Kt.refl hT)
end
/-! ### first, *rest = a list -/
section
variable {X : Cx} {pos : Pos}
def gStarL (K : PySem.W.Frag) (t : TGs) : TG := fun v σ H Q => ∃ a x xs, v = .ref a ∧ SqL K H a (x :: xs) ∧ xs.length ≤ 1000000 ∧ ∀ D, H D = none → t [x, .ref D] σ (upd H D (.lst xs)) Q
theorem pgs_star {e : Expr} {p : Pos} {es : List Expr} {t : TG} {u : TGs} (h1 : PG X e t) (h2 : PGs X es u)
    (hs : (assignEach (.Starred e p :: es) X.env).map (·.2) = assign e X.env :: (assignEach es X.env).map (·.2) := by rfl) : PGs X (.Starred e p :: es) (gCons t u) := by
  refine ⟨fun pins s σ H vs us Q I r h => ?_⟩
  obtain ⟨v, vr, e1, h⟩ := h
  subst e1
  cases r with
  | cons r rr =>
    rw [hs]
    refine assignInOrder_cons (thn (h1.run pins s σ H _ _ _ I r h) fun _ s1 ⟨σ1, H1, I1, q1⟩ => ?_)
    exact h2.run pins s1 σ1 H1 _ _ Q I1 rr q1
theorem pg_starL {es : List Expr} {k : Nat} {t : TGs} (hc : X.calm = true) (h : PGs X es t)
    (hn : (assignEach es X.env).length = 2 := by rfl) (hst : (assignEach es X.env).findIdx? (·.1) = some 1 := by rfl) : PG X (.Tuple es k pos) (gStarL X.K t) := by
  refine ⟨fun pins s σ H v u Q I r hw => ?_⟩
  obtain ⟨a, x, xs, e1, hq, hlen, hw⟩ := hw
  subst e1
  cases r
  obtain ⟨its, rv, pl, hz⟩ := I.list hq
  have hl' : s.heap.IsList a its.toArray := by
    obtain ⟨o, m, e, c, d, q⟩ := pl
    exact ⟨o, e, c, m, q⟩
  cases rv with
  | @cons _ y _ ys r1 rr =>
    have hh := I.ok.hd hc
    rw [PyProof.Rows.assign_Tuple]
    refine wpAny_bind (wpAny_standAt ?_)
    unfold unpack
    rw [hn, hst]
    refine wpAny_bind (wpAny_holding ?_)
    have hlt : a ≠ s.heap.objs.size := by obtain ⟨o, ho, _⟩ := hl'; exact Nat.ne_of_lt (Heap.lt_size ho)
    unfold unpackItems
    refine wpAny_bind ?_
    unfold notIterableAtAll
    refine wpAny_bind (wpAny_specialOf hl'.typeIs slot_list_iter.lookup ?_)
    refine wpAny_pure ?_
    simp only [Bool.false_eq_true, if_false]
    refine wpAny_bind (wpAny_holding (wpAny_pyIter_list hl' ?_))
    refine wpAny_bind (wpAny_holding (PySem.W.kun_draw hlt 1 0 _ _ ⟨_, Heap.get?_push_size _ rfl, rfl, rfl⟩ (hl'.push _) (by show 0 + 1 ≤ _; simp) fun h₁ hit₁ hs₁ => ?_))
    have hl₁ : h₁.IsList a (y :: ys).toArray := (hl'.push _).extBut hs₁.extBut hlt
    have hit₁' := hit₁
    obtain ⟨oi, hoi, _⟩ := hit₁'
    have hl₁' := hl₁
    obtain ⟨ol, hol, _⟩ := hl₁'
    have hys : ys.length ≤ 1000000 := by
      have := rr.length
      omega
    have e0 : (((y :: ys).toArray.toList.drop 0).take 1) = [y] := rfl
    rw [e0]
    rw [if_neg (show ¬ ([y].length < 1) by simp)]
    refine wpAny_bind (wpAny_holding (PySem.W.kun_collect (s := { s with heap := h₁ }) (T := "list_iterator") (.inr (.inr (.inl rfl))) (PySem.Walks.list (A := X.A.in1) hh s.heap.objs.size a hlt (y :: ys).toArray) (fun j u st => st.1.typeIs) (k := 1) (by simp) ⟨hit₁, hl₁⟩ (Heap.lt_size hoi) (Heap.lt_size hol) (fun h₂ tk hk => ?_) (by rw [sizeLine_eq]; simp; omega)))
    have er : ((y :: ys).toArray.toList.drop 1) = ys := rfl
    rw [er]
    show wpAny _ _ (if ys.length < 2 - 1 - 1 then _ else _) _ _ _
    rw [if_neg (by omega)]
    have hm : ys.take (ys.length - (2 - 1 - 1)) = ys := List.take_of_length_le (by omega)
    show wpAny _ _ (newList (ys.take (ys.length - (2 - 1 - 1))) >>= fun d => pure ([y] ++ [d] ++ ys.drop (ys.length - (2 - 1 - 1)))) _ _ _
    rw [hm]
    have hkept : ∀ b o, s.heap.get? b = some o → h₂.get? b = some o := fun b o e => hk b o (Nat.ne_of_lt (Heap.lt_size e)) (hs₁.extBut b o (Nat.ne_of_lt (Heap.lt_size e)) (Heap.get?_push_of_some _ e))
    have I2 : Inv X pins σ H { s with heap := h₂, toks := tk } := I.kept hkept
    have hp := I2.hok.fresh (Nat.le_refl _)
    refine wpAny_bind (wpAny_newList ?_ (by rw [sizeLine_eq]; omega))
    refine wpAny_pure ?_
    have hd : ys.drop (ys.length - (2 - 1 - 1)) = [] := List.drop_of_length_le (by omega)
    rw [hd]
    have I3 : Inv X pins σ (upd H h₂.objs.size (.lst xs)) { s with heap := h₂.push { cls := .type "list", data := .seq ys.toArray }, toks := tk } :=
      I2.laid (fun b u q => Heap.get?_push_of_some _ q) (Nat.le_refl _) ⟨by rw [sizeLine_eq]; omega, ys, _, rr, Heap.get?_push_size _ rfl⟩
    exact h.run pins _ σ _ [x, .ref h₂.objs.size] _ Q I3 (.cons r1 (.cons rfl .nil)) (hw _ hp)
end
/-! ### webs written: the texts -/
open TL
def numS (x : Int) : Str := toString x
def sSp : Str := " "
def sNl : Str := "\n"
def sWeb : Str := "web"
structure GoodN (x : Int) : Prop where
  lo : 0 ≤ x
  hi : x < 10 ^ 31
def wsL (W : Option (List Int)) (i : Nat) : List Str := match W with
  | none => []
  | some ws => [numS (ws.getD i 0)]
def wordsL (W : Option (List Int)) (i : Nat) (t : Tie) : List Str := [numS t.one, numS t.other, kindS t.foe] ++ wsL W i
def rowsL (W : Option (List Int)) (ts : List Tie) : List (List Str) := ts.mapIdx (wordsL W)
def headS (n : Int) : Str := Txt.join sSp [sWeb, numS n]
def lineS (ws : List Str) : Str := Txt.join sSp ws
def linesL (n : Int) (ts : List Tie) (W : Option (List Int)) : List Str := headS n :: (rowsL W ts).map lineS
def textS (n : Int) (ts : List Tie) (W : Option (List Int)) : Str := Txt.join sNl (linesL n ts W)
/-- the weights are those of the ties -/
def WtsG (ts : List Tie) (W : Option (List Int)) : Prop := ∀ ws, W = some ws → ws.length = ts.length ∧ ∀ x ∈ ws, 1 ≤ x ∧ x ≤ 10 ^ 30
theorem tl_numS {x : Int} (h : 0 ≤ x) : tl (numS x) = numL x.toNat := by
  obtain ⟨k, rfl⟩ := Int.eq_ofNat_of_zero_le h
  exact tl_num k
theorem numS_free {x : Int} (h : 0 ≤ x) {s : Nat} (hs : s < 48 ∨ 57 < s) : s ∉ tl (numS x) := by
  rw [tl_numS h]
  exact numL_free hs
theorem numS_len {x : Int} (h : GoodN x) : (tl (numS x)).length ≤ 31 := by
  rw [tl_numS h.lo]
  refine numL_len (by decide) ?_
  have := h.hi
  have e : ((10 : Int) ^ 31) = ((10 ^ 31 : Nat) : Int) := by decide
  rw [e] at this
  have l := h.lo
  omega
theorem numS_ne {x : Int} (h : GoodN x) : tl (numS x) ≠ [] := by
  rw [tl_numS h.lo]
  exact numL_ne _
theorem int_numS {x : Int} (h : GoodN x) : PySem.intText? (numS x) = some x := by
  obtain ⟨k, rfl⟩ := Int.eq_ofNat_of_zero_le h.lo
  have l := numS_len h
  rw [tl_numS h.lo] at l
  exact int_num (n := k) (by have e : ((k : Int)).toNat = k := rfl; rw [e] at l; omega)
theorem tl_sSp : tl sSp = 32 :: [] := by decide
theorem tl_sNl : tl sNl = 10 :: [] := by decide
theorem kindS_free : ∀ b : Bool, 32 ∉ tl (kindS b) ∧ 10 ∉ tl (kindS b) ∧ (tl (kindS b)).length ≤ 31 := by decide
theorem web_free : 32 ∉ tl sWeb ∧ 10 ∉ tl sWeb ∧ (tl sWeb).length ≤ 31 := by decide
/-- a word: no blank, no end of line, thirty-one signs at most -/
def Word (w : Str) : Prop := 32 ∉ tl w ∧ 10 ∉ tl w ∧ (tl w).length ≤ 31
theorem word_num {x : Int} (h : GoodN x) : Word (numS x) := ⟨numS_free h.lo (.inl (by decide)), numS_free h.lo (.inl (by decide)), numS_len h⟩
theorem joinL_free {S : List Nat} {s : Nat} (hS : s ∉ S) : ∀ {l : List (List Nat)}, (∀ p ∈ l, s ∉ p) → s ∉ joinL S l
  | [], _ => by simp [joinL]
  | [p], h => h p (by simp)
  | p :: q :: r, h => by
    show s ∉ p ++ (S ++ joinL S (q :: r))
    intro z
    rcases List.mem_append.mp z with z | z
    · exact h p (by simp) z
    rcases List.mem_append.mp z with z | z
    · exact hS z
    · exact joinL_free hS (fun y hy => h y (List.mem_cons_of_mem _ hy)) z
theorem joinL_len {S : List Nat} {m : Nat} : ∀ {l : List (List Nat)}, (∀ p ∈ l, p.length ≤ m) → (joinL S l).length ≤ l.length * (m + S.length)
  | [], _ => by simp [joinL]
  | [p], h => by
    have := h p (by simp)
    show p.length ≤ 1 * _
    omega
  | p :: q :: r, h => by
    have h1 := h p (by simp)
    have h2 := joinL_len (S := S) (l := q :: r) (fun y hy => h y (List.mem_cons_of_mem _ hy))
    show (p ++ (S ++ joinL S (q :: r))).length ≤ ((q :: r).length + 1) * _
    rw [List.length_append, List.length_append, Nat.add_mul]
    omega
theorem words_line {l : List Str} (h : ∀ x ∈ l, Word x) (h4 : l.length ≤ 4) : 10 ∉ tl (lineS l) ∧ (tl (lineS l)).length ≤ 128 := by
  unfold lineS
  rw [join_eq, tl_join, tl_sSp]
  refine ⟨joinL_free (by decide) fun p hp => ?_, Nat.le_trans (joinL_len (m := 31) fun p hp => ?_) ?_⟩
  · obtain ⟨z, hz, rfl⟩ := List.mem_map.mp hp
    exact (h z hz).2.1
  · obtain ⟨z, hz, rfl⟩ := List.mem_map.mp hp
    exact (h z hz).2.2
  · rw [List.length_map]
    show l.length * (31 + 1) ≤ 128
    omega
theorem split_words {l : List Str} (h : ∀ x ∈ l, Word x) (h0 : l ≠ []) : Txt.split (lineS l) sSp = l := split_join tl_sSp (by decide +kernel) h0 fun p hp => (h p hp).1
theorem good_small {n : Int} (h0 : 0 ≤ n) (h : n ≤ 1000) : GoodN n := ⟨h0, Int.lt_of_le_of_lt h (by decide)⟩
theorem good_wt {x : Int} (h : 1 ≤ x ∧ x ≤ 10 ^ 30) : GoodN x := ⟨by omega, Int.lt_of_le_of_lt h.2 (by decide)⟩
theorem words_ok {n : Int} {ts : List Tie} {W : Option (List Int)} (ok : WebOk n ts) (hw : WtsG ts W) {i : Nat} {t : Tie} (ht : ts[i]? = some t) : ∀ x ∈ wordsL W i t, Word x := by
  obtain ⟨a0, a1, b0, b1, _⟩ := ok.ok t (List.mem_of_getElem? ht)
  have n40 := ok.hi
  intro x hx
  rcases List.mem_append.mp hx with h | h
  · simp only [List.mem_cons, List.not_mem_nil, or_false] at h
    rcases h with rfl | rfl | rfl
    · exact word_num (good_small a0 (by omega))
    · exact word_num (good_small b0 (by omega))
    · exact kindS_free _
  · cases W with
    | none => cases h
    | some ws =>
      rw [List.mem_singleton.mp h]
      obtain ⟨l, hh⟩ := hw ws rfl
      have li : i < ws.length := by rw [l]; exact (List.getElem?_eq_some_iff.mp ht).1
      rw [List.getD_eq_getElem?_getD, List.getElem?_eq_getElem li]
      exact word_num (good_wt (hh _ (List.getElem_mem li)))
theorem words_len {W : Option (List Int)} {i : Nat} {t : Tie} : (wordsL W i t).length ≤ 4 := by
  cases W <;> simp [wordsL, wsL]
theorem words_ne {W : Option (List Int)} {i : Nat} {t : Tie} : wordsL W i t ≠ [] := by simp [wordsL]
theorem rows_at {W : Option (List Int)} {ts : List Tie} {r : List Str} (h : r ∈ rowsL W ts) : ∃ i t, ts[i]? = some t ∧ r = wordsL W i t := by
  obtain ⟨i, hi⟩ := List.getElem?_of_mem h
  unfold rowsL at hi
  rw [List.getElem?_mapIdx] at hi
  obtain ⟨t, h1, h2⟩ := Option.map_eq_some_iff.mp hi
  exact ⟨i, t, h1, h2.symm⟩
theorem rows_take {W : Option (List Int)} {ts : List Tie} {i : Nat} {t : Tie} (h : ts[i]? = some t) : rowsL W (ts.take (i + 1)) = rowsL W (ts.take i) ++ [wordsL W i t] := by
  have li := (List.getElem?_eq_some_iff.mp h).1
  unfold rowsL
  rw [List.take_add_one, h]
  show (ts.take i ++ [t]).mapIdx _ = _
  rw [List.mapIdx_concat, List.length_take, Nat.min_eq_left (by omega)]
theorem rows_len {W : Option (List Int)} {ts : List Tie} : (rowsL W ts).length = ts.length := by simp [rowsL]
theorem head_ok {n : Int} {ts : List Tie} (ok : WebOk n ts) : ∀ x ∈ [sWeb, numS n], Word x := by
  have := ok.lo
  have := ok.hi
  intro x hx
  simp only [List.mem_cons, List.not_mem_nil, or_false] at hx
  rcases hx with rfl | rfl
  · exact web_free
  · exact word_num (good_small (by omega) (by omega))
theorem lines_ok {n : Int} {ts : List Tie} {W : Option (List Int)} (ok : WebOk n ts) (hw : WtsG ts W) : ∀ x ∈ linesL n ts W, 10 ∉ tl x ∧ (tl x).length ≤ 128 := by
  intro x hx
  rcases List.mem_cons.mp hx with rfl | hx
  · exact words_line (head_ok ok) (by show 2 ≤ 4; omega)
  · obtain ⟨r, hr, rfl⟩ := List.mem_map.mp hx
    obtain ⟨i, t, h1, rfl⟩ := rows_at hr
    exact words_line (words_ok ok hw h1) words_len
theorem lines_len {n : Int} {ts : List Tie} {W : Option (List Int)} : (linesL n ts W).length = ts.length + 1 := by
  show ((rowsL W ts).map lineS).length + 1 = _
  rw [List.length_map, rows_len]
theorem split_text {n : Int} {ts : List Tie} {W : Option (List Int)} (ok : WebOk n ts) (hw : WtsG ts W) : Txt.split (textS n ts W) sNl = linesL n ts W :=
  split_join tl_sNl (by decide +kernel) (by simp [linesL]) fun p hp => (lines_ok ok hw p hp).1
theorem text_len {n : Int} {ts : List Tie} {W : Option (List Int)} (ok : WebOk n ts) (hw : WtsG ts W) : (textS n ts W).length ≤ 20000 := by
  rw [len_tl]
  unfold textS
  rw [join_eq, tl_join, tl_sNl]
  refine Nat.le_trans (joinL_len (m := 128) fun p hp => ?_) ?_
  · obtain ⟨z, hz, rfl⟩ := List.mem_map.mp hp
    exact (lines_ok ok hw z hz).2
  · rw [List.length_map, lines_len]
    have := ok.few
    show (ts.length + 1) * (128 + 1) ≤ 20000
    omega
/-! ### of texts -/
open TL
theorem log_good {x : Int} (h : GoodN x) : x.natAbs.log2 < 1920 := by
  by_cases hx : x.natAbs = 0
  · rw [hx]
    decide
  · have h0 := h.lo
    have h1 := h.hi
    have e : (10 : Int) ^ 31 < ((2 ^ 110 : Nat) : Int) := by decide
    refine (Nat.log2_lt hx).mpr (Nat.lt_of_lt_of_le (show x.natAbs < 2 ^ 110 from ?_) (Nat.pow_le_pow_right (by decide) (by decide)))
    generalize (2 : Nat) ^ 110 = m at e ⊢
    generalize (10 : Int) ^ 31 = k at e h1
    omega
/-- the weights beside the web -/
def WtAt (H : Hp) (v : V) (W : Option (List Int)) : Prop := match W with
  | none => v = .non
  | some ws => ∃ a, v = .ref a ∧ H a = some (.tup (ws.map V.int))
theorem WtAt.tk {H H' : Hp} (k : Tk H H') {v : V} {W : Option (List Int)} (h : WtAt H v W) : WtAt H' v W := by
  cases W with
  | none => exact h
  | some ws =>
    obtain ⟨a, e, h⟩ := h
    exact ⟨a, e, k _ _ h⟩
def spShow : Sp := fun vs H Q _ => ∃ (wv gv : V) (n : Int) (ts : List Tie) (W : Option (List Int)), vs = [wv, gv] ∧ WebAt H wv n ts ∧ WebOk n ts ∧ WtAt H gv W ∧ WtsG ts W ∧ ∀ H', Same H H' → Q (.str (textS n ts W)) H'
theorem one_word {a b : Str} (ha : (tl a).length ≤ 200) (hb : (tl b).length ≤ 200) : (a ++ b).length ≤ sizeLine := by
  rw [sizeLine_eq, len_tl, tl_append, List.length_append]
  omega
theorem head_eq (n : Int) : (Str.empty ++ ("web " : Str)) ++ (toString n : Str) = headS n := by
  refine ext_tl ?_
  rw [tl_append, tl_append]
  unfold headS
  rw [join_eq, tl_join]
  rfl
theorem line_eq (a b k : Str) : Str.empty ++ a ++ (" " : Str) ++ b ++ (" " : Str) ++ k = lineS [a, b, k] := by
  refine ext_tl ?_
  unfold lineS
  rw [join_eq, tl_join]
  simp only [tl_append]
  show ([] ++ tl a ++ tl sSp ++ tl b ++ tl sSp ++ tl k) = tl a ++ (tl sSp ++ (tl b ++ (tl sSp ++ tl k)))
  simp only [List.nil_append, List.append_assoc]
theorem line_eq4 (a b k w : Str) : Str.empty ++ lineS [a, b, k] ++ (" " : Str) ++ w = lineS [a, b, k, w] := by
  refine ext_tl ?_
  unfold lineS
  simp only [join_eq, tl_append, tl_join]
  show ([] ++ (tl a ++ (tl sSp ++ (tl b ++ (tl sSp ++ tl k)))) ++ tl sSp ++ tl w) = tl a ++ (tl sSp ++ (tl b ++ (tl sSp ++ (tl k ++ (tl sSp ++ tl w)))))
  simp only [List.nil_append, List.append_assoc]
theorem app_len (a b : Str) : (a ++ b).length = a.length + b.length := by
  rw [len_tl, tl_append, List.length_append, ← len_tl, ← len_tl]
theorem lens5 {a b k : Str} (ha : a.length ≤ 31) (hb : b.length ≤ 31) (hk : k.length ≤ 31) : (Str.empty ++ a).length ≤ sizeLine ∧ (Str.empty ++ a ++ (" " : Str)).length ≤ sizeLine ∧ (Str.empty ++ a ++ (" " : Str) ++ b).length ≤ sizeLine ∧ (Str.empty ++ a ++ (" " : Str) ++ b ++ (" " : Str)).length ≤ sizeLine ∧ (Str.empty ++ a ++ (" " : Str) ++ b ++ (" " : Str) ++ k).length ≤ sizeLine := by
  have e0 : Str.empty.length = 0 := by decide
  have e1 : (" " : Str).length = 1 := by decide
  rw [sizeLine_eq]
  simp only [app_len, e0, e1]
  omega
theorem lens3 {a b : Str} (ha : a.length ≤ 128) (hb : b.length ≤ 31) : (Str.empty ++ a).length ≤ sizeLine ∧ (Str.empty ++ a ++ (" " : Str)).length ≤ sizeLine ∧ (Str.empty ++ a ++ (" " : Str) ++ b).length ≤ sizeLine := by
  have e0 : Str.empty.length = 0 := by decide
  have e1 : (" " : Str).length = 1 := by decide
  rw [sizeLine_eq]
  simp only [app_len, e0, e1]
  omega
theorem sum_le_mul {m : Nat} : ∀ {l : List Nat}, (∀ x ∈ l, x ≤ m) → l.sum ≤ l.length * m
  | [], _ => by simp
  | x :: r, h => by
    have h1 := h x (by simp)
    have h2 := sum_le_mul (l := r) fun y hy => h y (List.mem_cons_of_mem _ hy)
    rw [List.sum_cons, List.length_cons, Nat.add_mul]
    omega
theorem Word.le {x : Str} (h : Word x) : x.length ≤ 31 := by
  rw [len_tl]
  exact h.2.2
theorem Same.mut {H H' : Hp} {l : Addr} {o : HO} (s : Same H H') (h : H l = none) : Same H (upd H' l o) := fun b u e => by
  rw [upd_ne (ne_of_none e h)]
  exact s b u e
/-! ### own refusals -/
/-- a class of refusals, at D, named x, under WebError, at W -/
structure RefT (K : PySem.W.Frag) (mg : Str → Option Value) (x : Str) (D W : Addr) : Prop where
  gD : mg x = some (.ref D)
  gW : mg "WebError" = some (.ref W)
  exc : PySem.W.excIn K D [.type "ValueError", .type "Exception", .type "BaseException", .type "object"] "ValueError.__new__" = true
  kD : PySem.W.keepIn K (.ref D) = true
  tD : PySem.W.typeIn K (.ref D) = some (.type "type")
  ec : ExcC K D
  web : PySem.W.exmOne K (.ref D) (.ref W) = some true
/-- what isinstance tells of its refusals: of the class named x, at C, b -/
structure KitT (K : PySem.W.Frag) (mg : Str → Option Value) (D : Addr) (x : Str) (C : Addr) (b : Bool) : Prop where
  g : mg x = some (.ref C)
  k : PySem.W.kitOne K (.ref D) (.ref C) = some b
section
variable {X : Cx}
def rIsX (K : PySem.W.Frag) (a : Addr) (cls : Value) (d : Option Addr) : List V → Hp → VK → Prop := fun xs H Q => ∃ D, ExcC K D ∧ cls = .ref D ∧ d = none ∧ rIsE K D a xs H Q
theorem call_isX {a : Addr} {cls : Value} {d : Option Addr} {oe : Obj} {pn : List (Addr × Obj)} (hz : Zc cls d oe) (hf : ∃ vs, oe.data = .fields vs) : CallR (X.suite a ((a, oe) :: pn)) (.builtin "isinstance") (rIsX X.K a cls d) := by
  intro pins s σ H xs us Q I r h
  obtain ⟨D, C, rfl, rfl, h⟩ := h
  exact call_isE C hz hf pins s σ H xs us Q I r h
end
def DfX (P : Program) (w : World) (K : PySem.W.Frag) (mg : Str → Option Value) (base : Heap) (k : Nat) (x : Str) (ps : List Str) (sp : Sp) : Prop :=
  ∃ (f : Addr) (fd : FuncData), FnOk P w K mg base (L2.CX P w) k f fd ps sp ∧ mg x = some (.ref f) ∧ PySem.W.keepIn K (.ref f) = true ∧ Binds K fd ps []
theorem DfX.of {P : Program} {w : World} {K : PySem.W.Frag} {mg : Str → Option Value} {base : Heap} {x : Str} {st : Stmt} {f : Addr} {fd : FuncData} {k : Nat} {ps : List Str} {sp : Sp} (g : mg x = some (.ref f)) (F : Fun K x x st f fd) (G : FnOk P w K mg base (L2.CX P w) k f fd ps sp)
    (h : ∀ (kV doc pm : Value) (an : Option Addr) (cdv ct : Value) (us : List Value), us.length = ps.length → bindArgs (PySem.W.fnOf x x (defArgs st) (defBody st) (defScope st) .none kV doc pm an cdv ct) ⟨us, []⟩ = pure (ps.zip us)) : DfX P w K mg base k x ps sp :=
  ⟨f, fd, G, g, F.kp, F.binds h⟩
/-- where a class of refusals stands -/
structure ErrK (K : PySem.W.Frag) (x : Str) (D W : Addr) : Prop where
  ns : PySem.W.nsIn K mainGlobals x = some (some (.ref D))
  nw : PySem.W.nsIn K mainGlobals "WebError" = some (some (.ref W))
  exc : PySem.W.excIn K D [.type "ValueError", .type "Exception", .type "BaseException", .type "object"] "ValueError.__new__" = true
  kD : PySem.W.keepIn K (.ref D) = true
  tD : PySem.W.typeIn K (.ref D) = some (.type "type")
  ec : ExcC K D
  web : PySem.W.exmOne K (.ref D) (.ref W) = some true
theorem errK_mk {K : PySem.W.Frag} {x : Str} {D W : Addr} (p1 : PySem.W.nsIn K mainGlobals x = some (some (.ref D))) (p2 : PySem.W.nsIn K mainGlobals "WebError" = some (some (.ref W)))
    (p3 : PySem.W.excIn K D [.type "ValueError", .type "Exception", .type "BaseException", .type "object"] "ValueError.__new__" = true) (p4 : PySem.W.keepIn K (.ref D) = true) (p5 : PySem.W.typeIn K (.ref D) = some (.type "type"))
    (p6 : PySem.W.findIn K (.ref D) "__getattribute__" = some (some (.builtin "BaseException.__getattribute__"))) (p7 : PySem.W.findIn K (.ref D) "__getattr__" = some none) (p8 : PySem.W.subIn K (.ref D) (.type "BaseException") = some true) (p9 : PySem.W.hasDictIn K D = true)
    (p10 : PySem.W.findIn K (.ref D) "__class__" = some (some (.builtin "object.__class__"))) (p11 : PySem.W.specialIn K (.builtin "object.__class__") "__get__" = some (some (.builtin "getset_descriptor.__get__"))) (p12 : PySem.W.takesIn K (.builtin "object.__class__") = some true) (p13 : PySem.W.mroIn K D (.type "object") = some true)
    (p14 : PySem.W.subIn K (.ref W) (.type "BaseException") = some true) (p15 : PySem.W.hasDictIn K W = true) (p16 : PySem.W.typeIn K (.ref W) = some (.type "type")) (p17 : PySem.W.subIn K (.ref D) (.ref W) = some true) : ErrK K x D W :=
  ⟨p1, p2, p3, p4, p5, ⟨p6, p7, p8, p9, p10, p11, p12, p13⟩, PySem.W.exm_ref p14 p15 p16 p17⟩
theorem ErrK.ref {K : PySem.W.Frag} {mg : Str → Option Value} {h : Heap} {x : Str} {D W : Addr} (e : ErrK K x D W) (X : K.In h) (G : h.Ns mainGlobals mg) : RefT K mg x D W :=
  ⟨PySem.W.mg_of X G e.ns, PySem.W.mg_of X G e.nw, e.exc, e.kD, e.tD, e.ec, e.web⟩
structure KitK (K : PySem.W.Frag) (D : Addr) (x : Str) (C : Addr) (b : Bool) : Prop where
  ns : PySem.W.nsIn K mainGlobals x = some (some (.ref C))
  k : PySem.W.kitOne K (.ref D) (.ref C) = some b
theorem kitK_mk {K : PySem.W.Frag} {D : Addr} {x : Str} {C : Addr} {b : Bool} (p1 : PySem.W.nsIn K mainGlobals x = some (some (.ref C))) (p2 : PySem.W.kitOne K (.ref D) (.ref C) = some b) : KitK K D x C b := ⟨p1, p2⟩
theorem KitK.kit {K : PySem.W.Frag} {mg : Str → Option Value} {h : Heap} {D : Addr} {x : Str} {C : Addr} {b : Bool} (e : KitK K D x C b) (X : K.In h) (G : h.Ns mainGlobals mg) : KitT K mg D x C b := ⟨PySem.W.mg_of X G e.ns, e.k⟩
/-! ### numbers read -/
open TL
def figS : Str := "0123456789"
def wnumB (x : Str) : Bool := decide (1 ≤ x.length) && (decide (x.length ≤ 31) && (!(decide (x.cps.toList.head? = some 48) && !decide (x = (⟨#[48]⟩ : Str))) && x.cps.toList.all fun c => decide (c ∈ figS.cps.toList)))
def spWrites (Ps : List Addr) : Sp := fun vs H Q _ => ∃ x : Str, vs = [.str x] ∧ x.length ≤ sizeLine ∧ Tabs Ps H ∧ ∀ H', Kt Ps H H' → Q (.bl (wnumB x)) H'
theorem sign_eq {c : Nat} {d : Nat} : (decide (V.str (⟨#[c]⟩ : Str) = V.str (⟨#[d]⟩ : Str))) = decide (c = d) := by
  by_cases h : c = d
  · rw [h, decide_eq_true rfl, decide_eq_true rfl]
  · rw [decide_eq_false h, decide_eq_false]
    intro z
    have z1 := congrArg (fun y : Str => y.cps.toList) (V.str.inj z)
    have z2 : [c] = [d] := z1
    exact h (List.cons.inj z2).1
theorem all_figs {Ps : List Addr} {Pt : Addr} {x : Str} {H : Hp} {Q : VK} (hT : Tabs Ps H) (hPt : Pt ∈ Ps) (q : ∀ H', Kt Ps H H' → Q (.bl (x.cps.toList.all fun c => decide (c ∈ figS.cps.toList))) H') :
    tAll Pt (iStr (tVar 0)) (gName 1) (tOp (fun x y H Q => ∃ (c : Nat) (z : Str), x = V.str ⟨#[c]⟩ ∧ y = V.str z ∧ Q (V.bl (decide (c ∈ z.cps.toList))) H) (tVar 1) (tC (V.str figS))) [1] [some (.str x), none] H Q := by
  refine ⟨.str x, rfl, x, rfl, hT Pt hPt, fun j m H' => j + m = x.cps.size ∧ Kt Ps H H' ∧ ((x.cps.toList.take j).all fun c => decide (c ∈ figS.cps.toList)) = true, fun H2 hH2 => ⟨x.cps.size, by omega, Kt.tabbed hT hPt hH2, rfl⟩, fun j m H' hw => ?_⟩
  obtain ⟨em, kt, hal⟩ := hw
  by_cases hj : j < x.cps.size
  · refine .inr ⟨hj, fun H3 => Kt Ps H H3 ∧ ((x.cps.toList.take (j + 1)).all fun c => decide (c ∈ figS.cps.toList)) = true, fun H3 n3 => ⟨m - 1, by omega, by omega, n3.1, n3.2⟩, fun v H3 hy => ?_⟩
    obtain ⟨rfl, c, hc, rfl⟩ := hy
    have ex : x.cps.toList[j]? = some c := by rw [Array.getElem?_toList]; exact hc
    have step : ((x.cps.toList.take (j + 1)).all fun c => decide (c ∈ figS.cps.toList)) = decide (c ∈ figS.cps.toList) := by
      rw [List.take_add_one, ex, List.all_append, hal]
      simp
    refine ⟨rfl, .str ⟨#[c]⟩, rfl, c, figS, rfl, rfl, _, rfl, ?_⟩
    cases hb : decide (c ∈ figS.cps.toList) with
    | true => exact ⟨kt, step.trans hb⟩
    | false =>
      have no : (x.cps.toList.all fun c => decide (c ∈ figS.cps.toList)) = false := by
        rw [Bool.eq_false_iff]
        intro z
        rw [List.all_eq_true] at z
        rw [z c (List.mem_of_getElem? ex)] at hb
        cases hb
      rw [no] at q
      exact q _ kt
  · refine .inl ⟨by show x.cps.size ≤ j; omega, ?_⟩
    rw [List.take_of_length_le (by rw [Array.length_toList]; omega)] at hal
    rw [hal] at q
    exact q _ kt
section
variable {P : Program} {w : World} {K : PySem.W.Frag} {mg : Str → Option Value} {base : Heap}
set_option maxHeartbeats 4000000 in
theorem ok_writes_number {f c Pt : Addr} {fd : FuncData} {t1 t2 : Tok} {Ps : List Addr} (F : FunC K "writes_number" "writes_number" s_writes_number f fd c) (TB : GxR.TabB base mg c Pt) (hPt : Pt ∈ Ps) (M : Free mg) (m_all : mg "all" = none) (gM : mg "MOST_FIGURES" = some (.int 31 t1)) (gF : mg "FIGURES" = some (.str figS t2)) : FnOk P w K mg base CX0 2 f fd ["word"] (spWrites Ps) := by
  refine F.ok sc_writes_number (fun vs H Q E h => ?_) (fun A outer s H vs Q E hr h => ?_)
  · obtain ⟨x, rfl, _⟩ := h
    rfl
  · obtain ⟨x, rfl, hx, hT, q⟩ := h
    refine ⟨_, (pss_cons (ps_if (pt_not (pt_chain op_le op_le pe_int (pe_callB call_len_str (by rfl) M.len PySem.boot_len (pa_cons (pv 0) pa_nil)) (pe_glob (v := .int 31) rfl gM ⟨_, rfl⟩)))
        (pss_one (ps_ret pe_bl))
        pss_nil)
      (pss_cons (ps_if (PW.pt (pw_and (pt_cmpR op_eq (pe_ix ix_str (pv 0) pe_int (fun _ _ => rfl)) pe_str (nomark _)) (pw_and1 (pt_cmpR op_ne (pv 0) pe_str (nomark _)))))
        (pss_one (ps_ret pe_bl))
        pss_nil)
      (pss_one (ps_ret (pe_all (k := 0) (own := [("sign", 1)]) (g := gName 1) hr TB rfl rfl sc_writes_number.nd (by rfl) m_all (pi_str (pv 0)) (blkOk_by (N := N_writes_number) (sc := defScope s_writes_number) (own := [("sign", 1)]) (by decide +kernel)) ⟨rfl, by decide +kernel, by decide +kernel⟩ (show (".0" : Str) ∉ N_writes_number by decide +kernel)
        (fun _ _ _ _ _ _ _ => pg_name (i := 1) sc_writes_number.nd rfl (.inl rfl)) (fun _ _ _ _ _ _ _ hr' => pe_cmpR op_in_sign (pv 1) (pe_glob (v := .str figS) rfl gF ⟨_, rfl⟩) rfl)))))), ?_⟩
    have h63 := line63
    refine ⟨.str x, rfl, x, rfl, hx, 1, _, rfl, rfl, _, rfl, ?_⟩
    unfold wnumB at q
    by_cases h1 : 1 ≤ x.length
    · rw [decide_eq_true h1, Bool.true_and] at q
      rw [decide_eq_true (show (1 : Int) ≤ (x.length : Int) by omega), if_pos rfl]
      refine ⟨_, 31, rfl, rfl, _, rfl, ?_⟩
      by_cases h2 : x.length ≤ 31
      · rw [decide_eq_true h2, Bool.true_and] at q
        rw [decide_eq_true (show (x.length : Int) ≤ 31 by omega)]
        have hne : 0 < x.cps.toList.length := by
          have e : x.cps.toList.length = x.length := (len_tl x).symm
          omega
        obtain ⟨c0, r0, ec⟩ : ∃ c0 r0, x.cps.toList = c0 :: r0 := by
          cases e : x.cps.toList with
          | nil => rw [e] at hne; cases hne
          | cons c0 r0 => exact ⟨c0, r0, rfl⟩
        refine ⟨.str x, rfl, x, 0, c0, rfl, rfl, hx, by rw [ec]; exact atI_nat (j := 0) rfl, ?_⟩
        have eh : x.cps.toList.head? = some c0 := by rw [ec]; rfl
        rw [eh] at q
        refine ⟨rfl, ?_⟩
        rw [show (V.str ("0" : Str)) = V.str (⟨#[48]⟩ : Str) from by decide +kernel, sign_eq]
        by_cases h3 : c0 = 48
        · rw [decide_eq_true (show some c0 = some 48 by rw [h3]), Bool.true_and, Bool.not_not] at q
          rw [decide_eq_true h3]
          refine ⟨_, rfl, .str x, rfl, rfl, ?_⟩
          by_cases h4 : x = ⟨#[48]⟩
          · rw [decide_eq_true h4, Bool.true_and] at q
            rw [decide_eq_true (show V.str x = V.str ⟨#[48]⟩ by rw [h4])]
            exact ⟨_, rfl, all_figs hT hPt q⟩
          · rw [decide_eq_false h4, Bool.false_and] at q
            rw [decide_eq_false (fun z => h4 (V.str.inj z))]
            exact ⟨_, rfl, q _ (Kt.refl hT)⟩
        · rw [decide_eq_false (show ¬ some c0 = some 48 from fun z => h3 (Option.some.inj z)), Bool.false_and, Bool.not_false, Bool.true_and] at q
          rw [decide_eq_false h3]
          exact ⟨_, rfl, all_figs hT hPt q⟩
      · rw [decide_eq_false h2, Bool.false_and] at q
        rw [decide_eq_false (show ¬ (x.length : Int) ≤ 31 by omega)]
        exact q _ (Kt.refl hT)
    · rw [decide_eq_false h1, Bool.false_and] at q
      rw [decide_eq_false (show ¬ (1 : Int) ≤ (x.length : Int) by omega)]
      exact ⟨_, rfl, q _ (Kt.refl hT)⟩
end
/-! ### numbers read back -/
open TL
theorem numL_head : ∀ n : Nat, 1 ≤ n → (numL n).head? ≠ some 48 := by
  intro n
  induction n using Nat.strongRecOn with
  | _ n ih =>
    intro h1
    by_cases h : n < 10
    · rw [numL_lt h]
      intro z
      have := Option.some.inj z
      omega
    · rw [numL_step (by omega)]
      have i := ih (n / 10) (by omega) (by omega)
      cases e : numL (n / 10) with
      | nil => exact absurd e (numL_ne _)
      | cons x r =>
        rw [e] at i
        exact i
theorem figs_mem : ∀ c : Nat, c < 58 → 48 ≤ c → c ∈ figS.cps.toList := by decide +kernel
theorem wnum_good {x : Int} (h : GoodN x) : wnumB (numS x) = true := by
  have hl := numS_len h
  have hn := numS_ne h
  have e := tl_numS h.lo
  have l1 : 1 ≤ (numS x).length := by
    rw [len_tl]
    exact List.length_pos_iff.mpr hn
  have l2 : (numS x).length ≤ 31 := by
    rw [len_tl]
    exact hl
  unfold wnumB
  rw [decide_eq_true l1, decide_eq_true l2, Bool.true_and, Bool.true_and, show (numS x).cps.toList = numL x.toNat from e]
  have hall : ((numL x.toNat).all fun c => decide (c ∈ figS.cps.toList)) = true := by
    rw [List.all_eq_true]
    intro c hc
    have := numL_digits _ c hc
    exact decide_eq_true (figs_mem c (by omega) (by omega))
  rw [hall, Bool.and_true]
  by_cases h0 : x = 0
  · have : numS x = ⟨#[48]⟩ := by rw [h0]; decide +kernel
    rw [decide_eq_true this]
    cases decide ((numL x.toNat).head? = some 48) <;> rfl
  · have hx := h.lo
    rw [decide_eq_false (numL_head _ (by omega))]
    rfl
def spReadNum (Ps : List Addr) : Sp := fun vs H Q _ => ∃ (x : Str) (k : Int), vs = [.str x] ∧ x = numS k ∧ GoodN k ∧ Tabs Ps H ∧ ∀ H', Kt Ps H H' → Q (.int k) H'
def spReadMany (Ps : List Addr) : Sp := fun vs H Q _ => ∃ (x : Str) (k : Int), vs = [.str x] ∧ x = headS k ∧ GoodN k ∧ Tabs Ps H ∧ ∀ H', Kt Ps H H' → Q (.int k) H'
/-- a list of lists of words -/
def RowW (H : Hp) (v : V) (r : List Str) : Prop := ∃ a, v = .ref a ∧ H a = some (.lst (r.map V.str))
theorem RowW.kt {Ps : List Addr} {H H' : Hp} (k : Kt Ps H H') (t : Tabs Ps H) {v : V} {r : List Str} (h : RowW H v r) : RowW H' v r := by
  obtain ⟨a, e, h⟩ := h
  exact ⟨a, e, k.lst t h⟩
theorem rowsW_kt {Ps : List Addr} {H H' : Hp} (k : Kt Ps H H') (t : Tabs Ps H) {vs : List V} {rs : List (List Str)} (h : Paired (RowW H) vs rs) : Paired (RowW H') vs rs := Paired.mono (fun _ _ x => x.kt k t) h
/-- what is told of weights when there is no tie -/
def dueW (ts : List Tie) (W : Option (List Int)) : Option (List Int) := if ts = [] then none else W
def spReadWeights (Ps : List Addr) : Sp := fun vs H Q _ => ∃ (R : Addr) (us : List V) (n : Int) (ts : List Tie) (W : Option (List Int)), vs = [.ref R] ∧ H R = some (.lst us) ∧ Paired (RowW H) us (rowsL W ts) ∧ WebOk n ts ∧ WtsG ts W ∧ Tabs Ps H ∧
  ∀ v H', WtAt H' v (dueW ts W) → Kt Ps H H' → Q v H'
def spIsWeightsR (Ps : List Addr) : Sp := fun vs H Q _ => ∃ (wa wb : Addr) (x : V) (us : List V) (gv : V) (W : Option (List Int)), vs = [.ref wa, gv] ∧ H wa = some (.tup [x, .ref wb]) ∧ H wb = some (.tup us) ∧ WtAt H gv W ∧ (∀ ws, W = some ws → ws.length = us.length ∧ ∀ x ∈ ws, 1 ≤ x) ∧ us.length ≤ 1000 ∧ Tabs Ps H ∧ ∀ H', Kt Ps H H' → Q (.bl true) H'
section
variable {P : Program} {w : World} {K : PySem.W.Frag} {mg : Str → Option Value} {base : Heap}
theorem ok_read_number {f : Addr} {fd : FuncData} {Ps : List Addr} (F : Fun K "read_number" "read_number" s_read_number f fd) (M : Free mg) (D1 : Df P w K mg base 2 "writes_number" ["word"] (spWrites Ps)) : FnOk P w K mg base CX0 3 f fd ["word"] (spReadNum Ps) := by
  obtain ⟨f1, fd1, G1, g1, k1, b1⟩ := D1
  refine F.ok sc_read_number (fun vs H Q E h => ?_) (fun cdv A outer s H vs Q E hr h => ?_)
  · obtain ⟨x, k, rfl, _⟩ := h
    rfl
  · obtain ⟨x, k, rfl, rfl, hk, hT, q⟩ := h
    refine ⟨_, (pss_cons (ps_if (pt_not (pt_val (pe_call G1 (hr.mono (by decide)) (by rfl) g1 k1 b1 .nil pass0 (pa_cons (pv 0) pa_nil)))) (pss_one ps_never) pss_nil)
      (pss_one (ps_ret (pe_callTy call_int_str (by rfl) M.int (by decide +kernel) (pa_cons (pv 0) pa_nil))))), ?_⟩
    have l2 := (word_num hk).le
    refine ⟨.str (numS k), rfl, _, rfl, Nat.le_trans l2 (by rw [sizeLine_eq]; omega), hT, fun H' kt => ?_⟩
    rw [wnum_good hk]
    refine ⟨_, rfl, ?_⟩
    exact ⟨.str (numS k), rfl, _, k, rfl, int_numS hk, by omega, q _ kt⟩
theorem ok_read_many {f : Addr} {fd : FuncData} {Ps : List Addr} (F : Fun K "read_many" "read_many" s_read_many f fd) (M : Free mg) (D1 : Df P w K mg base 3 "read_number" ["word"] (spReadNum Ps)) : FnOk P w K mg base CX0 4 f fd ["line"] (spReadMany Ps) := by
  obtain ⟨f1, fd1, G1, g1, k1, b1⟩ := D1
  refine F.ok sc_read_many (fun vs H Q E h => ?_) (fun cdv A outer s H vs Q E hr h => ?_)
  · obtain ⟨x, k, rfl, _⟩ := h
    rfl
  · obtain ⟨x, k, rfl, rfl, hk, hT, q⟩ := h
    refine ⟨_, (pss_cons (ps_set (i := 1) sc_read_many.nd rfl (.inl rfl) (pe_split (pv 0) pe_str))
      (pss_cons (ps_if (PW.pt (pw_or (pt_cmpR op_ne (pe_callB call_len_seq (by rfl) M.len PySem.boot_len (pa_cons (pv 1) pa_nil)) pe_int (nomark _)) (pw_or1 (pt_cmpR op_ne (pe_ix ix_list (pv 1) pe_int (fun _ _ => rfl)) pe_str (nomark _))))) (pss_one ps_never) pss_nil)
      (pss_one (ps_ret (pe_call G1 hr (by rfl) g1 k1 b1 .nil pass0 (pa_cons (pe_ix ix_list (pv 1) pe_int (fun _ _ => rfl)) pa_nil)))))), ?_⟩
    have hw : ∀ x ∈ [sWeb, numS k], Word x := by
      intro x hx
      simp only [List.mem_cons, List.not_mem_nil, or_false] at hx
      rcases hx with rfl | rfl
      · exact web_free
      · exact word_num hk
    have hl : (headS k).length ≤ 128 := by
      rw [len_tl]
      exact (words_line hw (by show 2 ≤ 4; omega)).2
    have es : Txt.split (headS k) (" " : Str) = [sWeb, numS k] := split_words hw (by simp)
    refine ⟨.str (headS k), rfl, ⟨_, rfl⟩, headS k, _, rfl, rfl, by decide, by rw [sizeLine_eq]; omega, fun p np => ?_⟩
    rw [es]
    have hp := upd_same (H := H) (a := p) (o := .lst ([sWeb, numS k].map V.str))
    have sp := same_new (o := .lst ([sWeb, numS k].map V.str)) np
    generalize upd H p (.lst ([sWeb, numS k].map V.str)) = H1 at hp sp
    have kp := Kt.same hT sp
    refine ⟨.ref p, rfl, p, _, rfl, .inl (SqL.of hp), rfl, _, rfl, ?_⟩
    refine ite2 (fun e => absurd e (by simp)) (fun _ => ?_)
    refine ⟨.ref p, rfl, p, _, 0, .str sWeb, rfl, rfl, SqL.of hp, rfl, rfl, ?_⟩
    refine ⟨_, rfl, ite2 (fun e => absurd e (by decide +kernel)) (fun _ => ?_)⟩
    exact ⟨.ref p, rfl, p, _, 1, .str (numS k), rfl, rfl, SqL.of hp, rfl, _, k, rfl, rfl, hk, kp.tab, fun H' kt => q _ (kp.trans kt)⟩
end
/-! ### weights read -/
open TL
def rLen04 (K : PySem.W.Frag) : List V → Hp → VK → Prop := fun xs H Q => ∃ p ys, xs = [V.ref p] ∧ (SqL K H p ys ∨ SqT K H p ys) ∧ Q (V.int (ys.length : Nat)) H
theorem Kt.mutN {Ps : List Addr} {H H' : Hp} {a : Addr} {o : HO} (k : Kt Ps H H') (t : Tabs Ps H) (n : H a = none) : Kt Ps H (upd H' a o) := by
  have na : a ∉ Ps := fun z => by
    obtain ⟨ps, e, _⟩ := t a z
    rw [n] at e
    cases e
  refine ⟨fun P hP => ?_, fun b o' hb e => ?_⟩
  · obtain ⟨ps, e, t'⟩ := k.tab P hP
    exact ⟨ps, by rw [upd_ne (show P ≠ a from fun z => na (z ▸ hP))]; exact e, t'⟩
  · rw [upd_ne (fun z => by rw [z, n] at e; cases e)]
    exact k.keep b o' hb e
def optV : Option Int → V
  | none => .non
  | some k => .int k
/-- all rows of a list have the length n -/
theorem all_len {K : PySem.W.Frag} {Ps : List Addr} {Pt R : Addr} {us : List V} {rs : List (List Str)} {n : Int} {H : Hp} {Q : VK} (hT : Tabs Ps H) (hPt : Pt ∈ Ps) (hR : H R = some (.lst us)) (hp : Paired (RowW H) us rs) (q : ∀ H', Kt Ps H H' → Q (.bl (rs.all fun r => decide ((r.length : Int) = n))) H') :
    tAll Pt (iList K (tVar 0)) (gName 1) (tOp rEq (tCB (rLen04 K) (tCons (tVar 1) tNil)) (tC (V.int n))) [1] [some (.ref R), none] H Q := by
  have lu : us.length = rs.length := Paired.length hp
  refine ⟨.ref R, rfl, R, rfl, ⟨_, SqL.of hR⟩, hT Pt hPt, fun j m H' => j + m = us.length ∧ Kt Ps H H' ∧ ((rs.take j).all fun r => decide ((r.length : Int) = n)) = true, fun H2 hH2 => ⟨us.length, by omega, Kt.tabbed hT hPt hH2, rfl⟩, fun j m H' hw => ?_⟩
  obtain ⟨em, kt, hal⟩ := hw
  have hR' := kt.lst hT hR
  by_cases hj : j < us.length
  · refine .inr ⟨⟨_, _, SqL.of hR', List.getElem?_eq_getElem hj⟩, fun H3 => Kt Ps H H3 ∧ ((rs.take (j + 1)).all fun r => decide ((r.length : Int) = n)) = true, fun H3 n3 => ⟨m - 1, by omega, by omega, n3.1, n3.2⟩, fun v H3 hy => ?_⟩
    obtain ⟨rfl, fy⟩ := hy
    have ex : us[j]? = some v := fy _ (SqL.of hR')
    obtain ⟨r, er, a, rfl, ha⟩ := Paired.at (rowsW_kt kt hT hp) ex
    have step : ((rs.take (j + 1)).all fun r => decide ((r.length : Int) = n)) = decide ((r.length : Int) = n) := by
      rw [List.take_add_one, er, List.all_append, hal]
      simp
    refine ⟨rfl, .ref a, rfl, a, _, rfl, .inl (SqL.of ha), rfl, _, rfl, ?_⟩
    rw [dec_int, List.length_map]
    cases hb : decide ((r.length : Int) = n) with
    | true => exact ⟨kt, step.trans hb⟩
    | false =>
      have no : (rs.all fun r => decide ((r.length : Int) = n)) = false := by
        rw [Bool.eq_false_iff]
        intro z
        rw [List.all_eq_true] at z
        rw [z r (List.mem_of_getElem? er)] at hb
        cases hb
      rw [no] at q
      exact q _ kt
  · refine .inl ⟨⟨_, SqL.of hR', by omega⟩, ?_⟩
    rw [List.take_of_length_le (by omega)] at hal
    rw [hal] at q
    exact q _ kt
theorem rows_len3 {W : Option (List Int)} {ts : List Tie} {n : Int} : ((rowsL W ts).all fun r => decide ((r.length : Int) = n)) = (ts.isEmpty || decide (n = if W.isSome then 4 else 3)) := by
  cases ts with
  | nil => rfl
  | cons t r =>
    have e : ∀ x ∈ rowsL W (t :: r), (x.length : Int) = if W.isSome then 4 else 3 := fun x hx => by
      obtain ⟨i, t', _, rfl⟩ := rows_at hx
      cases W <;> rfl
    rw [Bool.eq_iff_iff, List.all_eq_true]
    constructor
    · intro h
      have h0 : wordsL W 0 t ∈ rowsL W (t :: r) := by simp [rowsL]
      have h1 := of_decide_eq_true (h _ h0)
      rw [e _ h0] at h1
      rw [decide_eq_true h1.symm]
      rfl
    · intro h x hx
      have h1 : n = if W.isSome then 4 else 3 := of_decide_eq_true h
      rw [decide_eq_true ((e x hx).trans h1.symm)]
section
variable {P : Program} {w : World} {K : PySem.W.Frag} {mg : Str → Option Value} {base : Heap}
set_option maxHeartbeats 4000000 in
theorem ok_read_weights {f c Pt : Addr} {fd : FuncData} {Ps : List Addr} (F : FunC K "read_weights" "read_weights" s_read_weights f fd c) (TB : GxR.TabB base mg c Pt) (hPt : Pt ∈ Ps) (M : Free mg) (m_all : mg "all" = none) (D1 : Df P w K mg base 3 "read_number" ["word"] (spReadNum Ps)) : FnOk P w K mg base CX0 4 f fd ["rows"] (spReadWeights Ps) := by
  obtain ⟨f1, fd1, G1, g1, k1, b1⟩ := D1
  refine F.ok sc_read_weights (fun vs H Q E h => ?_) (fun A outer s H vs Q E hr h => ?_)
  · obtain ⟨R, us, n, ts, W, rfl, _⟩ := h
    rfl
  · obtain ⟨R, us, n, ts, W, rfl, hR, hp, ok, gW, hT, q⟩ := h
    refine ⟨_, (pss_cons (ps_if (pt_val (pe_all (k := 2) (own := [("words", 1)]) (g := gName 1) hr TB rfl rfl sc_read_weights.nd (by rfl) m_all (pi_list (pv 0)) (blkOk_by (N := N_read_weights) (sc := defScope s_read_weights) (own := [("words", 1)]) (by decide +kernel)) ⟨rfl, by decide +kernel, by decide +kernel⟩ (show (".0" : Str) ∉ N_read_weights by decide +kernel)
          (fun _ _ _ _ _ _ _ => pg_name (i := 1) sc_read_weights.nd rfl (.inl rfl)) (fun _ _ _ _ _ _ _ hr' => pe_cmpR op_eq (pe_callB (r := rLen04 K) call_len_seq (by rfl) M.len PySem.boot_len (pa_cons (pv 1) pa_nil)) pe_int (nomark _))))
        (pss_one (ps_ret pe_non)) pss_nil)
      (pss_cons (ps_if (pt_val (pe_all (k := 2) (own := [("words", 1)]) (g := gName 1) hr TB rfl rfl sc_read_weights.nd (by rfl) m_all (pi_list (pv 0)) (blkOk_by (N := N_read_weights) (sc := defScope s_read_weights) (own := [("words", 1)]) (by decide +kernel)) ⟨rfl, by decide +kernel, by decide +kernel⟩ (show (".0" : Str) ∉ N_read_weights by decide +kernel)
          (fun _ _ _ _ _ _ _ => pg_name (i := 1) sc_read_weights.nd rfl (.inl rfl)) (fun _ _ _ _ _ _ _ hr' => pe_cmpR op_eq (pe_callB (r := rLen04 K) call_len_seq (by rfl) M.len PySem.boot_len (pa_cons (pv 1) pa_nil)) pe_int (nomark _))))
        (pss_one (ps_ret (pe_callTy call_tuple_of (by rfl) M.tuple (by decide +kernel) (pa_cons (pe_lc (own := [("words", 1)]) (g := gName 1) (tt := tYes) rfl sc_read_weights.nd (pi_list (pv 0)) (blkOk_by (N := N_read_weights) (sc := defScope s_read_weights) (own := [("words", 1)]) (by decide +kernel)) (fun _ _ _ _ _ => (pg_name (i := 1) sc_read_weights.nd rfl (.inl rfl))) (fun _ _ _ _ _ => pts_nil)
          (fun _ _ _ _ _ => pe_call G1 hr (by rfl) g1 k1 b1 .nil pass0 (pa_cons (pe_ix (r := rIxL K) ix_list (pv 1) pe_int (fun _ _ => rfl)) pa_nil))) pa_nil)))) pss_nil)
      (pss_one ps_never))), ?_⟩
    unfold tSeq tIfS tB tNext
    refine all_len hT hPt hR hp fun H1 k1' => ?_
    rw [rows_len3]
    refine ⟨_, rfl, ?_⟩
    cases ts with
    | nil => exact q .non H1 rfl k1'
    | cons t0 tr =>
    have k1 := k1'
    cases W with
    | none => exact q .non H1 rfl k1
    | some ws =>
    have hR1 := k1.lst hT hR
    have hp1 := rowsW_kt k1 hT hp
    have T1 := k1.tab
    refine ite2 (fun e => absurd e (by simp)) (fun _ => ?_)
    dsimp only
    refine all_len T1 hPt hR1 hp1 fun H2 k12 => ?_
    rw [rows_len3]
    refine ⟨_, rfl, ite2 (fun _ => ?_) (fun e => absurd (by simp) e)⟩
    have k2 := k1.trans k12
    have hR2 := k12.lst T1 hR1
    have hp2 := rowsW_kt k12 T1 hp1
    have T2 := k12.tab
    obtain ⟨lw, hw1⟩ := gW ws rfl
    have lu : us.length = ws.length := by
      have := Paired.length hp
      rw [rows_len] at this
      omega
    have few := ok.few
    refine ⟨.ref R, rfl, R, rfl, ⟨_, SqL.of hR2⟩, fun L nL => ?_⟩
    refine lc_list (K := K) (a := R) (xs := us) (fun i H' => H' L = some (.lst ((ws.take i).map V.int)) ∧ Kt Ps H2 H') ⟨upd_same, Kt.same T2 (same_new nL)⟩ (fun i H' _ h => SqL.of (h.2.lst T2 hR2)) ?_ ?_
    · rintro i x H3 hx ⟨hL, k23⟩
      have k3 := k2.trans k23
      have T3 := k23.tab
      obtain ⟨r, er, a, rfl, ha⟩ := Paired.at (rowsW_kt k23 T2 hp2) hx
      have er0 := er
      unfold rowsL at er
      rw [List.getElem?_mapIdx] at er
      obtain ⟨t, et, rfl⟩ := Option.map_eq_some_iff.mp er
      have li : i < ws.length := by
        have := (List.getElem?_eq_some_iff.mp hx).1
        omega
      have gx' : GoodN ws[i] := good_wt (hw1 _ (List.getElem_mem li))
      have e3 : ((wordsL (some ws) i t).map V.str)[3]? = some (V.str (numS ws[i])) := by
        show some (V.str (numS (ws.getD i 0))) = _
        rw [List.getD_eq_getElem?_getD, List.getElem?_eq_getElem li]
        rfl
      refine ⟨rfl, .ref a, rfl, a, _, 3, .str (numS ws[i]), rfl, rfl, SqL.of ha, atI_nat (j := 3) e3, _, ws[i], rfl, rfl, gx', T3, fun H4 k34 => ?_⟩
      have hL4 := k34.lst T3 hL
      refine ⟨_, hL4, by rw [List.length_map, List.length_take]; exact Nat.lt_of_le_of_lt (Nat.min_le_right _ _) (by rw [sizeLine_eq]; omega), ?_, (k23.trans k34).mutN T2 nL⟩
      rw [upd_same, List.take_add_one, List.getElem?_eq_getElem li, List.map_append]
      rfl
    · rintro H3 ⟨hL, k23⟩
      rw [List.take_of_length_le (by omega)] at hL
      refine ⟨L, _, rfl, .inl ⟨SqL.of hL, fun A nA => ?_⟩⟩
      exact q (.ref A) _ ⟨A, rfl, upd_same⟩ ((k2.trans k23).trans (Kt.same k23.tab (same_new nA)))
set_option maxHeartbeats 4000000 in
theorem ok_is_weights {f c Pt : Addr} {fd : FuncData} {Ps : List Addr} (F : FunC K "is_weights" "is_weights" s_is_weights f fd c) (TB : GxR.TabB base mg c Pt) (hPt : Pt ∈ Ps) (M : Free mg) (m_all : mg "all" = none) (D1 : Df P w K mg base 2 "is_whole_from" ["low", "thing"] spFrom) (D2 : Df P w K mg base 1 "is_tuple_of" ["length", "thing"] spTupleOf) : FnOk P w K mg base CX0 4 f fd ["web", "thing"] (spIsWeightsR Ps) := by
  obtain ⟨f1, fd1, G1, g1, k1, b1⟩ := D1
  obtain ⟨f2, fd2, G2, g2, k2, b2⟩ := D2
  refine F.ok sc_is_weights (fun vs H Q E h => ?_) (fun A outer s H vs Q E hr h => ?_)
  · obtain ⟨wa, wb, x, us, gv, W, rfl, _⟩ := h
    rfl
  · obtain ⟨wa, wb, x, us, gv, W, rfl, hwa, hwb, hW, gW, few, hT, q⟩ := h
    refine ⟨_, (pss_cons (ps_if (pt_cmpR op_isN (pv 1) pe_non (nomark _))
        (pss_one (ps_ret pe_bl))
        pss_nil)
      (pss_cons (ps_if (pt_not (pt_val (pe_call G2 (hr.mono (by decide)) (by rfl) g2 k2 b2 .nil pass0 (pa_cons (pe_callB call_len_seq (by rfl) M.len PySem.boot_len (pa_cons (pe_ix ix_tup (pv 0) pe_int (fun _ _ => rfl)) pa_nil)) (pa_cons (pv 1) pa_nil)))))
        (pss_one (ps_ret pe_bl))
        pss_nil)
      (pss_one (ps_ret (pe_all (k := 2) (own := [("weight", 2)]) (g := gName 2) hr TB rfl rfl sc_is_weights.nd (by rfl) m_all (pi_tup (pv 1)) (blkOk_by (N := N_is_weights) (sc := defScope s_is_weights) (own := [("weight", 2)]) (by decide +kernel)) ⟨rfl, by decide +kernel, by decide +kernel⟩ (show (".0" : Str) ∉ N_is_weights by decide +kernel)
        (fun _ _ _ _ _ _ _ => pg_name (i := 2) sc_is_weights.nd rfl (.inl rfl)) (fun _ _ _ _ _ _ _ hr' => pe_call G1 hr' (by rfl) g1 k1 b1 .nil pass0 (pa_cons pe_int (pa_cons (pv 2) pa_nil)))))))), ?_⟩
    cases W with
    | none =>
      obtain rfl : gv = .non := hW
      exact ⟨.non, rfl, rfl, _, rfl, ite2 (fun _ => q _ (Kt.refl hT)) (fun e => absurd (by simp) e)⟩
    | some ws =>
      obtain ⟨ga, rfl, hga⟩ := hW
      obtain ⟨lw, hw1⟩ := gW ws rfl
      refine ⟨.ref ga, rfl, rfl, _, rfl, ite2 (fun e => absurd (of_decide_eq_true e) nofun) (fun _ => ?_)⟩
      refine ⟨.ref wa, rfl, wa, _, 1, .ref wb, rfl, rfl, SqT.of hwa, rfl, wb, us, rfl, .inr (SqT.of hwb), .ref ga, rfl, _, .ref ga, rfl, .inr (.inl ⟨_, hga⟩), ?_⟩
      have e0 : lenIs H (.ref ga) (us.length : Nat) = true := by
        unfold lenIs
        rw [parts_of' hga]
        show decide (((ws.map V.int).length : Int) = (us.length : Nat)) = true
        rw [List.length_map, lw]
        exact decide_eq_true rfl
      rw [e0]
      refine ⟨_, rfl, ?_⟩
      refine ⟨.ref ga, rfl, ga, rfl, ⟨_, SqT.of hga⟩, hT Pt hPt, fun j m H' => j + m = ws.length ∧ Kt Ps H H', fun H2 hH2 => ⟨ws.length, by omega, Kt.tabbed hT hPt hH2⟩, fun j m H' hw => ?_⟩
      obtain ⟨em, kt⟩ := hw
      have hga' := kt.tup hT hga
      by_cases hj : j < ws.length
      · refine .inr ⟨⟨_, _, SqT.of hga', List.getElem?_eq_getElem (by rw [List.length_map]; exact hj)⟩, fun H3 => Kt Ps H H3, fun H3 n3 => ⟨m - 1, by omega, by omega, n3⟩, fun v H3 hy => ?_⟩
        obtain ⟨rfl, fy⟩ := hy
        have ex := fy _ (SqT.of hga')
        rw [List.getElem?_map, List.getElem?_eq_getElem hj] at ex
        obtain rfl : V.int ws[j] = v := Option.some.inj ex
        refine ⟨rfl, .int ws[j], rfl, 1, .int ws[j], rfl, trivial, ?_⟩
        rw [show wfrom 1 (.int ws[j]) = true from decide_eq_true (hw1 _ (List.getElem_mem hj))]
        exact ⟨_, rfl, kt⟩
      · exact .inl ⟨⟨_, SqT.of hga', by rw [List.length_map]; omega⟩, q _ kt⟩
end
/-! ### webs are known, and are webs -/
theorem fm_nil {R : V → Prop} : ∀ x ∈ ([] : List V), R x := fun x h => by cases h
theorem fm {R : V → Prop} {a : V} {l : List V} (h : R a) (t : ∀ x ∈ l, R x) : ∀ x ∈ a :: l, R x := fun x hx => by
  rcases List.mem_cons.mp hx with e | e
  · rw [e]; exact h
  · exact t x e
theorem tiek_no {K : PySem.W.Frag} {H : Hp} {v : V} (h : Kn H v) (n : isT H v = false) : TieK K H v := ⟨h, fun xs e => by rw [parts_none n] at e; cases e⟩
theorem tiek_tup {K : PySem.W.Frag} {H : Hp} {p : Addr} {xs : List V} (h : H p = some (.tup xs)) (k : ∀ x ∈ xs, Kn H x) (c3 : ∀ a b c, xs = [a, b, c] → KD K H c) : TieK K H (.ref p) := ⟨.inr (.inl ⟨xs, h⟩), fun ys e => by
  rw [parts_of' h] at e
  cases e
  exact ⟨k, c3⟩⟩
theorem webk_pair {K : PySem.W.Frag} {H : Hp} {p : Addr} {m t : V} (h : H p = some (.tup [m, t])) (km : Kn H m) (kt : Kn H t) (k : ∀ ts, parts H t = some ts → ∀ x ∈ ts, TieK K H x) : WebK K H (.ref p) := ⟨.inr (.inl ⟨_, h⟩), fun ys e => by
  rw [parts_of' h] at e
  cases e
  refine ⟨fun x hx => ?_, fun m' t' z => ?_⟩
  · simp only [List.mem_cons, List.not_mem_nil, or_false] at hx
    rcases hx with rfl | rfl
    · exact km
    · exact kt
  · cases z
    exact k⟩
theorem kd_str {K : PySem.W.Frag} {H : Hp} {x : Str} (h : SeqAt.shaped (.str x) = true) : KD K H (.str x) := .inl ⟨_, .str x, h⟩
theorem shaped_kind (b : Bool) : SeqAt.shaped (.str (kindS b)) = true := by cases b <;> decide +kernel
theorem tie_true {H : Hp} {n : Int} {v : V} {t : Tie} (h : TieV H v t) (o : TieOk n t) : tieB H n v = true := by
  obtain ⟨a, rfl, e⟩ := h
  unfold tieB
  rw [parts_of' e]
  show (unlB n (.int t.one) (.int t.other) && inK kindsL (.str (kindS t.foe))) = true
  have k : inK kindsL (.str (kindS t.foe)) = true := by cases t.foe <;> decide +kernel
  rw [k]
  unfold unlB
  show ((decide (0 ≤ t.one) && decide (t.one < n)) && ((decide (0 ≤ t.other) && decide (t.other < n)) && !decide (V.int t.one = V.int t.other)) && true) = true
  rw [dec_int, decide_eq_true o.1, decide_eq_true o.2.1, decide_eq_true o.2.2.1, decide_eq_true o.2.2.2.1, decide_eq_false o.2.2.2.2]
  rfl
theorem web_true {H : Hp} {n : Int} {v : V} {ts : List Tie} (h : WebAt H v n ts) (n1 : 1 ≤ n) (o : ∀ t ∈ ts, TieOk n t) : webB H v = true := by
  obtain ⟨a, b, vs, rfl, ha, hb, hp⟩ := h
  unfold webB
  rw [parts_of' ha]
  show (decide (1 ≤ n) && (match parts H (.ref b) with
    | some ts => ts.all (tieB H n)
    | none => false)) = true
  rw [parts_of' hb, decide_eq_true n1]
  show vs.all (tieB H n) = true
  rw [List.all_eq_true]
  intro x hx
  obtain ⟨i, hi⟩ := List.getElem?_of_mem hx
  obtain ⟨t, e, tv⟩ := Paired.at hp hi
  exact tie_true tv (o t (List.mem_of_getElem? e))
theorem web_known {K : PySem.W.Frag} {H : Hp} {n : Int} {v : V} {ts : List Tie} (h : WebAt H v n ts) : WebK K H v := by
  obtain ⟨a, b, vs, rfl, ha, hb, hp⟩ := h
  refine webk_pair ha trivial (.inr (.inl ⟨_, hb⟩)) (fun us e x hx => ?_)
  rw [parts_of' hb] at e
  cases e
  obtain ⟨i, hi⟩ := List.getElem?_of_mem hx
  obtain ⟨t, _, p, rfl, e⟩ := Paired.at hp hi
  exact tiek_tup e (fm trivial (fm trivial (fm trivial fm_nil))) (fun a b c z => by cases z; exact kd_str (shaped_kind _))
/-! ### texts read: what is a written web -/
open TL
structure WebBig (n : Int) (ts : List Tie) : Prop where
  lo : 1 ≤ n
  hi : n < 10 ^ 31
  ok : ∀ t ∈ ts, TieOk n t
/-- weights that may be read -/
def WtsB (ts : List Tie) (W : Option (List Int)) : Prop := ∀ ws, W = some ws → ws ≠ [] ∧ ws.length = ts.length ∧ ∀ x ∈ ws, 1 ≤ x ∧ x < 10 ^ 31
def Reads (x : Str) (n : Int) (ts : List Tie) (W : Option (List Int)) : Prop := ∃ (first : Str) (rest : List Str), Txt.split x sNl = first :: rest ∧ Txt.split first sSp = [sWeb, numS n] ∧ rest.map (fun l => Txt.split l sSp) = rowsL W ts ∧ WebBig n ts ∧ WtsB ts W
def Readable (x : Str) : Prop := ∃ n ts W, Reads x n ts W
/-! ### numbers in figures -/
theorem snoc_ind {P : List Nat → Prop} (h0 : P []) (hs : ∀ r c, P r → P (r ++ [c])) (l : List Nat) : P l := by
  have key : ∀ m : List Nat, P m.reverse := fun m => by
    induction m with
    | nil => exact h0
    | cons a b ih =>
      rw [List.reverse_cons]
      exact hs _ _ ih
  have := key l.reverse
  rwa [List.reverse_reverse] at this
theorem digits_num : ∀ (l : List Nat), l ≠ [] → NumText.AllDigits l → (l.head? = some 48 → l = [48]) → l = numL (NumText.digitsVal l) := by
  intro l
  induction l using snoc_ind with
  | h0 => intro h; exact absurd rfl h
  | hs r c ih =>
    intro _ hd hz
    have hc : 48 ≤ c ∧ c ≤ 57 := hd c (List.mem_append.mpr (.inr (List.mem_singleton.mpr rfl)))
    have hv : NumText.digitsVal (r ++ [c]) = NumText.digitsVal r * 10 + (c - 48) := by
      unfold NumText.digitsVal
      rw [List.foldl_append]
      rfl
    by_cases hr : r = []
    · subst hr
      rw [hv, show NumText.digitsVal ([] : List Nat) = 0 from rfl, numL_lt (by omega)]
      show [c] = [_]
      congr 1
      omega
    · have hd' : NumText.AllDigits r := fun x hx => hd x (List.mem_append.mpr (.inl hx))
      have hne : (r ++ [c]).head? = r.head? := by
        cases r with
        | nil => exact absurd rfl hr
        | cons a b => rfl
      have h48 : r.head? ≠ some 48 := fun e => by
        have := hz (by rw [hne]; exact e)
        cases r with
        | nil => exact absurd rfl hr
        | cons a b =>
          have := congrArg List.length this
          simp at this
      have i := ih hr hd' fun e => absurd e h48
      have pos : 1 ≤ NumText.digitsVal r := by
        rcases Nat.eq_zero_or_pos (NumText.digitsVal r) with e | e
        · rw [e, numL_lt (by decide)] at i
          rw [i] at h48
          exact absurd rfl h48
        · exact e
      rw [numL_step (by rw [hv]; omega), hv, show (NumText.digitsVal r * 10 + (c - 48)) / 10 = NumText.digitsVal r by omega, ← i, show 48 + (NumText.digitsVal r * 10 + (c - 48)) % 10 = c by omega]
theorem figs_of : ∀ c : Nat, c ∈ figS.cps.toList → 48 ≤ c ∧ c ≤ 57 := by
  intro c h
  have e : figS.cps.toList = [48, 49, 50, 51, 52, 53, 54, 55, 56, 57] := by decide +kernel
  rw [e] at h
  simp only [List.mem_cons, List.not_mem_nil, or_false] at h
  omega
theorem val_lt : ∀ (l : List Nat), NumText.AllDigits l → NumText.digitsVal l < 10 ^ l.length := by
  intro l
  induction l using snoc_ind with
  | h0 => intro _; decide
  | hs r c ih =>
    intro hd
    have hc : 48 ≤ c ∧ c ≤ 57 := hd c (List.mem_append.mpr (.inr (List.mem_singleton.mpr rfl)))
    have hv : NumText.digitsVal (r ++ [c]) = NumText.digitsVal r * 10 + (c - 48) := by
      unfold NumText.digitsVal
      rw [List.foldl_append]
      rfl
    have i := ih fun x hx => hd x (List.mem_append.mpr (.inl hx))
    rw [hv, List.length_append, List.length_singleton, Nat.pow_succ]
    omega
/-- a word that writes a number is a written number -/
theorem wnum_num {x : Str} (h : wnumB x = true) : ∃ k, GoodN k ∧ x = numS k := by
  unfold wnumB at h
  simp only [Bool.and_eq_true, decide_eq_true_eq, Bool.not_eq_true', List.all_eq_true] at h
  obtain ⟨h1, h2, h3, h4⟩ := h
  have hd : NumText.AllDigits (tl x) := fun c hc => figs_of c (h4 c hc)
  have hne : tl x ≠ [] := fun e => by
    rw [len_tl, e] at h1
    exact absurd h1 (by decide)
  have hz : (tl x).head? = some 48 → tl x = [48] := fun e => by
    have e' : x.cps.toList.head? = some 48 := e
    by_cases hx : x = ⟨#[48]⟩
    · rw [hx]
    · rw [decide_eq_true e', decide_eq_false hx] at h3
      cases h3
  have e := digits_num (tl x) hne hd hz
  refine ⟨(NumText.digitsVal (tl x) : Nat), ⟨by omega, ?_⟩, ext_tl ?_⟩
  · have lt := val_lt (tl x) hd
    rw [len_tl] at h2
    have le : 10 ^ (tl x).length ≤ 10 ^ 31 := Nat.pow_le_pow_right (by decide) h2
    have e31 : ((10 : Int) ^ 31) = ((10 ^ 31 : Nat) : Int) := by decide
    rw [e31]
    exact Int.ofNat_lt.mpr (Nat.lt_of_lt_of_le lt le)
  · rw [tl_numS (by omega)]
    exact e
theorem wnum_iff {x : Str} : wnumB x = true ↔ ∃ k, GoodN k ∧ x = numS k := ⟨wnum_num, fun ⟨k, h, e⟩ => by rw [e]; exact wnum_good h⟩
theorem numS_inj {a b : Int} (ha : 0 ≤ a) (hb : 0 ≤ b) (h : numS a = numS b) : a = b := by
  have e := congrArg tl h
  rw [tl_numS ha, tl_numS hb] at e
  have := numL_inj e
  omega
/-! ### a text is read in one way alone -/
theorem kindS_inj {a b : Bool} (h : kindS a = kindS b) : a = b := by
  cases a <;> cases b <;> first | rfl | exact absurd h (by decide +kernel)
theorem rowsL_at {W : Option (List Int)} {ts : List Tie} {i : Nat} : (rowsL W ts)[i]? = (ts[i]?).map (wordsL W i) := by
  unfold rowsL
  rw [List.getElem?_mapIdx]
theorem rows_inj {n n' : Int} {W W' : Option (List Int)} {ts ts' : List Tie} (ok : WebBig n ts) (ok' : WebBig n' ts') (hw : WtsB ts W) (hw' : WtsB ts' W') (h : rowsL W ts = rowsL W' ts') : ts = ts' ∧ W = W' := by
  have row : ∀ i : Nat, (ts[i]?).map (wordsL W i) = (ts'[i]?).map (wordsL W' i) := fun i => by rw [← rowsL_at, ← rowsL_at, h]
  have ll : ts.length = ts'.length := by
    have := congrArg List.length h
    rw [rows_len, rows_len] at this
    exact this
  have ets : ts = ts' := by
    refine List.ext_getElem? fun i => ?_
    have r := row i
    cases e : ts[i]? with
    | none =>
      rw [e] at r
      cases e' : ts'[i]? with
      | none => rfl
      | some t' => rw [e'] at r; cases r
    | some t =>
      rw [e] at r
      cases e' : ts'[i]? with
      | none => rw [e'] at r; cases r
      | some t' =>
        rw [e'] at r
        have r := Option.some.inj r
        obtain ⟨a0, _, b0, _, _⟩ := ok.ok t (List.mem_of_getElem? e)
        obtain ⟨c0, _, d0, _, _⟩ := ok'.ok t' (List.mem_of_getElem? e')
        have q : [numS t.one, numS t.other, kindS t.foe] ++ wsL W i = [numS t'.one, numS t'.other, kindS t'.foe] ++ wsL W' i := r
        simp only [List.cons_append, List.nil_append, List.cons.injEq] at q
        obtain ⟨q1, q2, q3, _⟩ := q
        have h1 := numS_inj a0 c0 q1
        have h2 := numS_inj b0 d0 q2
        have h3 := kindS_inj q3
        cases t
        cases t'
        simp only at h1 h2 h3
        rw [h1, h2, h3]
  refine ⟨ets, ?_⟩
  subst ets
  have ws_at : ∀ i t, ts[i]? = some t → wsL W i = wsL W' i := fun i t e => by
    have r := row i
    rw [e] at r
    have q : [numS t.one, numS t.other, kindS t.foe] ++ wsL W i = [numS t.one, numS t.other, kindS t.foe] ++ wsL W' i := Option.some.inj r
    exact List.append_cancel_left q
  have first : ∀ ws : List Int, ws ≠ [] → ws.length = ts.length → ∃ t, ts[0]? = some t := fun ws h0 hl => by
    have : 0 < ts.length := by rw [← hl]; exact List.length_pos_iff.mpr h0
    exact ⟨_, List.getElem?_eq_getElem this⟩
  cases W with
  | none =>
    cases W' with
    | none => rfl
    | some ws' =>
      obtain ⟨h0, hl, _⟩ := hw' ws' rfl
      obtain ⟨t, e⟩ := first ws' h0 hl
      have := ws_at 0 t e
      cases this
  | some ws =>
    obtain ⟨h0, hl, hx⟩ := hw ws rfl
    cases W' with
    | none =>
      obtain ⟨t, e⟩ := first ws h0 hl
      have := ws_at 0 t e
      cases this
    | some ws' =>
      obtain ⟨h0', hl', hx'⟩ := hw' ws' rfl
      congr 1
      refine List.ext_getElem (by omega) fun i h1 h2 => ?_
      have q := ws_at i ts[i] (List.getElem?_eq_getElem (by omega))
      have q1 : [numS (ws.getD i 0)] = [numS (ws'.getD i 0)] := q
      have q2 := (List.cons.inj q1).1
      rw [List.getD_eq_getElem?_getD, List.getElem?_eq_getElem h1, List.getD_eq_getElem?_getD, List.getElem?_eq_getElem h2] at q2
      have g1 := hx _ (List.getElem_mem h1)
      have g2 := hx' _ (List.getElem_mem h2)
      exact numS_inj (by omega) (by omega) q2
theorem Reads.uniq {x : Str} {n n' : Int} {ts ts' : List Tie} {W W' : Option (List Int)} (h : Reads x n ts W) (h' : Reads x n' ts' W') : n = n' ∧ ts = ts' ∧ W = W' := by
  obtain ⟨f, r, e1, e2, e3, ok, hw⟩ := h
  obtain ⟨f', r', e1', e2', e3', ok', hw'⟩ := h'
  rw [e1] at e1'
  obtain ⟨rfl, rfl⟩ := List.cons.inj e1'
  rw [e2] at e2'
  have en := numS_inj (by have := ok.lo; omega) (by have := ok'.lo; omega) (List.cons.inj (List.cons.inj e2').2).1
  rw [e3] at e3'
  obtain ⟨h1, h2⟩ := rows_inj ok ok' hw hw' e3'
  exact ⟨en, h1, h2⟩
/-- what the rows say of weights -/
def WRel (rs : List (List Str)) : Option (List Int) → Prop
  | none => ∀ r : List Str, r ∈ rs → r.length = 3
  | some ws => rs ≠ [] ∧ ws.length = rs.length ∧ ∀ (i : Nat) (r : List Str), rs[i]? = some r → r.length = 4 ∧ ∃ x, ws[i]? = some x ∧ GoodN x ∧ r[3]? = some (numS x)
theorem reads_wrel {ts : List Tie} {W : Option (List Int)} (hw : WtsB ts W) : WRel (rowsL W ts) W := by
  cases W with
  | none =>
    intro r hr
    obtain ⟨i, t, _, rfl⟩ := rows_at hr
    rfl
  | some ws =>
    obtain ⟨h0, hl, hx⟩ := hw ws rfl
    refine ⟨fun e => ?_, by rw [rows_len]; exact hl, fun i r hr => ?_⟩
    · have := congrArg List.length e
      rw [rows_len, ← hl] at this
      exact h0 (List.eq_nil_of_length_eq_zero this)
    · have li : i < ws.length := by
        have := (List.getElem?_eq_some_iff.mp hr).1
        rw [rows_len] at this
        omega
      rw [rowsL_at] at hr
      obtain ⟨t, _, rfl⟩ := Option.map_eq_some_iff.mp hr
      have g := hx _ (List.getElem_mem li)
      refine ⟨rfl, ws[i], List.getElem?_eq_getElem li, ⟨by omega, g.2⟩, ?_⟩
      show some (numS (ws.getD i 0)) = _
      rw [List.getD_eq_getElem?_getD, List.getElem?_eq_getElem li]
      rfl
theorem WRel.len {rs : List (List Str)} {W : Option (List Int)} (h : WRel rs W) : ∀ r ∈ rs, r.length = 3 ∨ r.length = 4 := by
  cases W with
  | none => exact fun r hr => .inl (h r hr)
  | some ws =>
    intro r hr
    obtain ⟨i, hi⟩ := List.getElem?_of_mem hr
    exact .inr (h.2.2 i r hi).1
theorem WRel.uniq {rs : List (List Str)} {W W' : Option (List Int)} (h : WRel rs W) (h' : WRel rs W') : W = W' := by
  have len34 : ∀ {W : Option (List Int)}, WRel rs W → ∀ r, rs[0]? = some r → r.length = if W.isSome then 4 else 3 := fun {W} h r e => by
    cases W with
    | none => exact h r (List.mem_of_getElem? e)
    | some ws => exact (h.2.2 0 r e).1
  have ne : ∀ ws : List Int, WRel rs (some ws) → ∃ r, rs[0]? = some r := fun ws h => by
    cases e : rs with
    | nil => exact absurd e h.1
    | cons a b => exact ⟨a, rfl⟩
  cases W with
  | none =>
    cases W' with
    | none => rfl
    | some ws' =>
      obtain ⟨r, e⟩ := ne ws' h'
      have h1 := len34 h r e
      have h2 := len34 h' r e
      rw [h1] at h2
      cases h2
  | some ws =>
    cases W' with
    | none =>
      obtain ⟨r, e⟩ := ne ws h
      have h1 := len34 h r e
      have h2 := len34 h' r e
      rw [h1] at h2
      cases h2
    | some ws' =>
      congr 1
      refine List.ext_getElem (by rw [h.2.1, h'.2.1]) fun i h1 h2 => ?_
      have hi : i < rs.length := by rw [← h.2.1]; exact h1
      obtain ⟨_, x, ex, gx, rx⟩ := h.2.2 i rs[i] (List.getElem?_eq_getElem hi)
      obtain ⟨_, y, ey, gy, ry⟩ := h'.2.2 i rs[i] (List.getElem?_eq_getElem hi)
      rw [rx] at ry
      have := numS_inj gx.lo gy.lo (Option.some.inj ry)
      rw [List.getElem?_eq_getElem h1] at ex
      rw [List.getElem?_eq_getElem h2] at ey
      rw [Option.some.inj ex, Option.some.inj ey, this]
theorem spl_le (S : List Nat) : ∀ (l acc : List Nat) (k : Nat), ∀ p ∈ spl S k acc l, p.length ≤ acc.length + l.length
  | [], acc, k, p, hp => by
    rw [spl_nil] at hp
    rw [List.mem_singleton.mp hp]
    exact Nat.le_add_right _ _
  | c :: r, acc, 0, p, hp => by
    by_cases h : pre S (c :: r) = true
    · rw [spl_hit h] at hp
      rcases List.mem_cons.mp hp with rfl | hp
      · exact Nat.le_add_right _ _
      · have := spl_le S r [] _ p hp
        simp only [List.length_nil, List.length_cons] at this ⊢
        omega
    · rw [Bool.not_eq_true] at h
      rw [spl_miss h] at hp
      have := spl_le S r _ _ p hp
      simp only [List.length_append, List.length_cons, List.length_nil] at this ⊢
      omega
  | c :: r, acc, k + 1, p, hp => by
    have := spl_le S r acc k p hp
    simp only [List.length_cons] at this ⊢
    omega
theorem split_part_le' {x s y : Str} (hs : tl s ≠ []) (hk : s.cps.all (· < 256) = true) (h : y ∈ Txt.split x s) : y.length ≤ x.length := by
  have e := split_spl x s hs (TL.kind_ok hk)
  have m : tl y ∈ spl (tl s) 0 [] (tl x) := by
    rw [← e]
    exact List.mem_map_of_mem h
  have := spl_le _ _ _ _ _ m
  rw [len_tl, len_tl]
  simpa using this
theorem split_part_le {x y : Str} (h : y ∈ Txt.split x sSp) : y.length ≤ x.length := split_part_le' (by decide) (by decide +kernel) h
theorem split_line_le {x y : Str} (h : y ∈ Txt.split x sNl) : y.length ≤ x.length := split_part_le' (by decide) (by decide +kernel) h
/-! ### a list comprehension whose element may raise -/
section
open PySem.HandSPX (FlyingZ HeldZ TracedZ)
theorem funFrames_base {h B B' : Heap} (k : ∀ b, B.get? b = none → B'.get? b = none) : ∀ {l : List Env}, h.FunFrames B l → h.FunFrames B' l
  | [], _ => trivial
  | env :: r, ⟨h1, ⟨L, o, a, b, c, d⟩, h3⟩ => ⟨h1, ⟨L, o, a, k _ b, c, d⟩, funFrames_base k h3⟩
theorem funFrames_but {h h' B : Heap} {C : Addr} (k : ∀ b, b ≠ C → h'.get? b = h.get? b) : ∀ {l : List Env}, C ∉ frs l → h.FunFrames B l → h'.FunFrames B l
  | [], _, _ => trivial
  | env :: r, n, ⟨h1, ⟨L, o, a, b, c, d⟩, h3⟩ => ⟨h1, ⟨L, o, a, b, by rw [k L fun z => n (List.mem_filterMap.mpr ⟨env, List.mem_cons_self, by rw [a, z]⟩)]; exact c, d⟩, funFrames_but k (fun z => n (by
      obtain ⟨e, he, q⟩ := List.mem_filterMap.mp z
      exact List.mem_filterMap.mpr ⟨e, List.mem_cons_of_mem _ he, q⟩)) h3⟩
theorem noteFrame_eq {e : Value} {env env' : Env} (h : env'.frame = env.frame) : noteFrame e env' = noteFrame e env := by
  unfold noteFrame PySem.frameOf
  rw [h]
variable {X : Cx} {pins : List (Addr × Obj)} {σ : L2.St} {H H' : Hp} {s s' : Shared} {B : Heap} {a : Addr} {Z : Obj → Prop}
/-- behind a call that let an exception out: the state without it -/
theorem air (I : Inv X pins σ H s) (fl : FlyingZ B X.stack a Z s'.heap) (hok : HOk X.prog X.w H' B) (ub : UB (frs X.stack) H H' s.heap B s'.heap) (ag : AllBare s'.gens) :
    ∃ G : Heap, Inv X pins σ H' { s with heap := G, gens := s'.gens, drawn := s'.drawn, toks := s'.toks } ∧ ∀ b o, G.get? b = some o → s'.heap.get? b = some o ∧ (B.get? b = some o ∨ b ∈ frs X.stack) := by
  obtain ⟨G, g1, g2⟩ := restrict s'.heap fun b => (B.get? b).isSome || decide (b ∈ frs X.stack)
  have st : B.StaysIn s'.heap := fl.1
  have gB : ∀ b o, B.get? b = some o → G.get? b = some o := fun b o e => by
    rw [g1 b (by simp [e])]
    exact st b o e
  have gF : ∀ b, b ∈ frs X.stack → G.get? b = s'.heap.get? b := fun b hb => g1 b (by simp [hb])
  refine ⟨G, ?_, fun b o e => ?_⟩
  · refine I.call (ch := []) ⟨fun b o e n hb _ => gB b o (ub.keep b o e n hb), fun b o e n hb _ => ?_, fun b o e n _ => ub.free b o e n, fun b o e _ => ?_, ub.tups, ub.frzs, ub.tbls⟩ (hok.kept gB) ag (fun _ z => nomatch z)
    · obtain ⟨sl, q⟩ := ub.slot b o e hb
      exact ⟨sl, by rw [gF b hb]; exact q⟩
    · by_cases hb : b ∈ frs X.stack
      · obtain ⟨sl, q⟩ := ub.slot b o e hb
        exact ⟨_, by rw [gF b hb]; exact q⟩
      · obtain ⟨o', q⟩ := ub.there b o e hb
        exact ⟨o', gB b o' q⟩
  · cases q : ((B.get? b).isSome || decide (b ∈ frs X.stack)) with
    | false => rw [g2 b q] at e; cases e
    | true =>
      rw [g1 b q] at e
      refine ⟨e, ?_⟩
      have q' : (B.get? b).isSome = true ∨ b ∈ frs X.stack := by simpa [Bool.or_eq_true] using q
      rcases q' with h | h
      · obtain ⟨o', z⟩ := Option.isSome_iff_exists.mp h
        have z' := st b o' z
        rw [e] at z'
        cases z'
        exact .inl z
      · exact .inr h
set_option maxHeartbeats 2000000 in
theorem comp_air {Ex : XK} {C : Addr} {ce : Env} {e : Value} (hs : X.stack = X.env :: X.outer) (hf : X.env.frame = some X.env.locals) (tk : L2N.Takes X (fun cls d _ H => Ex cls d H)) (hcf : ce.frame = X.env.frame) (I7 : Inv X pins σ H s) (f : FpOk X pins H C) (hC : ∃ m, s.heap.Ns C m) (c : L2N.CX X.prog X.w X.stack H s Ex e s') :
    notedBy (model X.prog X.w) X.A ce (fun e s'' => ∃ m, s''.heap.Ns C m ∧ ∀ h', Heap.SameBut C s''.heap h' → wpAny (model X.prog X.w) X.A (PySem.passOn "comprehension.variables-let-go" e ce : Sem Value) (fun _ _ => False) X.xe { s'' with heap := h' }) e s' := by
  obtain ⟨a, B, H', cls, d, rfl, fl, hok, ub, na, os, ag, hE⟩ := c
  obtain ⟨m, o, es, ep, hoC, hdC, hk⟩ := hC
  obtain ⟨f0, f1, f2, f3, f4, f5⟩ := f
  have nC : C ∉ frs X.stack := fun z => (List.mem_cons.mp (I7.stkSub C z)).elim f1 f2
  have hBC : B.get? C = some o := ub.keep C o hoC f0 nC
  have hC' : s'.heap.get? C = some o := fl.1 C o hBC
  have nH' : H' C = none := ub.free C o hoC f0
  obtain ⟨B0, b1, b2⟩ := restrict B fun b => decide (b ≠ C)
  obtain ⟨G0, g1, g2⟩ := restrict s.heap fun b => decide (b ≠ C)
  have b1' : ∀ b, b ≠ C → B0.get? b = B.get? b := fun b hb => b1 b (decide_eq_true hb)
  have g1' : ∀ b, b ≠ C → G0.get? b = s.heap.get? b := fun b hb => g1 b (decide_eq_true hb)
  have bC : B0.get? C = none := b2 C (by simp)
  have gC : G0.get? C = none := g2 C (by simp)
  have b0B : ∀ b o, B0.get? b = some o → B.get? b = some o := fun b o e => by
    by_cases z : b = C
    · rw [z, bC] at e; cases e
    · rw [← b1' b z]; exact e
  have g0s : ∀ b o, G0.get? b = some o → b ≠ C ∧ s.heap.get? b = some o := fun b o e => by
    by_cases z : b = C
    · rw [z, gC] at e; cases e
    · exact ⟨z, by rw [← g1' b z]; exact e⟩
  have bn : ∀ b, B.get? b = none → B0.get? b = none := fun b e => by
    by_cases z : b = C
    · rw [z]; exact bC
    · rw [b1' b z]; exact e
  obtain ⟨fl1, fl2, fl3, oe, vs, T, oT, ts, t1, t2, t3, t4, t5, t6, t7, t8, t9⟩ := fl
  have fl0 : FlyingZ B0 X.stack a (L2N.Zn cls d) s'.heap := ⟨fun b o e => fl1 b o (b0B b o e), bn a fl2, funFrames_base bn fl3, oe, vs, T, oT, ts, t1, t2, t3, t4, bn T t5, t6, t7, t8, t9⟩
  have hok0 : HOk X.prog X.w H' B0 := fun b u e => by
    have nb : b ≠ C := fun z => by rw [z, nH'] at e; cases e
    refine (hok b u e).stay (fun c v hc q => ?_) (fun _ q => q) fun _ _ q => q
    have nc : c ≠ C := by
      rcases hc with z | z
      · rw [z]; exact nb
      · exact fun y => by rw [y, nH'] at z; cases z
    rw [b1' c nc]
    exact q
  have I0 : Inv X pins σ H { s with heap := G0, toks := s.toks } := I7.turned (fun b o hb e => by rw [g1' b hb]; exact e) f0 f1 f3 f4 f5
  have ub0 : UB (frs X.stack) H H' G0 B0 s'.heap := by
    refine ⟨fun b o e n hb => ?_, fun b o e hb => ?_, fun b o e n => ?_, fun b o e hb => ?_, ub.tups, ub.frzs, ub.tbls⟩
    · obtain ⟨z, e⟩ := g0s b o e
      rw [b1' b z]
      exact ub.keep b o e n hb
    · exact ub.slot b o (g0s b o e).2 hb
    · exact ub.free b o (g0s b o e).2 n
    · obtain ⟨z, e⟩ := g0s b o e
      rw [b1' b z]
      exact ub.there b o e hb
  obtain ⟨G, IG, hG⟩ := air (s' := s') I0 fl0 hok0 ub0 ag
  have hfr : X.A.frames = some (X.env :: X.outer) := by rw [I7.ok.frames, hs]
  show wpAny _ _ (noteFrame (.ref a) ce) _ _ _
  rw [noteFrame_eq hcf]
  rw [hs] at fl0
  refine PySem.PXN.looks_onZ L2N.Zn.steady hfr hf fl0 fun h1 hh up1 => ?_
  obtain ⟨sl, hC1⟩ := up1 C o hC' (fun vs => by rw [hdC]; exact nofun)
  refine ⟨m, ⟨_, es, ep, hC1, hdC, hk⟩, fun h' sb => ?_⟩
  obtain ⟨k1, k2, k3, oe1, vs1, T1, oT1, ts1, r1, r2, r3, r4, r5, r6, r7, r8, r9⟩ := hh
  have sb' : ∀ b, b ≠ C → h'.get? b = h1.get? b := sb.2
  have naC : a ≠ C := fun z => by
    rw [z, hC1] at r1
    have := Option.some.inj r1
    rw [← this] at r3
    rw [show ({ o with slots := sl } : Obj).data = o.data from rfl, hdC] at r3
    cases r3
  have nTC : T1 ≠ C := fun z => by
    rw [z, hC1] at r7
    have := Option.some.inj r7
    rw [← this] at r8
    rw [show ({ o with slots := sl } : Obj).data = o.data from rfl, hdC] at r8
    cases r8
  have hh' : HeldZ B0 (X.env :: X.outer) a (L2N.Zn cls d) X.env.locals h' := by
    refine ⟨fun b o e => ?_, k2, funFrames_but sb' (by rw [← hs]; exact nC) k3, oe1, vs1, T1, oT1, ts1, by rw [sb' a naC]; exact r1, r2, r3, r4, r5, r6, by rw [sb' T1 nTC]; exact r7, r8, r9⟩
    have z : b ≠ C := fun z => by rw [z, bC] at e; cases e
    rw [sb' b z]
    exact k1 b o e
  unfold PySem.passOn
  refine wpAny_bind (wpAny_field (s := { s' with heap := h' }) (by rw [sb' a naC]; exact r1) r3 r4 ?_)
  rw [if_neg (by simp)]
  rw [hcf, hf]
  refine wpAny_bind (PySem.HandSPX.setFlight_onZ (s := { s' with heap := h' }) hh' fun h2 hh2 up2 => wpAny_throw (tk _ _ ⟨a, B0, _, pins, σ, H', cls, d, rfl, IG, fun b o e hb => ((hG b o e).2).resolve_right hb, ?_, ?_, na, os, ag, hE⟩))
  · intro b o e nf
    have z : b ≠ C := fun z => by
      rw [z] at e
      rcases (hG C o e).2 with q | q
      · rw [bC] at q; cases q
      · exact nC q
    obtain ⟨sl1, q1⟩ := up1 b o (hG b o e).1 nf
    rw [← sb' b z] at q1
    obtain ⟨sl2, q2⟩ := up2 b { o with slots := sl1 } q1 nf
    exact ⟨sl2, q2⟩
  · rw [hs]
    exact .inr (.inr hh2)
end
/-- behind a comprehension's block, an exception may leave it -/
def compPostX (M : Model) (A : PySem.Around) (E : Value → Shared → Prop) (Q : Value → Shared → Prop) (acc : Value) (ce : Env) (r : Result) (s' : Shared) : Prop :=
  match r with
  | .ok _ => ∃ m, s'.heap.Ns ce.locals m ∧ ∀ h', Heap.SameBut ce.locals s'.heap h' → Q acc { s' with heap := h' }
  | .error x => ∃ m, s'.heap.Ns ce.locals m ∧ ∀ h', Heap.SameBut ce.locals s'.heap h' → wpAny M A (PySem.passOn "comprehension.variables-let-go" x ce : Sem Value) (fun _ _ => False) E { s' with heap := h' }
section
variable {M : Model} {A : PySem.Around} {E : Value → Shared → Prop} {s : Shared} {env : Env}
theorem wpAny_comprehensionX {e : Expr} {scope : Scope} {pos : Pos} {newAcc first : Sem Value} {g : Comprehension} {gs : List Comprehension} {cl : List (Str × Addr)}
    {Q : Value → Shared → Prop}
    (hcl : clausesOf e = g :: gs) (hs : ∀ x, foldedSetIterable g.iter env x = pure x) (hclos : closureFor scope env = pure cl)
    (hkind : scope.kind = .function) (hnames : ∀ x ∈ scope.names, x.2 = .local → scope.names.lookup x.1 = some .local)
    (h : wpAny M A first (fun x s₁ => wpAny M A (pyIter x) (fun it s₂ => wpAny M A newAcc (fun acc s₃ =>
      wpAny M A (newFunctionEnv scope env.globals cl [] env.qual none .none (some env)) (fun cenv s₄ =>
        codeAny M A (.compStart e 0 it acc { cenv with scope := relabel scope env }) (compPostX M A E Q acc { cenv with scope := relabel scope env }) s₄) E s₃) E s₂) E s₁) E s) :
    wpAny M A (comprehension e scope env pos newAcc false first none) Q E s := by
  unfold comprehension
  rw [hclos, hcl]
  refine wpAny_bind (wpAny_mono h (fun x s₁ h₁ => wpAny_bind (wpAny_standAt (wpAny_bind (wpAny_of_eq (hs x) (wpAny_bind (wpAny_holding (wpAny_mono h₁ (fun it s₂ h₂ =>
    wpAny_standIf (wpAny_bind (wpAny_mono h₂ (fun acc s₃ h₃ => wpAny_bind (wpAny_pure (wpAny_bind (wpAny_mono h₃ (fun cenv s₄ h₄ => ?_) fun _ _ h' => h')))) fun _ _ h' => h')))
      fun _ _ h' => h'))))))) fun _ _ h' => h')
  dsimp only
  have hv : ∀ x ∈ (scope.names.filter fun x => (x.2 == .local || x.2 == .cell) && x.1 != (".0" : Str)).reverse, x.2 = .local →
      Env.kindOf { cenv with scope := relabel scope env } x.1 = some .local := fun x hx hl => lookup_relabel_local (hnames x (List.mem_filter.mp (List.mem_reverse.mp hx)).1 hl)
  refine wpAny_holding (wpAny_bind (wpAny_attempt (wpAny_holding (wpAny_run (codeAny_mono h₄ fun r s' hr => ?_)))))
  cases r with
  | ok f =>
    obtain ⟨m, hn, hr⟩ := hr
    exact wpAny_bind (wpAny_holding (wpAny_comp_letGo (cenv := { cenv with scope := relabel scope env }) hkind _ s' m hv hn fun h' m' _ hs' => wpAny_pure (hr h' hs')))
  | error x =>
    obtain ⟨m, hn, hr⟩ := hr
    exact wpAny_bind (wpAny_holding (wpAny_comp_letGo (cenv := { cenv with scope := relabel scope env }) hkind _ s' m hv hn fun h' m' _ hs' => wpAny_mono (hr h' hs') (fun _ _ f => f.elim) fun _ _ y => y))
end
section
variable {X : Cx}
set_option maxHeartbeats 4000000 in
theorem pe_lcX {elt tg iter : Expr} {ifs : List Expr} {scope : Scope} {own : List (Str × Nat)} {pos : Pos} {wi : TI} {g : TG} {tt : TT} {te : TE} {Ex : XK} (hc : X.calm = true) (hN : X.N.Nodup) (hstk : X.stack = X.env :: X.outer) (hf : X.env.frame = some X.env.locals) (tk : L2N.Takes X (fun cls d _ H => Ex cls d H)) (hi : PI X tg iter wi) (ok : BlkOk X.N X.env.scope scope own)
    (hg : ∀ (s : Shared) (H : Hp) (C : Addr) (cl : List (Str × Addr)) (fp : List Addr) (xe : Value → Shared → Prop), PG ((X.blk s H scope (compEnvC scope cl C X.env) fp).tr [] xe) tg g) (ht : ∀ (s : Shared) (H : Hp) (C : Addr) (cl : List (Str × Addr)) (fp : List Addr) (xe : Value → Shared → Prop), PTs ((X.blk s H scope (compEnvC scope cl C X.env) fp).tr [] xe) ifs tt)
    (he : ∀ (s : Shared) (H : Hp) (C : Addr) (cl : List (Str × Addr)) (fp : List Addr) (xe : Value → Shared → Prop), (∀ σ', PassesAt (L2N.CX X.prog X.w) ((X.blk s H scope (compEnvC scope cl C X.env) fp).tr [] xe) σ' Ex) → PE ((X.blk s H scope (compEnvC scope cl C X.env) fp).tr [] xe) elt te) (hs : ∀ x, foldedSetIterable iter X.env x = pure x := by intro _; rfl) :
    PE X (.ListComp elt [⟨tg, iter, ifs, 0⟩] scope pos) (tLc wi g tt te (own.map (·.2))) := by
  refine ⟨fun pins s σ H Q I h => ?_⟩
  rw [eval_ListComp]
  have hfree : ∀ y ∈ scope.names, y.2 = .free → ∃ c, X.env.cells.lookup y.1 = some c := fun y hy e => by
    rcases ok.free y hy e with k | k
    · exact I.ok.has _ (.inl k)
    · exact I.ok.has _ (.inr k)
  refine wpAny_comprehensionX rfl hs (closure_ok hfree) ok.kind (fun y hy e => by rw [ok.uniq y hy, e])
    (thn (hi.run pins s σ H _ I h) fun xv s1 hx => thn hx fun itv s2 h2 => ?_)
  obtain ⟨it, fp, tn, J, H2, e, I2, T, st2, f2, q⟩ := h2
  subst e
  refine wpAny_newObj_type (newEnv_comp ?_) (by show 0 ≤ sizeLine; decide)
  generalize hD : s2.heap.objs.size = D
  have hDn : H2 D = none := I2.hok.fresh (Nat.le_of_eq hD)
  obtain ⟨W, ⟨m0, w0⟩, turn⟩ := q D hDn
  generalize hs3 : ({ s2 with heap := s2.heap.push { cls := .type "list", data := .seq ([] : List Value).toArray } } : Shared) = s3
  have I3 : Inv X pins σ (upd H2 D (.lst [])) s3 := by
    rw [← hs3]
    refine I2.laid (t' := s2.toks) (fun b o e => Heap.get?_push_of_some _ e) (Nat.le_of_eq hD) ⟨Nat.zero_le _, [], 0, .nil, ?_⟩
    rw [← hD]
    exact Heap.get?_push_size _ rfl
  have h3 : s3.heap = s2.heap.push { cls := .type "list", data := .seq ([] : List Value).toArray } := by rw [← hs3]
  have sz : ∀ b ∈ fp, b < s2.heap.objs.size := fun b hb => by
    obtain ⟨o, e, _⟩ := T.obj _ _ st2 b hb
    exact Heap.lt_size e
  have f3 : ∀ b ∈ fp, FpOk X pins (upd H2 D (.lst [])) b ∧ b < s3.heap.objs.size := fun b hb => by
    have hlt := sz b hb
    refine ⟨⟨?_, (f2 b hb).2⟩, by rw [h3, Heap.size_push]; exact Nat.lt_succ_of_lt hlt⟩
    rw [upd_ne (by rw [← hD]; exact Nat.ne_of_lt hlt)]
    exact (f2 b hb).1
  have st3 : tn 0 s3.heap := T.keep _ _ _ st2 fun b _ o e => by rw [h3]; exact Heap.get?_push_of_some _ e
  have I4 := block_start I3 ok hN f3
  have pg := hg s3 (upd H2 D (.lst [])) s3.heap.objs.size (cellsFrom (s3.heap.objs.size + 1) scope.names (cloFrom X.env.cells scope.names [])) fp
  have pt := ht s3 (upd H2 D (.lst [])) s3.heap.objs.size (cellsFrom (s3.heap.objs.size + 1) scope.names (cloFrom X.env.cells scope.names [])) fp
  have pe := he s3 (upd H2 D (.lst [])) s3.heap.objs.size (cellsFrom (s3.heap.objs.size + 1) scope.names (cloFrom X.env.cells scope.names [])) fp
  show codeAny _ _ (.compStart (.ListComp elt [⟨tg, iter, ifs, 0⟩] scope pos) 0 (.ref it) (.ref D) (compEnvC scope (cellsFrom (s3.heap.objs.size + 1) scope.names (cloFrom X.env.cells scope.names [])) s3.heap.objs.size X.env)) (compPostX (model X.prog X.w) X.A X.xe (EP X pins σ Q) (.ref D) (compEnvC scope (cellsFrom (s3.heap.objs.size + 1) scope.names (cloFrom X.env.cells scope.names [])) s3.heap.objs.size X.env)) { s3 with heap := pushCells (s3.heap.push { cls := .type "dict", data := .dict #[] }) scope.names }
  have nfp : ∀ b ∈ fp, (upd H2 D (.lst [])) b = none := fun b hb => (f3 b hb).1.1
  generalize hce : compEnvC scope (cellsFrom (s3.heap.objs.size + 1) scope.names (cloFrom X.env.cells scope.names [])) s3.heap.objs.size X.env = ce at I4 pg pt pe ⊢
  have cL : ce.locals = s3.heap.objs.size := by subst hce; rfl
  have cF : ce.frame = X.env.frame := by subst hce; rfl
  generalize hH3 : upd H2 D (.lst []) = H3 at I3 I4 pg pt pe w0 nfp f3
  generalize hs4 : ({ s3 with heap := pushCells (s3.heap.push { cls := .type "dict", data := .dict #[] }) scope.names } : Shared) = s4 at I4 ⊢
  have st4 : tn 0 s4.heap := T.keep _ _ _ st3 fun b _ o e => by rw [← hs4]; exact pushCells_keeps _ _ _ _ (Heap.get?_push_of_some _ e)
  generalize hxe : (notedBy (model X.prog X.w) X.A ce fun e s' => compPostX (model X.prog X.w) X.A X.xe (EP X pins σ Q) (.ref D) ce (.error e) s') = xeB
  have back : ∀ {σ' : L2.St} {pins' : List (Addr × Obj)} {H' : Hp} {s' : Shared}, Inv ((X.blk s3 H3 scope ce fp).tr [] xeB) pins' σ' H' s' → Inv X pins σ H' s' := fun {σ' pins' H' s'} I' =>
    I3.call' (ch := fp) I'.os I'.base I'.hok I'.bare fun b hb => ⟨(f3 b hb).1.2.2.2.1, (f3 b hb).1.2.1, (f3 b hb).1.2.2.2.2.1, (f3 b hb).1.2.2.2.2.2⟩
  have nCof : ∀ {σ' : L2.St} {pins' : List (Addr × Obj)} {H' : Hp} {s' : Shared}, Inv ((X.blk s3 H3 scope ce fp).tr [] xeB) pins' σ' H' s' → H' s3.heap.objs.size = none := fun {σ' pins' H' s'} I' => by
    have z : H' ce.locals = none := I'.free
    rw [cL] at z
    exact z
  have px : ∀ σ', PassesAt (L2N.CX X.prog X.w) ((X.blk s3 H3 scope ce fp).tr [] xeB) σ' Ex := fun σ' pins' H' s' e s'' I' c => by
    show xeB e s''
    rw [← hxe]
    have fC := I3.fpOk (Nat.le_refl _) (nCof I')
    rw [← cL] at fC
    obtain ⟨m, hn, _⟩ := I'.loc
    exact comp_air hstk hf tk cF (back I') fC ⟨m, hn⟩ c
  have pg := pg xeB
  have pt := pt xeB
  have pe := pe xeB px
  have I4 : Inv ((X.blk s3 H3 scope ce fp).tr [] xeB) [] (wipe σ (own.map (·.2))) H3 s4 := I4.toTry xeB
  have stat : ∀ {σ' : L2.St} {H' : Hp} {s' : Shared}, Inv ((X.blk s3 H3 scope ce fp).tr [] xeB) [] σ' H' s' → (∀ b ∈ fp, H' b = none) → ∀ b ∈ fp, FpOk ((X.blk s3 H3 scope ce fp).tr [] xeB) [] H' b := fun {σ' H' s'} I' hn b hb =>
    ⟨hn b hb, (I'.ok.exf b hb).1, I'.ok.exfs b hb, .inl hb, fun x c e => (I'.ok.exf b hb).2 x c e, fun p hp => absurd (show p ∈ ([] : List (Addr × Obj)) ++ [] from hp) (by simp)⟩
  have loop : codeAny (model X.prog X.w) X.A (.compLoop (.ListComp elt [⟨tg, iter, ifs, 0⟩] scope pos) 0 (.ref it) (.ref D) ce) (compPostX (model X.prog X.w) X.A X.xe (EP X pins σ Q) (.ref D) ce) s4 := by
    refine compLoop_any (fun n s' => ∃ i H', Inv ((X.blk s3 H3 scope ce fp).tr [] xeB) [] (wipe σ (own.map (·.2))) H' s' ∧ tn i s'.heap ∧ (∀ b ∈ fp, H' b = none) ∧ W i n H') ?_ m0 ⟨0, H3, I4, st4, nfp, w0⟩
    rintro n s5 ⟨i, H5, I5, st5, n5, w5⟩
    rcases turn i n H5 w5 with ⟨stop, qq⟩ | ⟨go, Nx, hNx, step⟩
    · have td := T.done ((X.blk s3 H3 scope ce fp).tr [] xeB) rfl rfl rfl hc i [] s5 _ H5 (fun _ _ => False) I5 (stat I5 n5) st5 stop
      refine thnF td fun r s6 ⟨hr, I6⟩ => ?_
      subst hr
      have I7 := back I6
      obtain ⟨m, hn, _⟩ := I6.loc
      obtain ⟨f0, f1, f3', f4, f5⟩ := (I3.fpOk (Nat.le_refl _) (nCof I6)).2
      refine ⟨m, hn, fun h'' sb => ?_⟩
      have sb2 : ∀ b, b ≠ s3.heap.objs.size → h''.get? b = s6.heap.get? b := fun b hb => sb.2 b (by rw [cL]; exact hb)
      exact ⟨.ref D, H5, I7.turned (t' := s6.toks) (fun b o hb e => (sb2 b hb).trans e) (nCof I6) f0 f3' f4 f5, rfl, qq⟩
    · have ti := T.item ((X.blk s3 H3 scope ce fp).tr [] xeB) rfl rfl rfl hc i [] s5 _ H5 (fun _ _ => False) I5 (stat I5 n5) st5 go
      refine thnF ti fun r s6 ⟨u, hr, h6⟩ => ?_
      subst hr
      refine thnF h6 fun _ s7 ⟨x, H7, I7, r7, y7, st7, n7⟩ => ?_
      have I7' := I7.pinned (stat I7 n7) (T.obj _ _ st7)
      rw [hxe]
      refine thn (pg.run _ s7 _ H7 x u _ I7' r7 (step x H7 y7)) fun _ s8 ⟨σ8, H8, I8, hw8, q8⟩ => ?_
      refine thn (pt.run _ s8 σ8 H8 _ I8 q8) fun b s9 ⟨H9, I9, q9⟩ => ?_
      have fin : ∀ {s' : Shared} {H' : Hp}, Inv ((X.blk s3 H3 scope ce fp).tr [] xeB) ([] ++ pinsAt fp s7.heap) σ8 H' s' → Nx H' → ∃ m, m < n ∧ ∃ i H', Inv ((X.blk s3 H3 scope ce fp).tr [] xeB) [] (wipe σ (own.map (·.2))) H' s' ∧ tn i s'.heap ∧ (∀ b ∈ fp, H' b = none) ∧ W i m H' := fun {s' H'} I' nx => by
        obtain ⟨m', hm, w'⟩ := hNx H' nx
        have pin' : ∀ b ∈ fp, ∀ o, s7.heap.get? b = some o → s'.heap.get? b = some o ∧ H' b = none := fun b hb o e =>
          let z := I'.pin (b, o) (List.mem_append_right _ (List.mem_append_right _ (mem_pinsAt hb e)))
          ⟨z.1, z.2.1⟩
        have hl : (wipe σ (own.map (·.2))).length = σ8.length := by rw [← hw8, wipe_length]
        refine ⟨m', hm, i + 1, H', (I'.unpinned (pins := [])).weak hl (fun j v e => ?_), T.keep _ _ _ st7 fun b hb o e => (pin' b hb o e).1, fun b hb => ?_, w'⟩
        · rw [← hw8] at e
          exact (wipe_some e).1
        · obtain ⟨o, e, _⟩ := T.obj _ _ st7 b hb
          exact (pin' b hb o e).2
      cases b with
      | false =>
        simp only [Bool.false_eq_true, if_false] at q9 ⊢
        exact fin I9 q9
      | true =>
        simp only [if_true] at q9 ⊢
        refine thn (pe.run _ s9 σ8 H9 _ I9 q9) fun z s10 ⟨yv, H10, I10, r10, acc, hD10, hz10, nx⟩ => ?_
        exact app_ok (X := (X.blk s3 H3 scope ce fp).tr [] xeB) I10 hD10 hz10 r10 fun s11 I11 => fin I11 nx
  exact codeAny_compStart_list loop (T.self X.A 0 _ _ _ st4 loop)
end
/-! ### reading that may be refused -/
open TL
theorem pe_never {X : Cx} {e : Expr} : PE X e (fun _ _ _ => False) := ⟨fun _ _ _ _ _ _ h => h.elim⟩
theorem Fun.okN {P : Program} {w : World} {K : PySem.W.Frag} {mg : Str → Option Value} {base : Heap} {x qual : Str} {st : Stmt} {f : Addr} {fd : FuncData} {N ps : List Str} {k : Nat} {sp : Sp} (F : Fun K x qual st f fd) (S : FnScope N ps (defScope st)) (len : ∀ vs H Q E, sp vs H Q E → vs.length = ps.length)
    (hbody : ∀ (cdv : Value) (A : PySem.Around) (outer : List Env) (s : Shared) (H : Hp) (vs : List V) (Q : VK) (E : XK), Room k (A.deeper (envOfC qual (defScope st) s.heap.objs.size f cdv)) → sp vs H Q E →
      ∃ t, PSs (cxOf (L2N.CX P w) P w K mg base N qual (defScope st) f cdv A outer s H E) (defBody st) t ∧ t { nx := fun _ H' => Q .non H', rt := Q } (start N vs) H) : FnOk P w K mg base (L2N.CX P w) (k + 1) f fd ps sp := by
  obtain ⟨⟨oc, od, kV, doc, pm, an, cdv, ct, osl, rfl, lk, hcd⟩, kp⟩ := F
  refine fn_of lk hcd S len fun A outer s H vs Q E hr hsp => ?_
  exact hbody cdv A outer s H vs Q E hr hsp
def DfN (P : Program) (w : World) (K : PySem.W.Frag) (mg : Str → Option Value) (base : Heap) (k : Nat) (x : Str) (ps : List Str) (sp : Sp) : Prop :=
  ∃ (f : Addr) (fd : FuncData), FnOk P w K mg base (L2N.CX P w) k f fd ps sp ∧ mg x = some (.ref f) ∧ PySem.W.keepIn K (.ref f) = true ∧ L2.Binds K fd ps []
theorem FunC.okN {P : Program} {w : World} {K : PySem.W.Frag} {mg : Str → Option Value} {base : Heap} {x qual : Str} {st : Stmt} {f c : Addr} {fd : FuncData} {N ps : List Str} {k : Nat} {sp : Sp} (F : FunC K x qual st f fd c) (S : FnScope N ps (defScope st)) (len : ∀ vs H Q E, sp vs H Q E → vs.length = ps.length)
    (hbody : ∀ (A : PySem.Around) (outer : List Env) (s : Shared) (H : Hp) (vs : List V) (Q : VK) (E : XK), Room k (A.deeper (envOfC qual (defScope st) s.heap.objs.size f (.ref c))) → sp vs H Q E →
      ∃ t, PSs (cxOf (L2N.CX P w) P w K mg base N qual (defScope st) f (.ref c) A outer s H E) (defBody st) t ∧ t { nx := fun _ H' => Q .non H', rt := Q } (start N vs) H) : FnOk P w K mg base (L2N.CX P w) (k + 1) f fd ps sp := by
  obtain ⟨oc, od, kV, doc, pm, an, ct, osl, rfl, lk, hcd⟩ := F.ex
  refine fn_of lk hcd S len fun A outer s H vs Q E hr hsp => ?_
  exact hbody A outer s H vs Q E hr hsp
def IsNum (x : Str) : Prop := ∃ k, GoodN k ∧ x = numS k
def spReadNumN (Ps : List Addr) (D : Addr) : Sp := fun vs H Q E => ∃ x : Str, vs = [.str x] ∧ x.length ≤ sizeLine ∧ Tabs Ps H ∧ (∀ k, GoodN k → x = numS k → ∀ H', Kt Ps H H' → Q (.int k) H') ∧ (¬ IsNum x → ∀ H', Kt Ps H H' → E (.ref D) none H')
def IsHead (x : Str) (k : Int) : Prop := GoodN k ∧ Txt.split x sSp = [sWeb, numS k]
def spReadManyN (Ps : List Addr) (D : Addr) : Sp := fun vs H Q E => ∃ x : Str, vs = [.str x] ∧ x.length + 2 ≤ sizeLine ∧ Tabs Ps H ∧ (∀ k, IsHead x k → ∀ H', Kt Ps H H' → Q (.int k) H') ∧ ((¬ ∃ k, IsHead x k) → ∀ H', Kt Ps H H' → E (.ref D) none H')
def spReadWeightsN (Ps : List Addr) (D : Addr) : Sp := fun vs H Q E => ∃ (R : Addr) (us : List V) (rs : List (List Str)), vs = [.ref R] ∧ H R = some (.lst us) ∧ Paired (RowW H) us rs ∧ us.length ≤ 1000000 ∧ (∀ r ∈ rs, ∀ x ∈ r, x.length ≤ sizeLine) ∧ Tabs Ps H ∧
  (∀ v W H', WRel rs W → WtAt H' v W → Kt Ps H H' → Q v H') ∧ ((¬ ∃ W, WRel rs W) → ∀ H', Kt Ps H H' → E (.ref D) none H')
/-- all weights are 1 or more -/
def posB : Option (List Int) → Bool
  | none => true
  | some ws => ws.all fun x => decide (1 ≤ x)
def spIsWeightsB (Ps : List Addr) : Sp := fun vs H Q _ => ∃ (wa wb : Addr) (x : V) (us : List V) (gv : V) (W : Option (List Int)), vs = [.ref wa, gv] ∧ H wa = some (.tup [x, .ref wb]) ∧ H wb = some (.tup us) ∧ WtAt H gv W ∧ (∀ ws, W = some ws → ws.length = us.length) ∧ Tabs Ps H ∧ ∀ H', Kt Ps H H' → Q (.bl (posB W)) H'
section
variable {P : Program} {w : World} {K : PySem.W.Frag} {mg : Str → Option Value} {base : Heap}
theorem okN_read_number {f : Addr} {fd : FuncData} {Ps : List Addr} {D W : Addr} (T : RefT K mg "NoText" D W) (F : Fun K "read_number" "read_number" s_read_number f fd) (M : Free mg) (D1 : Df P w K mg base 2 "writes_number" ["word"] (spWrites Ps)) : FnOk P w K mg base (L2N.CX P w) 3 f fd ["word"] (spReadNumN Ps D) := by
  obtain ⟨f1, fd1, G1, g1, k1, b1⟩ := D1
  refine Fun.okN F sc_read_number (fun vs H Q E h => ?_) (fun cdv A outer s H vs Q E hr h => ?_)
  · obtain ⟨x, rfl, _⟩ := h
    rfl
  · obtain ⟨x, rfl, hl, hT, q, qe⟩ := h
    refine ⟨_, (pss_cons (ps_if (pt_not (pt_val (pe_call G1 (hr.mono (by decide)) (by rfl) g1 k1 b1 .nil pass0 (pa_cons (pv 0) pa_nil)))) (pss_one (L2N.ps_raise rfl (L2N.takes_of rfl rfl rfl rfl) (L2N.pmk_own PySem.F.excBase_ValueError T.exc T.gD T.kD (raises_own T.ec.hs T.tD) rfl))) pss_nil)
      (pss_one (ps_ret (pe_callTy call_int_str (by rfl) M.int (by decide +kernel) (pa_cons (pv 0) pa_nil))))), ?_⟩
    refine ⟨.str x, rfl, _, rfl, hl, hT, fun H' kt => ?_⟩
    cases hw : wnumB x with
    | false => exact ⟨_, rfl, qe (fun h => by rw [wnum_iff.mpr h] at hw; cases hw) _ kt⟩
    | true =>
      obtain ⟨k, hk, rfl⟩ := wnum_num hw
      have l2 := (word_num hk).le
      exact ⟨_, rfl, .str (numS k), rfl, _, k, rfl, int_numS hk, by omega, q k hk rfl _ kt⟩
set_option maxHeartbeats 4000000 in
theorem okN_read_many {f : Addr} {fd : FuncData} {Ps : List Addr} {D W : Addr} (T : RefT K mg "NoText" D W) (F : Fun K "read_many" "read_many" s_read_many f fd) (M : Free mg) (D1 : DfN P w K mg base 3 "read_number" ["word"] (spReadNumN Ps D)) : FnOk P w K mg base (L2N.CX P w) 4 f fd ["line"] (spReadManyN Ps D) := by
  obtain ⟨f1, fd1, G1, g1, k1, b1⟩ := D1
  refine Fun.okN F sc_read_many (fun vs H Q E h => ?_) (fun cdv A outer s H vs Q E hr h => ?_)
  · obtain ⟨x, rfl, _⟩ := h
    rfl
  · obtain ⟨x, rfl, hl, hT, q, qe⟩ := h
    refine ⟨_, (pss_cons (ps_set (i := 1) sc_read_many.nd rfl (.inl rfl) (pe_split (pv 0) pe_str))
      (pss_cons (ps_if (PW.pt (pw_or (pt_cmpR op_ne (pe_callB call_len_seq (by rfl) M.len PySem.boot_len (pa_cons (pv 1) pa_nil)) pe_int (nomark _)) (pw_or1 (pt_cmpR op_ne (pe_ix ix_list (pv 1) pe_int (fun _ _ => rfl)) pe_str (nomark _)))))
        (pss_one (L2N.ps_raise rfl (L2N.takes_of rfl rfl rfl rfl) (L2N.pmk_own PySem.F.excBase_ValueError T.exc T.gD T.kD (raises_own T.ec.hs T.tD) rfl))) pss_nil)
      (pss_one (ps_ret (pe_callS G1 hr (by rfl) g1 k1 b1 (fun σ => L2N.passAt (L2N.takes_of rfl rfl rfl rfl) σ) (pa_cons (pe_ix ix_list (pv 1) pe_int (fun _ _ => rfl)) pa_nil)))))), ?_⟩
    refine ⟨.str x, rfl, ⟨_, rfl⟩, x, _, rfl, rfl, by decide, hl, fun p np => ?_⟩
    have hp := upd_same (H := H) (a := p) (o := .lst ((Txt.split x (" " : Str)).map V.str))
    have sp := same_new (o := .lst ((Txt.split x (" " : Str)).map V.str)) np
    generalize upd H p (.lst ((Txt.split x (" " : Str)).map V.str)) = H1 at hp sp
    have kp := Kt.same hT sp
    have esp : Txt.split x (" " : Str) = Txt.split x sSp := rfl
    rw [esp] at hp
    have hle : ∀ y ∈ Txt.split x sSp, y.length ≤ sizeLine := fun y hy => Nat.le_trans (split_part_le hy) (by omega)
    refine ⟨.ref p, rfl, p, _, rfl, .inl (SqL.of hp), rfl, _, rfl, ?_⟩
    rw [List.length_map, dec_int]
    match e : Txt.split x sSp with
    | [a, b] =>
      rw [e] at hp hle
      refine ite2 (fun z => absurd z (by simp)) (fun _ => ?_)
      refine ⟨.ref p, rfl, p, _, 0, .str a, rfl, rfl, SqL.of hp, rfl, rfl, ?_⟩
      by_cases ha : a = sWeb
      · subst ha
        refine ⟨_, rfl, ite2 (fun z => absurd z (by simp [sWeb])) (fun _ => ?_)⟩
        refine ⟨.ref p, rfl, p, _, 1, .str b, rfl, rfl, SqL.of hp, rfl, b, rfl, hle b (by simp), kp.tab, fun k hk eb H' kt => q k ⟨hk, by rw [e, eb]⟩ _ (kp.trans kt), fun nn H' kt => qe (fun ⟨k, hk⟩ => nn ⟨k, hk.1, ?_⟩) _ (kp.trans kt)⟩
        have := hk.2
        rw [e] at this
        exact (List.cons.inj (List.cons.inj this).2).1
      · refine ⟨_, rfl, ite2 (fun _ => ?_) (fun z => absurd (by simp; exact ha) z)⟩
        exact qe (fun ⟨k, hk⟩ => by
          have := hk.2
          rw [e] at this
          exact ha (List.cons.inj this).1) _ kp
    | [] => exact ite2 (fun _ => qe (fun ⟨k, hk⟩ => by have := hk.2; rw [e] at this; cases this) _ kp) (fun z => absurd (by simp) z)
    | [a] => exact ite2 (fun _ => qe (fun ⟨k, hk⟩ => by have := hk.2; rw [e] at this; cases this) _ kp) (fun z => absurd (by simp) z)
    | a :: b :: c :: d => exact ite2 (fun _ => qe (fun ⟨k, hk⟩ => by have := hk.2; rw [e] at this; cases this) _ kp) (fun z => absurd (by simp; omega) z)
end
/-! ### weights read, or refused -/
open TL
section
variable {P : Program} {w : World} {K : PySem.W.Frag} {mg : Str → Option Value} {base : Heap}
set_option maxHeartbeats 4000000 in
theorem okN_read_weights {f c Pt : Addr} {fd : FuncData} {Ps : List Addr} {D W : Addr} (T : RefT K mg "NoText" D W) (F : FunC K "read_weights" "read_weights" s_read_weights f fd c) (TB : GxR.TabB base mg c Pt) (hPt : Pt ∈ Ps) (M : Free mg) (m_all : mg "all" = none) (D1 : DfN P w K mg base 3 "read_number" ["word"] (spReadNumN Ps D)) : FnOk P w K mg base (L2N.CX P w) 4 f fd ["rows"] (spReadWeightsN Ps D) := by
  obtain ⟨f1, fd1, G1, g1, k1, b1⟩ := D1
  refine FunC.okN F sc_read_weights (fun vs H Q E h => ?_) (fun A outer s H vs Q E hr h => ?_)
  · obtain ⟨R, us, rs, rfl, _⟩ := h
    rfl
  · obtain ⟨R, us, rs, rfl, hR, hp, few, hle, hT, q, qe⟩ := h
    refine ⟨_, (pss_cons (ps_if (pt_val (pe_all (k := 2) (own := [("words", 1)]) (g := gName 1) hr TB rfl rfl sc_read_weights.nd (by rfl) m_all (pi_list (pv 0)) (blkOk_by (N := N_read_weights) (sc := defScope s_read_weights) (own := [("words", 1)]) (by decide +kernel)) ⟨rfl, by decide +kernel, by decide +kernel⟩ (show (".0" : Str) ∉ N_read_weights by decide +kernel)
          (fun _ _ _ _ _ _ _ => pg_name (i := 1) sc_read_weights.nd rfl (.inl rfl)) (fun _ _ _ _ _ _ _ hr' => pe_cmpR op_eq (pe_callB (r := rLen04 K) call_len_seq (by rfl) M.len PySem.boot_len (pa_cons (pv 1) pa_nil)) pe_int (nomark _))))
        (pss_one (ps_ret pe_non)) pss_nil)
      (pss_cons (ps_if (pt_val (pe_all (k := 2) (own := [("words", 1)]) (g := gName 1) hr TB rfl rfl sc_read_weights.nd (by rfl) m_all (pi_list (pv 0)) (blkOk_by (N := N_read_weights) (sc := defScope s_read_weights) (own := [("words", 1)]) (by decide +kernel)) ⟨rfl, by decide +kernel, by decide +kernel⟩ (show (".0" : Str) ∉ N_read_weights by decide +kernel)
          (fun _ _ _ _ _ _ _ => pg_name (i := 1) sc_read_weights.nd rfl (.inl rfl)) (fun _ _ _ _ _ _ _ hr' => pe_cmpR op_eq (pe_callB (r := rLen04 K) call_len_seq (by rfl) M.len PySem.boot_len (pa_cons (pv 1) pa_nil)) pe_int (nomark _))))
        (pss_one (ps_ret (pe_callTy call_tuple_of (by rfl) M.tuple (by decide +kernel) (pa_cons (pe_lcX (Ex := E) (own := [("words", 1)]) (g := gName 1) (tt := tYes) rfl sc_read_weights.nd rfl rfl (L2N.takes_of rfl rfl rfl rfl) (pi_list (pv 0)) (blkOk_by (N := N_read_weights) (sc := defScope s_read_weights) (own := [("words", 1)]) (by decide +kernel)) (fun _ _ _ _ _ _ => (pg_name (i := 1) sc_read_weights.nd rfl (.inl rfl))) (fun _ _ _ _ _ _ => pts_nil)
          (fun _ _ _ _ _ _ hx => pe_callS (E := fun _ => E) G1 hr (by rfl) g1 k1 b1 hx (pa_cons (pe_ix (r := rIxL K) ix_list (pv 1) pe_int (fun _ _ => rfl)) pa_nil))) pa_nil)))) pss_nil)
      (pss_one (L2N.ps_raise rfl (L2N.takes_of rfl rfl rfl rfl) (L2N.pmk_own PySem.F.excBase_ValueError T.exc T.gD T.kD (raises_own T.ec.hs T.tD) rfl))))), ?_⟩
    unfold tSeq tIfS tB tNext
    refine all_len hT hPt hR hp fun H1 k1 => ?_
    have hR1 := k1.lst hT hR
    have hp1 := rowsW_kt k1 hT hp
    have T1 := k1.tab
    have lu : us.length = rs.length := Paired.length hp
    refine ⟨_, rfl, ite2 (fun e3 => ?_) (fun e3 => ?_)⟩
    · have w3 : WRel rs none := fun r hr => by
        have := of_decide_eq_true (List.all_eq_true.mp e3 r hr)
        omega
      exact q .non none H1 w3 rfl k1
    dsimp only
    refine all_len T1 hPt hR1 hp1 fun H2 k12 => ?_
    have k2 := k1.trans k12
    have hR2 := k12.lst T1 hR1
    have hp2 := rowsW_kt k12 T1 hp1
    have T2 := k12.tab
    have no3 : ¬ WRel rs none := fun h => e3 (List.all_eq_true.mpr fun r hr => decide_eq_true (by rw [h r hr]; rfl))
    refine ⟨_, rfl, ite2 (fun e4 => ?_) (fun e4 => ?_)⟩
    · have l4 : ∀ r, r ∈ rs → r.length = 4 := fun r hr => by
        have := of_decide_eq_true (List.all_eq_true.mp e4 r hr)
        omega
      have ne : rs ≠ [] := fun z => e3 (by rw [z]; rfl)
      refine ⟨.ref R, rfl, R, rfl, ⟨_, SqL.of hR2⟩, fun L nL => ?_⟩
      refine lc_list (K := K) (a := R) (xs := us) (fun i H' => ∃ ws : List Int, H' L = some (.lst (ws.map V.int)) ∧ ws.length = i ∧ (∀ (j : Nat) (r : List Str), j < i → rs[j]? = some r → ∃ x, ws[j]? = some x ∧ GoodN x ∧ r[3]? = some (numS x)) ∧ Kt Ps H2 H') ⟨[], upd_same, rfl, fun j r h => (by omega), Kt.same T2 (same_new nL)⟩ (fun i H' _ h => by
        obtain ⟨_, _, _, _, k⟩ := h
        exact SqL.of (k.lst T2 hR2)) ?_ ?_
      · rintro i x H3 hx ⟨ws, hL, hl, hws, k23⟩
        have T3 := k23.tab
        obtain ⟨r, er, a, rfl, ha⟩ := Paired.at (rowsW_kt k23 T2 hp2) hx
        have hr4 := l4 r (List.mem_of_getElem? er)
        have e3' : r[3]? = some r[3] := List.getElem?_eq_getElem (by omega)
        have li : i < us.length := (List.getElem?_eq_some_iff.mp hx).1
        refine ⟨rfl, .ref a, rfl, a, _, 3, .str r[3], rfl, rfl, SqL.of ha, atI_nat (j := 3) (by rw [List.getElem?_map, e3']; rfl), r[3], rfl, hle r (List.mem_of_getElem? er) _ (List.getElem_mem _), T3, fun k hk ek H4 k34 => ?_, fun nn H4 k34 => ?_⟩
        · have hL4 := k34.lst T3 hL
          refine ⟨_, hL4, by rw [List.length_map, hl, sizeLine_eq]; omega, ws ++ [k], by rw [upd_same, List.map_append]; rfl, by rw [List.length_append, hl]; rfl, fun j r' hj ej => ?_, (k23.trans k34).mutN T2 nL⟩
          by_cases z : j < i
          · obtain ⟨y, h1, h2, h3⟩ := hws j r' z ej
            exact ⟨y, by rw [List.getElem?_append_left (by omega)]; exact h1, h2, h3⟩
          · have ej' : j = i := by omega
            subst ej'
            rw [er] at ej
            cases ej
            exact ⟨k, by rw [← hl]; simp, hk, by rw [e3', ek]⟩
        · refine qe (fun ⟨W', h⟩ => ?_) _ (k2.trans (k23.trans k34))
          cases W' with
          | none => exact no3 h
          | some ws' =>
            obtain ⟨_, y, _, gy, hy⟩ := h.2.2 i r er
            rw [e3'] at hy
            exact nn ⟨y, gy, Option.some.inj hy⟩
      · rintro H3 ⟨ws, hL, hl, hws, k23⟩
        refine ⟨L, _, rfl, .inl ⟨SqL.of hL, fun A nA => ?_⟩⟩
        have wr : WRel rs (some ws) := ⟨ne, by rw [hl, lu], fun i r er => ⟨l4 r (List.mem_of_getElem? er), hws i r (by rw [lu]; exact (List.getElem?_eq_some_iff.mp er).1) er⟩⟩
        exact q (.ref A) (some ws) _ wr ⟨A, rfl, upd_same⟩ ((k2.trans k23).trans (Kt.same k23.tab (same_new nA)))
    · refine qe (fun ⟨W', h⟩ => ?_) _ k2
      cases W' with
      | none => exact no3 h
      | some ws' =>
        refine e4 (List.all_eq_true.mpr fun r hr => decide_eq_true ?_)
        obtain ⟨i, hi⟩ := List.getElem?_of_mem hr
        rw [(h.2.2 i r hi).1]
        rfl
set_option maxHeartbeats 4000000 in
theorem ok_is_weightsB {f c Pt : Addr} {fd : FuncData} {Ps : List Addr} (F : FunC K "is_weights" "is_weights" s_is_weights f fd c) (TB : GxR.TabB base mg c Pt) (hPt : Pt ∈ Ps) (M : Free mg) (m_all : mg "all" = none) (D1 : Df P w K mg base 2 "is_whole_from" ["low", "thing"] spFrom) (D2 : Df P w K mg base 1 "is_tuple_of" ["length", "thing"] spTupleOf) : FnOk P w K mg base CX0 4 f fd ["web", "thing"] (spIsWeightsB Ps) := by
  obtain ⟨f1, fd1, G1, g1, k1, b1⟩ := D1
  obtain ⟨f2, fd2, G2, g2, k2, b2⟩ := D2
  refine F.ok sc_is_weights (fun vs H Q E h => ?_) (fun A outer s H vs Q E hr h => ?_)
  · obtain ⟨wa, wb, x, us, gv, W, rfl, _⟩ := h
    rfl
  · obtain ⟨wa, wb, x, us, gv, W, rfl, hwa, hwb, hW, gW, hT, q⟩ := h
    refine ⟨_, (pss_cons (ps_if (pt_cmpR op_isN (pv 1) pe_non (nomark _))
        (pss_one (ps_ret pe_bl))
        pss_nil)
      (pss_cons (ps_if (pt_not (pt_val (pe_call G2 (hr.mono (by decide)) (by rfl) g2 k2 b2 .nil pass0 (pa_cons (pe_callB call_len_seq (by rfl) M.len PySem.boot_len (pa_cons (pe_ix ix_tup (pv 0) pe_int (fun _ _ => rfl)) pa_nil)) (pa_cons (pv 1) pa_nil)))))
        (pss_one (ps_ret pe_bl))
        pss_nil)
      (pss_one (ps_ret (pe_all (k := 2) (own := [("weight", 2)]) (g := gName 2) hr TB rfl rfl sc_is_weights.nd (by rfl) m_all (pi_tup (pv 1)) (blkOk_by (N := N_is_weights) (sc := defScope s_is_weights) (own := [("weight", 2)]) (by decide +kernel)) ⟨rfl, by decide +kernel, by decide +kernel⟩ (show (".0" : Str) ∉ N_is_weights by decide +kernel)
        (fun _ _ _ _ _ _ _ => pg_name (i := 2) sc_is_weights.nd rfl (.inl rfl)) (fun _ _ _ _ _ _ _ hr' => pe_call G1 hr' (by rfl) g1 k1 b1 .nil pass0 (pa_cons pe_int (pa_cons (pv 2) pa_nil)))))))), ?_⟩
    cases W with
    | none =>
      obtain rfl : gv = .non := hW
      exact ⟨.non, rfl, rfl, _, rfl, ite2 (fun _ => q _ (Kt.refl hT)) (fun e => absurd (by simp) e)⟩
    | some ws =>
      obtain ⟨ga, rfl, hga⟩ := hW
      have lw := gW ws rfl
      refine ⟨.ref ga, rfl, rfl, _, rfl, ite2 (fun e => absurd (of_decide_eq_true e) nofun) (fun _ => ?_)⟩
      refine ⟨.ref wa, rfl, wa, _, 1, .ref wb, rfl, rfl, SqT.of hwa, rfl, wb, us, rfl, .inr (SqT.of hwb), .ref ga, rfl, _, .ref ga, rfl, .inr (.inl ⟨_, hga⟩), ?_⟩
      have e0 : lenIs H (.ref ga) (us.length : Nat) = true := by
        unfold lenIs
        rw [parts_of' hga]
        show decide (((ws.map V.int).length : Int) = (us.length : Nat)) = true
        rw [List.length_map, lw]
        exact decide_eq_true rfl
      rw [e0]
      refine ⟨_, rfl, ?_⟩
      refine ⟨.ref ga, rfl, ga, rfl, ⟨_, SqT.of hga⟩, hT Pt hPt, fun j m H' => j + m = ws.length ∧ Kt Ps H H' ∧ ((ws.take j).all fun x => decide (1 ≤ x)) = true, fun H2 hH2 => ⟨ws.length, by omega, Kt.tabbed hT hPt hH2, rfl⟩, fun j m H' hw => ?_⟩
      obtain ⟨em, kt, hal⟩ := hw
      have hga' := kt.tup hT hga
      by_cases hj : j < ws.length
      · refine .inr ⟨⟨_, _, SqT.of hga', List.getElem?_eq_getElem (by rw [List.length_map]; exact hj)⟩, fun H3 => Kt Ps H H3 ∧ ((ws.take (j + 1)).all fun x => decide (1 ≤ x)) = true, fun H3 n3 => ⟨m - 1, by omega, by omega, n3⟩, fun v H3 hy => ?_⟩
        obtain ⟨rfl, fy⟩ := hy
        have ex := fy _ (SqT.of hga')
        rw [List.getElem?_map, List.getElem?_eq_getElem hj] at ex
        obtain rfl : V.int ws[j] = v := Option.some.inj ex
        have step : ((ws.take (j + 1)).all fun x => decide (1 ≤ x)) = decide (1 ≤ ws[j]) := by
          rw [List.take_add_one, List.getElem?_eq_getElem hj, List.all_append, hal]
          simp
        refine ⟨rfl, .int ws[j], rfl, 1, .int ws[j], rfl, trivial, ?_⟩
        show ∃ b, V.bl (decide (1 ≤ ws[j])) = .bl b ∧ _
        cases hb : decide (1 ≤ ws[j]) with
        | true => exact ⟨_, rfl, kt, step.trans hb⟩
        | false =>
          have no : posB (some ws) = false := by
            rw [Bool.eq_false_iff]
            intro z
            have z' := List.all_eq_true.mp z ws[j] (List.getElem_mem hj)
            rw [hb] at z'
            cases z'
          rw [no] at q
          exact ⟨_, rfl, q _ kt⟩
      · refine .inl ⟨⟨_, SqT.of hga', by rw [List.length_map]; omega⟩, ?_⟩
        rw [List.take_of_length_le (by omega)] at hal
        have yes : posB (some ws) = true := hal
        rw [yes] at q
        exact q _ kt
end
/-! ### ties out of words -/
open TL
def TupQ (H : Hp) (v : V) (q : Int × Int × Str) : Prop := ∃ a, v = .ref a ∧ H a = some (.tup [.int q.1, .int q.2.1, .str q.2.2])
theorem TupQ.tk {H H' : Hp} (k : Tk H H') {v : V} {q : Int × Int × Str} (h : TupQ H v q) : TupQ H' v q := by
  obtain ⟨a, e, h⟩ := h
  exact ⟨a, e, k _ _ h⟩
theorem tups_tk {H H' : Hp} (k : Tk H H') {vs : List V} {qs : List (Int × Int × Str)} (h : Paired (TupQ H) vs qs) : Paired (TupQ H') vs qs := Paired.mono (fun _ _ x => x.tk k) h
/-- the rows begin as the triples say -/
def RowQ5 (rs : List (List Str)) (qs : List (Int × Int × Str)) (i : Nat) : Prop := ∀ (j : Nat) (r : List Str), j < i → rs[j]? = some r → ∃ a b w, qs[j]? = some (a, b, w) ∧ GoodN a ∧ GoodN b ∧ r = numS a :: numS b :: w :: r.drop 3
def tieQ (q : Int × Int × Str) : Tie := ⟨q.1, q.2.1, decide (q.2.2 = ("foe" : Str))⟩
theorem kind_of {w : Str} (h : inK kindsL (.str w) = true) : kindS (decide (w = ("foe" : Str))) = w := by
  unfold inK kindsL at h
  simp only [List.any_cons, List.any_nil, Bool.or_false, Bool.or_eq_true, beq_iff_eq] at h
  rcases h with h | h
  · rw [← h]
    decide +kernel
  · rw [← h]
    decide +kernel
theorem tail_words {rs : List (List Str)} {W : Option (List Int)} (h : WRel rs W) {i : Nat} {r : List Str} (e : rs[i]? = some r) : r.drop 3 = wsL W i := by
  cases W with
  | none => exact List.drop_of_length_le (by rw [h r (List.mem_of_getElem? e)]; omega)
  | some ws =>
    obtain ⟨l4, x, ex, _, e3⟩ := h.2.2 i r e
    match r, l4, e3 with
    | [_, _, _, w], _, e3 =>
      have : w = numS x := Option.some.inj e3
      show [w] = [numS (ws.getD i 0)]
      rw [List.getD_eq_getElem?_getD, ex, this]
      rfl
theorem tie_parts {H : Hp} {n : Int} {v : V} {q : Int × Int × Str} (hv : TupQ H v q) (h : tieB H n v = true) : TieOk n (tieQ q) ∧ inK kindsL (.str q.2.2) = true := by
  obtain ⟨a, rfl, e⟩ := hv
  unfold tieB at h
  rw [parts_of' e] at h
  have h : (unlB n (.int q.1) (.int q.2.1) && inK kindsL (.str q.2.2)) = true := h
  rw [Bool.and_eq_true] at h
  obtain ⟨h1, h2⟩ := h
  unfold unlB at h1
  have h1 : ((decide (0 ≤ q.1) && decide (q.1 < n)) && ((decide (0 ≤ q.2.1) && decide (q.2.1 < n)) && !decide (V.int q.1 = V.int q.2.1))) = true := h1
  rw [dec_int] at h1
  simp only [Bool.and_eq_true, decide_eq_true_eq, Bool.not_eq_true', decide_eq_false_iff_not] at h1
  obtain ⟨⟨a0, a1⟩, ⟨b0, b1⟩, ne⟩ := h1
  exact ⟨⟨a0, a1, b0, b1, ne⟩, h2⟩
/-- from the triples that make a web, its ties, and the rows are theirs -/
theorem ties_of {H : Hp} {n : Int} {rs : List (List Str)} {W : Option (List Int)} {vs : List V} {qs : List (Int × Int × Str)} (hp : Paired (TupQ H) vs qs) (hl : vs.length = rs.length) (hq : RowQ5 rs qs rs.length) (hw : WRel rs W) (hb : vs.all (tieB H n) = true) :
    ∃ ts, Paired (TieV H) vs ts ∧ (∀ t ∈ ts, TieOk n t) ∧ rs = rowsL W ts := by
  have lq : qs.length = rs.length := by rw [← hl]; exact (Paired.length hp).symm
  have each : ∀ v ∈ vs, tieB H n v = true := List.all_eq_true.mp hb
  refine ⟨qs.map tieQ, ?_, fun t ht => ?_, ?_⟩
  · clear hq hw hl lq
    induction hp with
    | nil => exact .nil
    | @cons v q vr qr h1 _ ih =>
      have i := ih (by rw [List.all_cons, Bool.and_eq_true] at hb; exact hb.2) fun v hv => each v (List.mem_cons_of_mem _ hv)
      refine .cons ?_ i
      have hk := (tie_parts h1 (each v List.mem_cons_self)).2
      obtain ⟨a, rfl, e⟩ := h1
      refine ⟨a, rfl, ?_⟩
      show H a = some (.tup [.int q.1, .int q.2.1, .str (kindS (decide (q.2.2 = ("foe" : Str))))])
      rw [kind_of hk]
      exact e
  · obtain ⟨q, hq', rfl⟩ := List.mem_map.mp ht
    obtain ⟨i, hi⟩ := List.getElem?_of_mem hq'
    obtain ⟨v, hv, tv⟩ := Paired.at' hp hi
    exact (tie_parts tv (each v (List.mem_of_getElem? hv))).1
  · refine List.ext_getElem? fun i => ?_
    rw [rowsL_at, List.getElem?_map]
    cases e : rs[i]? with
    | none =>
      have : qs[i]? = none := by
        rw [List.getElem?_eq_none_iff] at e ⊢
        omega
      rw [this]
      rfl
    | some r =>
      obtain ⟨a, b, w, eq, ga, gb, er⟩ := hq i r (List.getElem?_eq_some_iff.mp e).1 e
      obtain ⟨v, hv, tv⟩ := Paired.at' hp eq
      have hk := (tie_parts tv (each v (List.mem_of_getElem? hv))).2
      rw [eq]
      show some r = some (wordsL W i (tieQ (a, b, w)))
      congr 1
      rw [er, tail_words hw e]
      show numS a :: numS b :: w :: wsL W i = numS a :: numS b :: kindS (decide (w = ("foe" : Str))) :: wsL W i
      rw [kind_of hk]
/-- and where the rows are those of ties, the triples are the ties -/
theorem ties_same {H : Hp} {n : Int} {rs : List (List Str)} {W : Option (List Int)} {ts : List Tie} {vs : List V} {qs : List (Int × Int × Str)} (hp : Paired (TupQ H) vs qs) (hl : vs.length = rs.length) (hq : RowQ5 rs qs rs.length) (ok : WebBig n ts) (hr : rs = rowsL W ts) : Paired (TieV H) vs ts := by
  have lq : qs.length = rs.length := by rw [← hl]; exact (Paired.length hp).symm
  have lt : ts.length = qs.length := by rw [lq, hr, rows_len]
  have same : ∀ (i : Nat) (q : Int × Int × Str) (t : Tie), qs[i]? = some q → ts[i]? = some t → q = (t.one, t.other, kindS t.foe) := fun i q t h1 h2 => by
    have hi : i < rs.length := by rw [← lq]; exact (List.getElem?_eq_some_iff.mp h1).1
    obtain ⟨a, b, w, eq, ga, gb, er⟩ := hq i rs[i] hi (List.getElem?_eq_getElem hi)
    rw [h1] at eq
    cases eq
    have e2 : rs[i]? = some (wordsL W i t) := by rw [hr, rowsL_at, h2]; rfl
    rw [List.getElem?_eq_getElem hi] at e2
    have e2 := Option.some.inj e2
    rw [e2] at er
    obtain ⟨a0, _, b0, _, _⟩ := ok.ok t (List.mem_of_getElem? h2)
    have q : [numS t.one, numS t.other, kindS t.foe] ++ wsL W i = numS a :: numS b :: w :: (wordsL W i t).drop 3 := er
    simp only [List.cons_append, List.nil_append, List.cons.injEq] at q
    obtain ⟨q1, q2, q3, _⟩ := q
    rw [numS_inj a0 ga.lo q1, numS_inj b0 gb.lo q2, q3]
  clear hq hr ok lq hl
  induction hp generalizing ts with
  | nil =>
    cases ts with
    | nil => exact .nil
    | cons t r => cases lt
  | @cons v q vr qr h1 _ ih =>
    cases ts with
    | nil => cases lt
    | cons t tr =>
      have e := same 0 q t rfl rfl
      refine .cons ?_ (ih (by simpa using lt) fun i q' t' h1 h2 => same (i + 1) q' t' h1 h2)
      obtain ⟨a, rfl, h⟩ := h1
      refine ⟨a, rfl, ?_⟩
      rw [e] at h
      exact h
/-! ### webs read, or refused -/
open TL
def isS : V → Bool
  | .str _ => true
  | _ => false
theorem kn_str {K : PySem.W.Frag} {H : Hp} {v : V} (h : Kn H v) : ∃ t, TyX K H v t ∧ PySem.W.kitOne K t (.type "str") = some (isS v) := by
  cases v with
  | non => exact ⟨_, .base .non, kit_ty (r := false) (by decide +kernel)⟩
  | bl b => exact ⟨_, .base (.bl b), kit_ty (r := false) (by decide +kernel)⟩
  | int i => exact ⟨_, .base (.int i), kit_ty (r := false) (by decide +kernel)⟩
  | str x => exact ⟨_, .base (.str x), kit_ty (r := true) (by decide +kernel)⟩
  | ref a =>
    rcases h with ⟨xs, h⟩ | ⟨xs, h⟩ | ⟨xs, h⟩
    · exact ⟨_, .base (.lst h), kit_ty (r := false) (by decide +kernel)⟩
    · exact ⟨_, .base (.tup h), kit_ty (r := false) (by decide +kernel)⟩
    · exact ⟨_, .base (.dK h), kit_ty (r := false) (by decide +kernel)⟩
  | byt b => exact h.elim
  | flt b => exact h.elim
  | ty n => exact h.elim
def spReadWebN (Ps : List Addr) (D : Addr) : Sp := fun vs H Q E => ∃ v : V, vs = [v] ∧ Kn H v ∧ (∀ x, v = .str x → x.length ≤ 500000) ∧ Tabs Ps H ∧
  (∀ x n ts W, v = .str x → Reads x n ts W → ∀ (a : Addr) (wv gv : V) H', H' a = some (.tup [wv, gv]) → WebAt H' wv n ts → WtAt H' gv W → Kt Ps H H' → Q (.ref a) H') ∧
  ((¬ ∃ x, v = .str x ∧ Readable x) → ∀ H', Kt Ps H H' → E (.ref D) none H')
section
variable {P : Program} {w : World} {K : PySem.W.Frag} {mg : Str → Option Value} {base : Heap}
set_option maxHeartbeats 8000000 in
theorem okN_read_web {f : Addr} {fd : FuncData} {Ps : List Addr} {D W : Addr} (T : RefT K mg "NoText" D W) (F : Fun K "read_web" "read_web" s_read_web f fd) (M : Free mg) (D1 : DfN P w K mg base 4 "read_many" ["line"] (spReadManyN Ps D)) (D2 : DfN P w K mg base 4 "read_weights" ["rows"] (spReadWeightsN Ps D)) (D3 : DfN P w K mg base 3 "read_number" ["word"] (spReadNumN Ps D)) (D4 : Df P w K mg base 6 "is_web" ["thing"] (spIsWeb K Ps)) (D5 : Df P w K mg base 4 "is_weights" ["web", "thing"] (spIsWeightsB Ps)) : FnOk P w K mg base (L2N.CX P w) 7 f fd ["text"] (spReadWebN Ps D) := by
  obtain ⟨f1, fd1, G1, g1, k1, b1⟩ := D1
  obtain ⟨f2, fd2, G2, g2, k2, b2⟩ := D2
  obtain ⟨f3, fd3, G3, g3, k3, b3⟩ := D3
  obtain ⟨f4, fd4, G4, g4, k4, b4⟩ := D4
  obtain ⟨f5, fd5, G5, g5, k5, b5⟩ := D5
  refine Fun.okN F sc_read_web (fun vs H Q E h => ?_) (fun cdv A outer s H vs Q E hr h => ?_)
  · obtain ⟨v, rfl, _⟩ := h
    rfl
  · obtain ⟨v, rfl, kv, hlen, hT, q, qe⟩ := h
    refine ⟨_, (pss_cons (ps_if (pt_not (pt_val (pe_callB call_isi (by rfl) M.isinstance (by decide +kernel) (pa_cons (pv 0) (pa_cons (pe_bltn (v := .ty "str") (by rfl) M.str (by decide +kernel) rfl) pa_nil))))) (pss_one (L2N.ps_raise rfl (L2N.takes_of rfl rfl rfl rfl) (L2N.pmk_own PySem.F.excBase_ValueError T.exc T.gD T.kD (raises_own T.ec.hs T.tD) rfl))) pss_nil)
      (pss_cons (ps_asg (pe_split (pv 0) pe_str) (pg_starL rfl (pgs_cons (pg_name (i := 1) sc_read_web.nd rfl (.inl rfl)) (pgs_star (pg_name (i := 2) sc_read_web.nd rfl (.inl rfl)) pgs_nil))))
      (pss_cons (ps_set (i := 3) sc_read_web.nd rfl (.inl rfl) (pe_callS G1 (hr.mono (by decide)) (by rfl) g1 k1 b1 (fun σ => L2N.passAt (L2N.takes_of rfl rfl rfl rfl) σ) (pa_cons (pv 1) pa_nil)))
      (pss_cons (ps_setLc (i := 4) (own := [("line", 5)]) (g := (gName 5)) (tt := tYes) rfl sc_read_web.nd rfl rfl (sw_true rfl rfl rfl (by decide +kernel)) (pi_list (pv 2)) (blkOk_by (N := N_read_web) (sc := defScope s_read_web) (own := [("line", 5)]) (by decide +kernel)) (fun _ _ _ _ _ => (pg_name (i := 5) sc_read_web.nd rfl (.inl rfl))) (fun _ _ _ _ _ => pts_nil) (fun _ _ _ _ _ => (pe_split (pv 5) pe_str)))
      (pss_cons (ps_set (i := 6) sc_read_web.nd rfl (.inl rfl) (pe_callS G2 (hr.mono (by decide)) (by rfl) g2 k2 b2 (fun σ => L2N.passAt (L2N.takes_of rfl rfl rfl rfl) σ) (pa_cons (pv 4) pa_nil)))
      (pss_cons (ps_set (i := 7) sc_read_web.nd rfl (.inl rfl) (pe_tup (pa_cons (pv 3) (pa_cons (pe_callTy call_tuple_of (by rfl) M.tuple (by decide +kernel) (pa_cons (pe_lcX (Ex := E) (own := [("words", 8)]) (g := gName 8) (tt := tYes) rfl sc_read_web.nd rfl rfl (L2N.takes_of rfl rfl rfl rfl) (pi_list (pv 4)) (blkOk_by (N := N_read_web) (sc := defScope s_read_web) (own := [("words", 8)]) (by decide +kernel)) (fun _ _ _ _ _ _ => (pg_name (i := 8) sc_read_web.nd rfl (.inl rfl))) (fun _ _ _ _ _ _ => pts_nil)
          (fun _ _ _ _ _ _ hx => pe_tup (pa_cons (pe_callS (E := fun _ => E) G3 (hr.mono (by decide)) (by rfl) g3 k3 b3 hx (pa_cons (pe_ix (r := rIxL K) ix_list (pv 8) pe_int (fun _ _ => rfl)) pa_nil)) (pa_cons (pe_callS (E := fun _ => E) G3 (hr.mono (by decide)) (by rfl) g3 k3 b3 hx (pa_cons (pe_ix (r := rIxL K) ix_list (pv 8) pe_int (fun _ _ => rfl)) pa_nil)) (pa_cons (pe_ix (r := rIxL K) ix_list (pv 8) pe_int (fun _ _ => rfl)) pa_nil))))) pa_nil)) pa_nil))))
      (pss_cons (ps_if (pt_not (pt_val (pe_call G4 hr (by rfl) g4 k4 b4 .nil pass0 (pa_cons (pv 7) pa_nil)))) (pss_one (L2N.ps_raise rfl (L2N.takes_of rfl rfl rfl rfl) (L2N.pmk_own PySem.F.excBase_ValueError T.exc T.gD T.kD (raises_own T.ec.hs T.tD) rfl))) pss_nil)
      (pss_cons (ps_if (pt_not (pt_val (pe_call G5 (hr.mono (by decide)) (by rfl) g5 k5 b5 .nil pass0 (pa_cons (pv 7) (pa_cons (pv 6) pa_nil))))) (pss_one (L2N.ps_raise rfl (L2N.takes_of rfl rfl rfl rfl) (L2N.pmk_own PySem.F.excBase_ValueError T.exc T.gD T.kD (raises_own T.ec.hs T.tD) rfl))) pss_nil)
      (pss_one (ps_ret (pe_tup (pa_cons (pv 7) (pa_cons (pv 6) pa_nil))))))))))))), ?_⟩
    obtain ⟨t1, h1, e1⟩ := kn_str (K := K) kv
    refine ⟨v, rfl, v, _, t1, _, _, rfl, .ty "str", h1, e1, _, rfl, ?_⟩
    cases hv : isS v with
    | false =>
      refine qe (fun ⟨x, e, _⟩ => ?_) _ (Kt.refl hT)
      subst e
      cases hv
    | true =>
    obtain ⟨x, rfl⟩ : ∃ x, v = .str x := by
      cases v with
      | str x => exact ⟨x, rfl⟩
      | _ => cases hv
    have hx := hlen x rfl
    have qe : (¬ Readable x) → ∀ H', Kt Ps H H' → E (.ref D) none H' := fun n H' k => qe (fun ⟨y, e, r⟩ => n (by cases e; exact r)) H' k
    refine ⟨.str x, rfl, ⟨_, rfl⟩, x, _, rfl, rfl, by decide, by rw [sizeLine_eq]; omega, fun p np => ?_⟩
    have hsl := PyProof.Rows.split_le x sNl
    have hsp := PyProof.Rows.split_pos x sNl
    obtain ⟨first, rest, es⟩ : ∃ first rest, Txt.split x sNl = first :: rest := by
      cases e : Txt.split x sNl with
      | nil => rw [e] at hsp; cases hsp
      | cons a b => exact ⟨a, b, rfl⟩
    have hll : ∀ y ∈ first :: rest, y.length ≤ 500000 := fun y hy => Nat.le_trans (split_line_le (by rw [es]; exact hy)) hx
    rw [show Txt.split x ("\n" : Str) = first :: rest from es]
    rw [es] at hsl
    have hp := upd_same (H := H) (a := p) (o := .lst ((first :: rest).map V.str))
    have sp := same_new (o := .lst ((first :: rest).map V.str)) np
    generalize upd H p (.lst ((first :: rest).map V.str)) = H1 at hp sp
    have kp := Kt.same hT sp
    have lrest : rest.length ≤ 500002 := by
      simp only [List.length_cons] at hsl
      omega
    refine ⟨p, .str first, rest.map V.str, rfl, SqL.of hp, by rw [List.length_map]; omega, fun Dl nD => ⟨_, _, rfl, _, _, rfl, rfl, ?_⟩⟩
    have hD := upd_same (H := H1) (a := Dl) (o := .lst (rest.map V.str))
    have kD := Kt.same kp.tab (same_new (o := .lst (rest.map V.str)) nD)
    generalize upd H1 Dl (.lst (rest.map V.str)) = H2 at hD kD
    have k2 := kp.trans kD
    refine ⟨.str first, rfl, first, rfl, ?_, k2.tab, fun n hn H3 k23 => ?_, fun nn H3 k23 => ?_⟩
    · have := hll first (by simp)
      rw [sizeLine_eq]
      omega
    · have hD3 := k23.lst k2.tab hD
      have k3 := k2.trans k23
      refine ⟨.ref Dl, rfl, Dl, rfl, ⟨_, SqL.of hD3⟩, fun R nR => ?_⟩
      refine lc_list (K := K) (a := Dl) (xs := rest.map V.str) (fun i H' => ∃ A : List Addr, H' R = some (.lst (A.map V.ref)) ∧ Paired (fun a r => H' a = some (.lst (r.map V.str)) ∧ a ≠ R) A ((rest.take i).map fun l => Txt.split l sSp) ∧ Same H3 H') ⟨[], upd_same, .nil, same_new nR⟩ (fun i H' _ h => by
        obtain ⟨_, _, _, s⟩ := h
        exact SqL.of (s _ _ hD3)) ?_ ?_
      · rintro i y H4 hy ⟨A, hR, hA, s4⟩
        rw [List.getElem?_map] at hy
        obtain ⟨l, hl, rfl⟩ := Option.map_eq_some_iff.mp hy
        have li := (List.getElem?_eq_some_iff.mp hl).1
        have hl5 := hll l (List.mem_cons_of_mem _ (List.mem_of_getElem? hl))
        refine ⟨rfl, .str l, rfl, ⟨_, rfl⟩, l, _, rfl, rfl, by decide, by rw [sizeLine_eq]; omega, fun a na => ?_⟩
        have sa := same_new (o := .lst ((Txt.split l (" " : Str)).map V.str)) na
        have aR : a ≠ R := (ne_of_none hR na).symm
        have lA := Paired.length hA
        rw [List.length_map, List.length_take] at lA
        refine ⟨_, sa _ _ hR, by rw [List.length_map, lA]; exact Nat.lt_of_le_of_lt (Nat.min_le_right _ _) (by rw [sizeLine_eq]; omega), A ++ [a], by rw [upd_same, List.map_append]; rfl, ?_, Same.mut (s4.trans sa) nR⟩
        rw [List.take_add_one, hl, List.map_append]
        refine Paired.snoc (Paired.mono (fun b r hb => ⟨by rw [upd_ne hb.2]; exact sa _ _ hb.1, hb.2⟩) hA) ⟨?_, aR⟩
        rw [upd_ne aR]
        exact upd_same
      rintro H4 ⟨A, hR, hA, s4⟩
      rw [List.length_map, List.take_length] at hA
      generalize hrs : rest.map (fun l => Txt.split l sSp) = rs at hA
      have lrs : rs.length = rest.length := by rw [← hrs, List.length_map]
      have hwl : ∀ r ∈ rs, ∀ y ∈ r, y.length ≤ sizeLine := fun r hr' y hy => by
        rw [← hrs] at hr'
        obtain ⟨l, hl, rfl⟩ := List.mem_map.mp hr'
        have := hll l (List.mem_cons_of_mem _ hl)
        exact Nat.le_trans (split_part_le hy) (by rw [sizeLine_eq]; omega)
      have hu : Paired (RowW H4) (A.map V.ref) rs := by
        clear hR hrs lrs hwl
        induction hA with
        | nil => exact .nil
        | cons h1 _ ih => exact .cons ⟨_, rfl, h1.1⟩ ih
      have lA : (A.map V.ref).length = rs.length := Paired.length hu
      have k34 := Kt.same k23.tab s4
      have k4 := k3.trans k34
      /- what being readable says of the pieces -/
      have pieces : ∀ {n' ts' W'}, Reads x n' ts' W' → n' = n ∧ rs = rowsL W' ts' ∧ WebBig n ts' ∧ WtsB ts' W' := fun {n' ts' W'} h => by
        obtain ⟨f', r', e1, e2, e3, okb, hw⟩ := h
        rw [es] at e1
        obtain ⟨rfl, rfl⟩ := List.cons.inj e1
        have e4 := hn.2.symm.trans e2
        have en := numS_inj hn.1.lo (by have := okb.lo; omega) (List.cons.inj (List.cons.inj e4).2).1
        subst en
        rw [hrs] at e3
        exact ⟨rfl, e3, okb, hw⟩
      refine ⟨.ref R, rfl, R, A.map V.ref, rs, rfl, hR, hu, by rw [lA, lrs]; omega, hwl, k4.tab, fun gv Wr H5 wrel hgv k45 => ?_, fun nw H5 k45 => ?_⟩
      · have k5 := k4.trans k45
        have hR5 := k45.lst k4.tab hR
        have hu5 := rowsW_kt k45 k4.tab hu
        have T5 := k5.tab
        have len34 := wrel.len
        refine ⟨.int n, rfl, .ref R, rfl, R, rfl, ⟨_, SqL.of hR5⟩, fun L nL => ?_⟩
        refine lc_list (K := K) (a := R) (xs := A.map V.ref) (fun i H' => ∃ (vs : List V) (qs : List (Int × Int × Str)), H' L = some (.lst vs) ∧ vs.length = i ∧ Paired (TupQ H') vs qs ∧ RowQ5 rs qs i ∧ Kt Ps H5 H') ⟨[], [], upd_same, rfl, .nil, fun j r h => (by omega), Kt.same T5 (same_new nL)⟩ (fun i H' _ h => by
          obtain ⟨_, _, _, _, _, _, s⟩ := h
          exact SqL.of (s.lst T5 hR5)) ?_ ?_
        · rintro i y H6 hy ⟨vs, qs, hL, hl, hvs, hq, k56⟩
          have T6 := k56.tab
          obtain ⟨r, er, a, rfl, ha⟩ := Paired.at (rowsW_kt k56 T5 hu5) hy
          have li : i < rs.length := (List.getElem?_eq_some_iff.mp er).1
          have l3 : 3 ≤ r.length := by
            have := len34 r (List.mem_of_getElem? er)
            omega
          obtain ⟨w0, w1, w2, tlr, rfl⟩ : ∃ w0 w1 w2 tlr, r = w0 :: w1 :: w2 :: tlr := by
            match r, l3 with
            | w0 :: w1 :: w2 :: tlr, _ => exact ⟨w0, w1, w2, tlr, rfl⟩
          have hwr := hwl _ (List.mem_of_getElem? er)
          have noNum : ∀ (b : Bool), ¬ IsNum (if b then w0 else w1) → ¬ Readable x := fun b nn ⟨n', ts', W', h⟩ => by
            obtain ⟨rfl, e3, okb, _⟩ := pieces h
            have e4 := er
            rw [e3, rowsL_at] at e4
            obtain ⟨t, et, e5⟩ := Option.map_eq_some_iff.mp e4
            obtain ⟨a0, a1, c0, c1, _⟩ := okb.ok t (List.mem_of_getElem? et)
            have hi := okb.hi
            have e6 : [numS t.one, numS t.other, kindS t.foe] ++ wsL W' i = w0 :: w1 :: w2 :: tlr := e5
            simp only [List.cons_append, List.nil_append, List.cons.injEq] at e6
            cases b with
            | true => exact nn ⟨t.one, ⟨a0, by omega⟩, e6.1.symm⟩
            | false => exact nn ⟨t.other, ⟨c0, by omega⟩, e6.2.1.symm⟩
          refine ⟨rfl, .ref a, rfl, a, _, 0, .str w0, rfl, rfl, SqL.of ha, atI_nat (j := 0) rfl, w0, rfl, hwr w0 (by simp), T6, fun ka hka ea H7 k67 => ?_, fun nn H7 k67 => qe (noNum true nn) _ (k5.trans (k56.trans k67))⟩
          have T7 := k67.tab
          have ha7 := k67.lst T6 ha
          refine ⟨.ref a, rfl, a, _, 1, .str w1, rfl, rfl, SqL.of ha7, atI_nat (j := 1) rfl, w1, rfl, hwr w1 (by simp), T7, fun kb hkb eb H8 k78 => ?_, fun nn H8 k78 => qe (noNum false nn) _ (k5.trans (k56.trans (k67.trans k78)))⟩
          have T8 := k78.tab
          have ha8 := k78.lst T7 ha7
          refine ⟨.ref a, rfl, a, _, 2, .str w2, rfl, rfl, SqL.of ha8, atI_nat (j := 2) rfl, by show 3 ≤ sizeLine; decide, fun p9 n9 => ?_⟩
          have k58 := k56.trans (k67.trans k78)
          have hL8 := k78.lst T7 (k67.lst T6 hL)
          have hvs8 := tups_tk ((k67.trans k78).tk T6) hvs
          have s9 := same_new (o := .tup [.int ka, .int kb, .str w2]) n9
          have k59 := k58.trans (Kt.same T8 s9)
          have tk9 := tk_lst (l := L) (ys := vs ++ [.ref p9]) (s9 _ _ hL8)
          have lq : qs.length = i := by rw [← hl]; exact (Paired.length hvs).symm
          refine ⟨_, s9 _ _ hL8, by rw [hl, sizeLine_eq]; omega, vs ++ [.ref p9], qs ++ [(ka, kb, w2)], upd_same, by rw [List.length_append, hl]; rfl, Paired.snoc (tups_tk tk9 (tups_tk (Same.tk s9) hvs8)) ⟨p9, rfl, tk9 _ _ upd_same⟩, fun j r' hj ej => ?_, k59.mutN T5 nL⟩
          by_cases z : j < i
          · obtain ⟨a', b', w', h1, h2⟩ := hq j r' z ej
            exact ⟨a', b', w', by rw [List.getElem?_append_left (by omega)]; exact h1, h2⟩
          · have : j = i := by omega
            subst this
            rw [er] at ej
            cases ej
            exact ⟨ka, kb, w2, by rw [← lq]; simp, hka, hkb, by rw [ea, eb]; rfl⟩
        rintro H6 ⟨vs, qs, hL, hl, hvs, hq, k56⟩
        rw [lA] at hl hq
        refine ⟨L, _, rfl, .inl ⟨SqL.of hL, fun B nB => ?_⟩⟩
        have sB := same_new (o := .tup vs) nB
        have hB := upd_same (H := H6) (a := B) (o := .tup vs)
        have hvsB := tups_tk (Same.tk sB) hvs
        have k57 := k56.trans (Kt.same k56.tab sB)
        generalize upd H6 B (.tup vs) = H7 at sB hB hvsB k57
        refine ⟨by show 2 ≤ sizeLine; decide, fun Wd nW => ?_⟩
        have sW := same_new (o := .tup [.int n, .ref B]) nW
        have hWd := upd_same (H := H7) (a := Wd) (o := .tup [.int n, .ref B])
        have hB8 := sW _ _ hB
        have hvs8 := tups_tk (Same.tk sW) hvsB
        have k58 := k57.trans (Kt.same k57.tab sW)
        generalize upd H7 Wd (.tup [.int n, .ref B]) = H8 at hWd hB8 hvs8 k58
        have hgv8 := hgv.tk (k58.tk T5)
        have T8 := k58.tab
        have known : WebK K H8 (.ref Wd) := by
          refine webk_pair hWd trivial (.inr (.inl ⟨_, hB8⟩)) (fun us e y hy => ?_)
          rw [parts_of' hB8] at e
          cases e
          obtain ⟨i, hi⟩ := List.getElem?_of_mem hy
          obtain ⟨q', _, p', rfl, e⟩ := Paired.at hvs8 hi
          exact tiek_tup e (fm trivial (fm trivial (fm trivial fm_nil))) (fun a b c z => by cases z; exact .inr (.inr ⟨_, rfl⟩))
        have ewb : webB H8 (.ref Wd) = (decide (1 ≤ n) && vs.all (tieB H8 n)) := by
          unfold webB
          rw [parts_of' hWd]
          show (decide (1 ≤ n) && (match parts H8 (.ref B) with
            | some ts => ts.all (tieB H8 n)
            | none => false)) = _
          rw [parts_of' hB8]
        have k08 := k5.trans k58
        refine ⟨.ref Wd, rfl, .ref Wd, rfl, known, T8, fun H9 k89 => ?_⟩
        have k09 := k08.trans k89
        cases hb : webB H8 (.ref Wd) with
        | false =>
          refine ⟨_, rfl, qe (fun ⟨n', ts', W', h⟩ => ?_) _ k09⟩
          obtain ⟨rfl, e3, okb, _⟩ := pieces h
          have tv := ties_same hvs8 hl hq okb e3
          rw [web_true (v := .ref Wd) ⟨Wd, B, vs, rfl, hWd, hB8, tv⟩ okb.lo okb.ok] at hb
          cases hb
        | true =>
        refine ⟨_, rfl, ?_⟩
        rw [ewb, Bool.and_eq_true] at hb
        obtain ⟨hb1, hb2⟩ := hb
        obtain ⟨ts, tv, tok, ers⟩ := ties_of hvs8 hl hq wrel hb2
        have n1 := of_decide_eq_true hb1
        have okb : WebBig n ts := ⟨n1, hn.1.hi, tok⟩
        have web8 : WebAt H8 (.ref Wd) n ts := ⟨Wd, B, vs, rfl, hWd, hB8, tv⟩
        have T9 := k89.tab
        have hgv9 := hgv8.tk (k89.tk T8)
        have web9 := web8.tk (k89.tk T8)
        refine ⟨.ref Wd, rfl, gv, rfl, Wd, B, .int n, vs, gv, Wr, rfl, k89.tup T8 hWd, k89.tup T8 hB8, hgv9, fun ws e => ?_, T9, fun H10 k910 => ?_⟩
        · subst e
          rw [wrel.2.1, hl]
        have k010 := k09.trans k910
        cases hpb : posB Wr with
        | false =>
          refine ⟨_, rfl, qe (fun ⟨n', ts', W', h⟩ => ?_) _ k010⟩
          obtain ⟨rfl, e3, okb', hw'⟩ := pieces h
          have wr' : WRel rs W' := by rw [e3]; exact reads_wrel hw'
          have eW := wrel.uniq wr'
          subst eW
          cases Wr with
          | none => cases hpb
          | some ws =>
            have yes : posB (some ws) = true := List.all_eq_true.mpr fun y hy => decide_eq_true ((hw' ws rfl).2.2 y hy).1
            rw [yes] at hpb
            cases hpb
        | true =>
        have reads : Reads x n ts Wr := by
          refine ⟨first, rest, es, hn.2, by rw [hrs]; exact ers, okb, fun ws e => ?_⟩
          subst e
          refine ⟨fun z => ?_, ?_, fun y hy => ?_⟩
          · have := wrel.2.1
            rw [z] at this
            exact wrel.1 (List.eq_nil_of_length_eq_zero this.symm)
          · rw [wrel.2.1, ers, rows_len]
          · have p1 := of_decide_eq_true (List.all_eq_true.mp hpb y hy)
            obtain ⟨i, hi⟩ := List.getElem?_of_mem hy
            have li : i < rs.length := by rw [← wrel.2.1]; exact (List.getElem?_eq_some_iff.mp hi).1
            obtain ⟨_, z, ez, gz, _⟩ := wrel.2.2 i rs[i] (List.getElem?_eq_getElem li)
            rw [hi] at ez
            cases ez
            exact ⟨p1, gz.hi⟩
        refine ⟨_, rfl, .ref Wd, rfl, gv, rfl, by show 2 ≤ sizeLine; decide, fun A2 nA2 => ?_⟩
        have tkA := Same.tk (same_new (o := .tup [.ref Wd, gv]) nA2)
        exact q x n ts Wr rfl reads A2 (.ref Wd) gv _ upd_same ((web9.tk (k910.tk T9)).tk tkA) ((hgv9.tk (k910.tk T9)).tk tkA) (k010.trans (Kt.same k910.tab (same_new nA2)))
      · refine qe (fun ⟨n', ts', W', h⟩ => ?_) _ (k4.trans k45)
        obtain ⟨_, e3, _, hw⟩ := pieces h
        exact nw ⟨W', by rw [e3]; exact reads_wrel hw⟩
    · refine qe (fun ⟨n', ts', W', h⟩ => ?_) _ (k2.trans k23)
      obtain ⟨f', r', e1, e2, _, okb, _⟩ := h
      rw [es] at e1
      obtain ⟨rfl, rfl⟩ := List.cons.inj e1
      exact nn ⟨n', ⟨by have := okb.lo; omega, okb.hi⟩, e2⟩
end
/-! ### the law's own reading: numbers -/
open TL
def spNumber : Sp := fun vs H Q _ => ∃ x : Str, vs = [.str x] ∧ x.length ≤ sizeLine ∧ (∀ k, GoodN k → x = numS k → Q (.int k) H) ∧ (¬ IsNum x → Q .non H)
theorem no_num {x : Str} (h : wnumB x = false) : ¬ IsNum x := fun z => by
  rw [wnum_iff.mpr z] at h
  cases h
section
variable {P : Program} {w : World} {K : PySem.W.Frag} {mg : Str → Option Value} {base : Heap}
set_option maxHeartbeats 4000000 in
theorem ok_l_number {f : Addr} {fd : FuncData} (F : Fun K "_law_number" "_law_number" s_l_number f fd) (M : Free mg) : FnOk P w K mg base CX0 1 f fd ["_law_word"] spNumber := by
  refine F.ok sc_l_number (fun vs H Q E h => ?_) (fun cdv A outer s H vs Q E hr h => ?_)
  · obtain ⟨x, rfl, _⟩ := h
    rfl
  · obtain ⟨x, rfl, hx, q, qn⟩ := h
    refine ⟨_, (Evl.pss_cut (ps_if (PW.pt (pw_or (pt_not (pt_chain op_le op_le pe_int (pe_callB call_len_str (by rfl) M.len PySem.boot_len (pa_cons (pv 0) pa_nil)) pe_int)) (pw_or1 (PW.pt (pw_and (pt_cmpR op_gt (pe_callB call_len_str (by rfl) M.len PySem.boot_len (pa_cons (pv 0) pa_nil)) pe_int (nomark _)) (pw_and1 (pt_cmpR op_eq (pe_ix ix_str (pv 0) pe_int (fun _ _ => rfl)) pe_str (nomark _))))))))
        (pss_one (ps_ret pe_non))
        pss_nil)
      (pss_cons (ps_for PassesOwn.never rfl (pi_str (pv 0)) (pg_name (i := 1) sc_l_number.nd rfl (.inl rfl))
        (pss_one (ps_if (pt_cmpR op_notIn_sign (pv 1) pe_str rfl)
          (pss_one (ps_ret pe_non))
          pss_nil)))
      (pss_one (ps_ret (pe_callTy call_int_str (by rfl) M.int (by decide +kernel) (pa_cons (pv 0) pa_nil)))))), ?_⟩
    have h63 := line63
    /- the loop and the end, where the head is right -/
    have rest : 1 ≤ x.length → x.length ≤ 31 → ¬ (x.cps.toList.head? = some 48 ∧ x ≠ ⟨#[48]⟩) → x.cps.toList.all (fun c => decide (c ∈ figS.cps.toList)) = true → ∃ k, GoodN k ∧ x = numS k := fun a b c d => by
      refine wnum_num ?_
      unfold wnumB
      rw [decide_eq_true a, decide_eq_true b, d, Bool.true_and, Bool.true_and, Bool.and_true]
      by_cases e : x.cps.toList.head? = some 48
      · by_cases e2 : x = ⟨#[48]⟩
        · rw [decide_eq_true e2]
          cases decide (x.cps.toList.head? = some 48) <;> rfl
        · exact absurd ⟨e, e2⟩ c
      · rw [decide_eq_false e]
        rfl
    refine ⟨fun σ' H' => σ' = [some (.str x), none] ∧ H' = H ∧ 1 ≤ x.length ∧ x.length ≤ 31 ∧ ¬ (x.cps.toList.head? = some 48 ∧ x ≠ ⟨#[48]⟩), ?_, ?_⟩
    · refine ⟨.str x, rfl, x, rfl, hx, 1, _, rfl, rfl, _, rfl, ?_⟩
      by_cases h1 : 1 ≤ x.length
      · rw [decide_eq_true (show (1 : Int) ≤ (x.length : Int) by omega), if_pos rfl]
        refine ⟨_, 31, rfl, rfl, _, rfl, ?_⟩
        by_cases h2 : x.length ≤ 31
        · rw [decide_eq_true (show (x.length : Int) ≤ 31 by omega)]
          have hne : 0 < x.cps.toList.length := by
            have e : x.cps.toList.length = x.length := (len_tl x).symm
            omega
          obtain ⟨c0, r0, ec⟩ : ∃ c0 r0, x.cps.toList = c0 :: r0 := by
            cases e : x.cps.toList with
            | nil => rw [e] at hne; cases hne
            | cons c0 r0 => exact ⟨c0, r0, rfl⟩
          have eh : x.cps.toList.head? = some c0 := by rw [ec]; rfl
          refine ⟨.str x, rfl, x, rfl, hx, _, 1, rfl, rfl, _, rfl, ?_⟩
          by_cases h3 : 1 < x.length
          · rw [decide_eq_true (show (1 : Int) < (x.length : Int) by omega)]
            refine ⟨.str x, rfl, x, 0, c0, rfl, rfl, hx, by rw [ec]; exact atI_nat (j := 0) rfl, rfl, ?_⟩
            rw [show (V.str ("0" : Str)) = V.str (⟨#[48]⟩ : Str) from by decide +kernel, sign_eq]
            by_cases h4 : c0 = 48
            · rw [decide_eq_true h4]
              refine ⟨_, rfl, qn (no_num ?_)⟩
              have x0 : x ≠ ⟨#[48]⟩ := fun z => by
                have : x.length = 1 := by rw [z]; rfl
                omega
              unfold wnumB
              rw [eh, h4, decide_eq_true rfl, decide_eq_false x0]
              simp
            · rw [decide_eq_false h4]
              exact ⟨_, rfl, rfl, rfl, h1, h2, fun z => h4 (by have := z.1; rw [eh] at this; exact Option.some.inj this)⟩
          · rw [decide_eq_false (show ¬ (1 : Int) < (x.length : Int) by omega)]
            refine ⟨rfl, rfl, h1, h2, fun z => z.2 ?_⟩
            have l1 : x.cps.toList.length = 1 := by
              have e : x.cps.toList.length = x.length := (len_tl x).symm
              omega
            have z1 := z.1
            rw [eh] at z1
            have r00 : r0 = [] := by
              rw [ec] at l1
              exact List.eq_nil_of_length_eq_zero (by simpa using l1)
            refine ext_tl ?_
            show x.cps.toList = [48]
            rw [ec, r00, Option.some.inj z1]
        · rw [decide_eq_false (show ¬ (x.length : Int) ≤ 31 by omega)]
          exact qn (no_num (by unfold wnumB; rw [decide_eq_false h2, Bool.false_and, Bool.and_false]))
      · rw [decide_eq_false (show ¬ (1 : Int) ≤ (x.length : Int) by omega)]
        refine ⟨_, rfl, ?_⟩
        exact qn (no_num (by unfold wnumB; rw [decide_eq_false h1, Bool.false_and]))
    · rintro σ' H' ⟨rfl, rfl, h1, h2, h3⟩
      refine ⟨.str x, rfl, x, rfl, ?_⟩
      refine for_it (walk_str (z := x)) (fun i σ' H1 => ∃ y1 : Option V, σ' = [some (.str x), y1] ∧ H1 = H' ∧ ((x.cps.toList.take i).all fun c => decide (c ∈ figS.cps.toList)) = true) ⟨_, rfl, rfl, rfl⟩ (fun _ _ _ _ _ => trivial) ?_ ?_
      · rintro i v σ' H2 H3 hi ⟨y1, rfl, rfl, hal⟩ ⟨rfl, c, hc, rfl⟩
        have ex : x.cps.toList[i]? = some c := by rw [Array.getElem?_toList]; exact hc
        have step : ((x.cps.toList.take (i + 1)).all fun c => decide (c ∈ figS.cps.toList)) = decide (c ∈ figS.cps.toList) := by
          rw [List.take_add_one, ex, List.all_append, hal]
          simp
        refine ⟨.str ⟨#[c]⟩, rfl, c, figS, rfl, rfl, _, rfl, ?_⟩
        by_cases hb : c ∈ figS.cps.toList
        · rw [decide_eq_true hb]
          exact ⟨_, rfl, rfl, by rw [step]; exact decide_eq_true hb⟩
        · rw [decide_eq_false hb]
          refine qn (no_num ?_)
          have no : (x.cps.toList.all fun c => decide (c ∈ figS.cps.toList)) = false := by
            rw [Bool.eq_false_iff]
            intro z
            rw [List.all_eq_true] at z
            exact hb (of_decide_eq_true (z c (List.mem_of_getElem? ex)))
          unfold wnumB
          rw [no]
          simp
      · rintro σ' H2 ⟨y1, rfl, rfl, hal⟩
        rw [List.take_of_length_le (by rw [Array.length_toList]; exact Nat.le_refl _)] at hal
        obtain ⟨k, hk, ek⟩ := rest h1 h2 h3 hal
        refine ⟨.str x, rfl, x, k, rfl, by rw [ek]; exact int_numS hk, by omega, q k hk ek⟩
end
/-! ### the law's own reading: ties -/
open TL
def IsTie3 (many : Int) (w0 w1 w2 : Str) : Prop := ∃ t : Tie, TieOk many t ∧ w0 = numS t.one ∧ w1 = numS t.other ∧ w2 = kindS t.foe
def spTieOf : Sp := fun vs H Q _ => ∃ (R : Addr) (many : Int) (w0 w1 w2 : Str) (tlr : List Str), vs = [.ref R, .int many] ∧ H R = some (.lst ((w0 :: w1 :: w2 :: tlr).map V.str)) ∧ w0.length ≤ sizeLine ∧ w1.length ≤ sizeLine ∧ many < 10 ^ 31 ∧
  (∀ t : Tie, TieOk many t → w0 = numS t.one → w1 = numS t.other → w2 = kindS t.foe → ∀ v H', TieV H' v t → Same H H' → Q v H') ∧ (¬ IsTie3 many w0 w1 w2 → Q .non H)
section
variable {P : Program} {w : World} {K : PySem.W.Frag} {mg : Str → Option Value} {base : Heap}
set_option maxHeartbeats 4000000 in
theorem ok_l_tie_of {f : Addr} {fd : FuncData} (F : Fun K "_law_tie_of" "_law_tie_of" s_l_tie_of f fd) (D_l_number : Df P w K mg base 1 "_law_number" ["_law_word"] spNumber) : FnOk P w K mg base CX0 2 f fd ["_law_words", "_law_many"] spTieOf := by
  obtain ⟨f_l_number, fd_l_number, G_l_number, g_l_number, k_l_number, b_l_number⟩ := D_l_number
  refine F.ok sc_l_tie_of (fun vs H Q E h => ?_) (fun cdv A outer s H vs Q E hr h => ?_)
  · obtain ⟨R, many, w0, w1, w2, tlr, rfl, _⟩ := h
    rfl
  · obtain ⟨R, many, w0, w1, w2, tlr, rfl, hR, l0, l1, hm, q, qn⟩ := h
    refine ⟨_, (pss_cons (ps_set (i := 2) sc_l_tie_of.nd rfl (.inl rfl) (pe_call G_l_number (hr.mono (by decide)) (by rfl) g_l_number k_l_number b_l_number .nil pass0 (pa_cons (pe_ix ix_list (pv 0) pe_int (fun _ _ => rfl)) pa_nil)))
      (pss_cons (ps_set (i := 3) sc_l_tie_of.nd rfl (.inl rfl) (pe_call G_l_number (hr.mono (by decide)) (by rfl) g_l_number k_l_number b_l_number .nil pass0 (pa_cons (pe_ix ix_list (pv 0) pe_int (fun _ _ => rfl)) pa_nil)))
      (pss_cons (ps_if (PW.pt (pw_or (pt_cmpR op_isN (pv 2) pe_non (nomark _)) (pw_or (pt_cmpR op_isN (pv 3) pe_non (nomark _)) (pw_or (pt_cmpR op_ge (pv 2) (pv 1) (nomark _)) (pw_or (pt_cmpR op_ge (pv 3) (pv 1) (nomark _)) (pw_or1 (pt_cmpR op_eq (pv 2) (pv 3) (nomark _))))))))
        (pss_one (ps_ret pe_non))
        pss_nil)
      (pss_cons (ps_if (PW.pt (pw_and (pt_cmpR op_ne (pe_ix ix_list (pv 0) pe_int (fun _ _ => rfl)) pe_str (nomark _)) (pw_and1 (pt_cmpR op_ne (pe_ix ix_list (pv 0) pe_int (fun _ _ => rfl)) pe_str (nomark _)))))
        (pss_one (ps_ret pe_non))
        pss_nil)
      (pss_one (ps_ret (pe_tup (pa_cons (pv 2) (pa_cons (pv 3) (pa_cons (pe_ix ix_list (pv 0) pe_int (fun _ _ => rfl)) pa_nil)))))))))), ?_⟩
    have at0 : atI ((w0 :: w1 :: w2 :: tlr).map V.str) 0 = some (.str w0) := atI_nat (j := 0) rfl
    have at1 : atI ((w0 :: w1 :: w2 :: tlr).map V.str) 1 = some (.str w1) := atI_nat (j := 1) rfl
    have at2 : atI ((w0 :: w1 :: w2 :: tlr).map V.str) 2 = some (.str w2) := atI_nat (j := 2) rfl
    have big : ∀ t : Tie, TieOk many t → GoodN t.one ∧ GoodN t.other := fun t ⟨a0, a1, b0, b1, _⟩ => ⟨⟨a0, by omega⟩, ⟨b0, by omega⟩⟩
    refine ⟨.ref R, rfl, R, _, 0, .str w0, rfl, rfl, SqL.of hR, at0, w0, rfl, l0, fun a ha ea => ?_, fun na => ?_⟩
    · subst ea
      refine ⟨.ref R, rfl, R, _, 1, .str w1, rfl, rfl, SqL.of hR, at1, w1, rfl, l1, fun b hb eb => ?_, fun nb => ?_⟩
      · subst eb
        have inj : ∀ t : Tie, TieOk many t → numS a = numS t.one → numS b = numS t.other → a = t.one ∧ b = t.other := fun t ok e1 e2 => ⟨numS_inj ha.lo (big t ok).1.lo e1, numS_inj hb.lo (big t ok).2.lo e2⟩
        refine ⟨.int a, rfl, rfl, _, rfl, .int b, rfl, rfl, _, rfl, .int a, rfl, .int many, rfl, a, many, rfl, rfl, ?_⟩
        by_cases c1 : many ≤ a
        · refine ⟨true, congrArg V.bl (decide_eq_true c1), qn fun ⟨t, ok, e1, e2, _⟩ => ?_⟩
          obtain ⟨i1, i2⟩ := inj t ok e1 e2
          have := ok.2.1
          omega
        refine ⟨false, congrArg V.bl (decide_eq_false c1), .int b, rfl, .int many, rfl, b, many, rfl, rfl, ?_⟩
        by_cases c2 : many ≤ b
        · refine ⟨true, congrArg V.bl (decide_eq_true c2), qn fun ⟨t, ok, e1, e2, _⟩ => ?_⟩
          obtain ⟨i1, i2⟩ := inj t ok e1 e2
          have := ok.2.2.2.1
          omega
        refine ⟨false, congrArg V.bl (decide_eq_false c2), .int a, rfl, .int b, rfl, rfl, ?_⟩
        rw [dec_int]
        by_cases c3 : a = b
        · rw [decide_eq_true c3]
          refine ⟨_, rfl, qn fun ⟨t, ok, e1, e2, _⟩ => ?_⟩
          obtain ⟨i1, i2⟩ := inj t ok e1 e2
          exact ok.2.2.2.2 (by omega)
        rw [decide_eq_false c3]
        have tok : ∀ f : Bool, TieOk many ⟨a, b, f⟩ := fun f => ⟨ha.lo, by show a < many; omega, hb.lo, by show b < many; omega, c3⟩
        refine ⟨_, rfl, .ref R, rfl, R, _, 2, .str w2, rfl, rfl, SqL.of hR, at2, rfl, ?_⟩
        have fin : ∀ f : Bool, w2 = kindS f → ∀ p, H p = none → Q (.ref p) (upd H p (.tup [.int a, .int b, .str w2])) := fun f ew p np => by
          refine q ⟨a, b, f⟩ (tok f) rfl rfl ew (.ref p) _ ⟨p, rfl, ?_⟩ (same_new np)
          rw [upd_same, ew]
        by_cases d1 : w2 = ("friend" : Str)
        · rw [decide_eq_true (show V.str w2 = V.str ("friend" : Str) by rw [d1])]
          refine ⟨_, rfl, ?_⟩
          exact ⟨.int a, rfl, .int b, rfl, .ref R, rfl, R, _, 2, .str w2, rfl, rfl, SqL.of hR, at2, by show 3 ≤ sizeLine; decide, fin false d1⟩
        rw [decide_eq_false (fun z => d1 (V.str.inj z))]
        refine ⟨_, rfl, .ref R, rfl, R, _, 2, .str w2, rfl, rfl, SqL.of hR, at2, rfl, ?_⟩
        by_cases d2 : w2 = ("foe" : Str)
        · rw [decide_eq_true (show V.str w2 = V.str ("foe" : Str) by rw [d2])]
          refine ⟨_, rfl, ?_⟩
          exact ⟨.int a, rfl, .int b, rfl, .ref R, rfl, R, _, 2, .str w2, rfl, rfl, SqL.of hR, at2, by show 3 ≤ sizeLine; decide, fin true d2⟩
        rw [decide_eq_false (fun z => d2 (V.str.inj z))]
        refine ⟨_, rfl, qn fun ⟨t, _, _, _, e3⟩ => ?_⟩
        cases hf : t.foe with
        | true => rw [hf] at e3; exact d2 e3
        | false => rw [hf] at e3; exact d1 e3
      · exact ⟨.int a, rfl, rfl, _, rfl, .non, rfl, rfl, _, rfl, qn fun ⟨t, ok, _, e2, _⟩ => nb ⟨t.other, (big t ok).2, e2⟩⟩
    · have qn' : Q .non H := qn fun ⟨t, ok, e1, _⟩ => na ⟨t.one, (big t ok).1, e1⟩
      refine ⟨.ref R, rfl, R, _, 1, .str w1, rfl, rfl, SqL.of hR, at1, w1, rfl, l1, fun b hb eb => ?_, fun nb => ?_⟩
      · exact ⟨.non, rfl, rfl, _, rfl, qn'⟩
      · exact ⟨.non, rfl, rfl, _, rfl, qn'⟩
end
/-! ### the law's own reading: what is kept while it reads -/
open TL
structure DueH (H H' : Hp) (L a0 : Addr) (As : List Addr) (L0w : List Str) (rs : List (List Str)) : Prop where
  s : Same H H'
  l : H' L = some (.lst ((a0 :: As).map V.ref))
  z : H' a0 = some (.lst (L0w.map V.str))
  r : Paired (RowW H') (As.map V.ref) rs
theorem RowW.same {H H' : Hp} (s : Same H H') {v : V} {r : List Str} (h : RowW H v r) : RowW H' v r := by
  obtain ⟨a, e, h⟩ := h
  exact ⟨a, e, s _ _ h⟩
theorem DueH.same {H H' H2 : Hp} {L a0 : Addr} {As : List Addr} {L0w : List Str} {rs : List (List Str)} (h : DueH H H' L a0 As L0w rs) (s : Same H' H2) : DueH H H2 L a0 As L0w rs :=
  ⟨h.s.trans s, s _ _ h.l, s _ _ h.z, Paired.mono (fun _ _ x => x.same s) h.r⟩
/-- an address out of reach -/
structure Out (H : Hp) (T L a0 : Addr) (As : List Addr) : Prop where
  n : H T = none
  l : L ≠ T
  z : a0 ≠ T
  r : ∀ a ∈ As, a ≠ T
theorem rows_mut {H' : Hp} {T : Addr} {o : HO} : ∀ {As : List Addr} {rs : List (List Str)}, (∀ a ∈ As, a ≠ T) → Paired (RowW H') (As.map V.ref) rs → Paired (RowW (upd H' T o)) (As.map V.ref) rs
  | [], [], _, _ => .nil
  | a :: As, r :: rs, n, .cons h t => by
    refine .cons ?_ (rows_mut (fun b hb => n b (List.mem_cons_of_mem _ hb)) t)
    obtain ⟨a', e, h⟩ := h
    cases e
    exact ⟨a, rfl, by rw [upd_ne (n a List.mem_cons_self)]; exact h⟩
theorem DueH.mut {H H' : Hp} {L a0 T : Addr} {As : List Addr} {L0w : List Str} {rs : List (List Str)} {o : HO} (h : DueH H H' L a0 As L0w rs) (u : Out H T L a0 As) : DueH H (upd H' T o) L a0 As L0w rs :=
  ⟨Same.mut h.s u.n, by rw [upd_ne u.l]; exact h.l, by rw [upd_ne u.z]; exact h.z, rows_mut u.r h.r⟩
theorem DueH.out {H H' : Hp} {L a0 T : Addr} {As : List Addr} {L0w : List Str} {rs : List (List Str)} (h : DueH H H' L a0 As L0w rs) (n : H' T = none) : Out H T L a0 As := by
  refine ⟨?_, ne_of_none h.l n, ne_of_none h.z n, fun a ha => ?_⟩
  · cases e : H T with
    | none => rfl
    | some o =>
      rw [h.s _ _ e] at n
      cases n
  · obtain ⟨i, hi⟩ := List.getElem?_of_mem ha
    obtain ⟨r, _, b, e, hb⟩ := Paired.at h.r (show (As.map V.ref)[i]? = some (.ref a) by rw [List.getElem?_map, hi]; rfl)
    cases e
    exact ne_of_none hb n
def optN (w : Str) : Option Int → Prop
  | some k => GoodN k ∧ w = numS k
  | none => ¬ IsNum w
def optVn : Option Int → V
  | some k => .int k
  | none => .non
/-- what has been read of the first i rows -/
structure RowsD (rs : List (List Str)) (n : Int) (ts : List Tie) (ws : List (Option Int)) (l0 i : Nat) : Prop where
  tl : ts.length = i
  wl : ws.length = if l0 = 4 then i else 0
  each : ∀ (j : Nat) (r : List Str), j < i → rs[j]? = some r → (r.length = 3 ∨ r.length = 4) ∧ r.length = l0 ∧ (∃ t, ts[j]? = some t ∧ TieOk n t ∧ r = numS t.one :: numS t.other :: kindS t.foe :: r.drop 3) ∧ (r.length = 4 → ∃ o w, ws[j]? = some o ∧ r[3]? = some w ∧ optN w o)
theorem rowsD_zero {rs : List (List Str)} {n : Int} {l0 : Nat} : RowsD rs n [] [] l0 0 := ⟨rfl, by split <;> rfl, fun j r h => (by omega)⟩
theorem RowsD.more3 {rs : List (List Str)} {n : Int} {ts : List Tie} {ws : List (Option Int)} {l0 i : Nat} (h : RowsD rs n ts ws l0 i) {r : List Str} (er : rs[i]? = some r) (l3 : r.length = 3) (hl : r.length = l0) {t : Tie} (ok : TieOk n t) (e : r = numS t.one :: numS t.other :: kindS t.foe :: r.drop 3) : RowsD rs n (ts ++ [t]) ws l0 (i + 1) := by
  have n4 : ¬ l0 = 4 := by omega
  refine ⟨by rw [List.length_append, h.tl]; rfl, by rw [h.wl, if_neg n4, if_neg n4], fun j r' hj ej => ?_⟩
  by_cases z : j < i
  · obtain ⟨p1, p2, ⟨t', p3, p4⟩, p5⟩ := h.each j r' z ej
    exact ⟨p1, p2, ⟨t', by rw [List.getElem?_append_left (by rw [h.tl]; exact z)]; exact p3, p4⟩, p5⟩
  · have : j = i := by omega
    subst this
    rw [er] at ej
    cases ej
    exact ⟨.inl l3, hl, ⟨t, by rw [← h.tl]; simp, ok, e⟩, fun z => by omega⟩
theorem RowsD.more4 {rs : List (List Str)} {n : Int} {ts : List Tie} {ws : List (Option Int)} {l0 i : Nat} (h : RowsD rs n ts ws l0 i) {r : List Str} (er : rs[i]? = some r) (l4 : r.length = 4) (hl : r.length = l0) {t : Tie} (ok : TieOk n t) (e : r = numS t.one :: numS t.other :: kindS t.foe :: r.drop 3) {w : Str} (ew : r[3]? = some w) {o : Option Int} (ho : optN w o) : RowsD rs n (ts ++ [t]) (ws ++ [o]) l0 (i + 1) := by
  have e4 : l0 = 4 := by omega
  have lw : ws.length = i := by rw [h.wl, if_pos e4]
  refine ⟨by rw [List.length_append, h.tl]; rfl, by rw [List.length_append, lw, if_pos e4]; rfl, fun j r' hj ej => ?_⟩
  by_cases z : j < i
  · obtain ⟨p1, p2, ⟨t', p3, p4⟩, p5⟩ := h.each j r' z ej
    refine ⟨p1, p2, ⟨t', by rw [List.getElem?_append_left (by rw [h.tl]; exact z)]; exact p3, p4⟩, fun q => ?_⟩
    obtain ⟨o', w', q1, q2⟩ := p5 q
    exact ⟨o', w', by rw [List.getElem?_append_left (by omega)]; exact q1, q2⟩
  · have : j = i := by omega
    subst this
    rw [er] at ej
    cases ej
    exact ⟨.inr l4, hl, ⟨t, by rw [← h.tl]; simp, ok, e⟩, fun _ => ⟨o, w, by rw [← lw]; simp, ew, ho⟩⟩
theorem rowsD_end {rs : List (List Str)} {n : Int} {ts : List Tie} {ws : List (Option Int)} {l0 : Nat} {W : Option (List Int)} (h : RowsD rs n ts ws l0 rs.length) (hW : (ws = [] ∧ W = none) ∨ ∃ ks : List Int, ws = ks.map some ∧ ks ≠ [] ∧ W = some ks) : rs = rowsL W ts := by
  refine List.ext_getElem? fun i => ?_
  rw [rowsL_at]
  cases e : rs[i]? with
  | none =>
    have : ts[i]? = none := by
      rw [List.getElem?_eq_none_iff] at e ⊢
      rw [h.tl]
      exact e
    rw [this]
    rfl
  | some r =>
    have li := (List.getElem?_eq_some_iff.mp e).1
    obtain ⟨p1, p2, ⟨t, p3, ok, p4⟩, p5⟩ := h.each i r li e
    rw [p3]
    show some r = some ([numS t.one, numS t.other, kindS t.foe] ++ wsL W i)
    congr 1
    rw [p4]
    show _ = numS t.one :: numS t.other :: kindS t.foe :: wsL W i
    have ed : r.drop 3 = wsL W i := by
      rcases hW with ⟨w0, rfl⟩ | ⟨ks, wk, kne, rfl⟩
      · have n4 : ¬ l0 = 4 := fun z => by
          have := h.wl
          rw [w0, if_pos z] at this
          simp only [List.length_nil] at this
          omega
        exact List.drop_of_length_le (by omega)
      · have e4 : l0 = 4 := Classical.byContradiction fun z => by
          have := h.wl
          rw [wk, if_neg z, List.length_map] at this
          exact kne (List.eq_nil_of_length_eq_zero this)
        obtain ⟨o, w, q1, q2, q3⟩ := p5 (by omega)
        rw [wk, List.getElem?_map] at q1
        obtain ⟨k, ek, rfl⟩ := Option.map_eq_some_iff.mp q1
        obtain ⟨_, rfl⟩ := q3
        match r, (show r.length = 4 by omega), q2 with
        | [_, _, _, w], _, q2 =>
          have : w = numS k := Option.some.inj q2
          show [w] = [numS (ks.getD i 0)]
          rw [List.getD_eq_getElem?_getD, ek, this]
          rfl
    rw [ed]
theorem any_none {ws : List (Option Int)} : inV .non (ws.map optVn) = ws.any (·.isNone) := by
  unfold inV
  rw [List.any_map]
  refine congrArg (fun f => ws.any f) (funext fun o => ?_)
  cases o <;> rfl
theorem any_zero {ws : List (Option Int)} : inV (.int 0) (ws.map optVn) = ws.any fun o => decide (o = some 0) := by
  unfold inV
  rw [List.any_map]
  refine congrArg (fun f => ws.any f) (funext fun o => ?_)
  cases o with
  | none => rfl
  | some k =>
    show (k == 0) = decide (some k = some 0)
    rw [Bool.eq_iff_iff]
    simp
theorem flat_opts (ws : List (Option Int)) : (ws.map optVn).all flatV = true := by
  rw [List.all_map, List.all_eq_true]
  intro o _
  cases o <;> rfl
theorem all_some : ∀ {ws : List (Option Int)}, ws.any (·.isNone) = false → ∃ ks : List Int, ws = ks.map some
  | [], _ => ⟨[], rfl⟩
  | none :: r, h => by cases h
  | some k :: r, h => by
    obtain ⟨ks, e⟩ := all_some (ws := r) h
    exact ⟨k :: ks, by rw [e]; rfl⟩
theorem opts_ints (ks : List Int) : (ks.map some).map optVn = ks.map V.int := by
  rw [List.map_map]
  rfl
/-! ### the law's own reading -/
open TL
def spDue : Sp := fun vs H Q _ => ∃ x : Str, vs = [.str x] ∧ x.length ≤ 500000 ∧ (∀ n ts W, Reads x n ts W → ∀ (a : Addr) (wv gv : V) H', H' a = some (.tup [wv, gv]) → WebAt H' wv n ts → WtAt H' gv W → Same H H' → Q (.ref a) H') ∧ (¬ Readable x → ∀ H', Same H H' → Q .non H')
theorem cut_tail (a : V) (l : List V) : cutV (a :: l) (some 1) none = l := by
  unfold cutV
  simp [HT.sIx]
section
variable {P : Program} {w : World} {K : PySem.W.Frag} {mg : Str → Option Value} {base : Heap}
set_option maxHeartbeats 8000000 in
theorem ok_l_due {f : Addr} {fd : FuncData} (F : Fun K "_law_due" "_law_due" s_l_due f fd) (M : Free mg) (D1 : Df P w K mg base 1 "_law_number" ["_law_word"] spNumber) (D2 : Df P w K mg base 2 "_law_tie_of" ["_law_words", "_law_many"] spTieOf) : FnOk P w K mg base CX0 3 f fd ["_law_text"] spDue := by
  obtain ⟨f1, fd1, G1, g1, k1, b1⟩ := D1
  obtain ⟨f2, fd2, G2, g2, k2, b2⟩ := D2
  refine F.ok sc_l_due (fun vs H Q E h => ?_) (fun cdv A outer s H vs Q E hr h => ?_)
  · obtain ⟨x, rfl, _⟩ := h
    rfl
  · obtain ⟨x, rfl, hx, q, qn⟩ := h
    refine ⟨_, (pss_cons (ps_setLc (i := 1) (own := [("_law_line", 2)]) (g := (gName 2)) (tt := tYes) rfl sc_l_due.nd rfl rfl (sw_true rfl rfl rfl (by decide +kernel)) (pi_list (pe_split (pv 0) pe_str)) (blkOk_by (N := N_l_due) (sc := defScope s_l_due) (own := [("_law_line", 2)]) (by decide +kernel)) (fun _ _ _ _ _ => (pg_name (i := 2) sc_l_due.nd rfl (.inl rfl))) (fun _ _ _ _ _ => pts_nil) (fun _ _ _ _ _ => (pe_split (pv 2) pe_str)))
      (pss_cons (ps_if (PW.pt (pw_or (pt_cmpR op_ne (pe_callB call_len_seq (by rfl) M.len PySem.boot_len (pa_cons (pe_ix ix_list (pv 1) pe_int (fun _ _ => rfl)) pa_nil)) pe_int (nomark _)) (pw_or (pt_cmpR op_ne (pe_ix ix_list (pe_ix ix_list (pv 1) pe_int (fun _ _ => rfl)) pe_int (fun _ _ => rfl)) pe_str (nomark _)) (pw_or1 (pt_cmpR op_in_seq (pe_call G1 (hr.mono (by decide)) (by rfl) g1 k1 b1 .nil pass0 (pa_cons (pe_ix ix_list (pe_ix ix_list (pv 1) pe_int (fun _ _ => rfl)) pe_int (fun _ _ => rfl)) pa_nil)) (pe_tup (pa_cons pe_non (pa_cons pe_int pa_nil))) rfl))))) (pss_one (ps_ret pe_non)) pss_nil)
      (pss_cons (ps_set (i := 3) sc_l_due.nd rfl (.inl rfl) (pe_call G1 (hr.mono (by decide)) (by rfl) g1 k1 b1 .nil pass0 (pa_cons (pe_ix ix_list (pe_ix ix_list (pv 1) pe_int (fun _ _ => rfl)) pe_int (fun _ _ => rfl)) pa_nil)))
      (pss_cons (ps_set (i := 4) sc_l_due.nd rfl (.inl rfl) (pe_lst pa_nil))
      (pss_cons (ps_set (i := 5) sc_l_due.nd rfl (.inl rfl) (pe_lst pa_nil))
      (pss_cons (ps_for PassesOwn.never rfl (pi_list (pe_slice sl_list (pv 1) (po_some pe_int) po_none)) (pg_name (i := 6) sc_l_due.nd rfl (.inl rfl))
        (pss_cons (ps_if (PW.pt (pw_or (pt_cmpR op_notIn_seq (pe_callB call_len_seq (by rfl) M.len PySem.boot_len (pa_cons (pv 6) pa_nil)) (pe_tup (pa_cons pe_int (pa_cons pe_int pa_nil))) rfl) (pw_or (pt_cmpR op_ne (pe_callB call_len_seq (by rfl) M.len PySem.boot_len (pa_cons (pv 6) pa_nil)) (pe_callB call_len_seq (by rfl) M.len PySem.boot_len (pa_cons (pe_ix ix_list (pv 1) pe_int (fun _ _ => rfl)) pa_nil)) (nomark _)) (pw_or1 (pt_cmpR op_isN (pe_call G2 (hr.mono (by decide)) (by rfl) g2 k2 b2 .nil pass0 (pa_cons (pv 6) (pa_cons (pv 3) pa_nil))) pe_non (nomark _)))))) (pss_one (ps_ret pe_non)) pss_nil)
        (pss_cons (ps_expr (pe_bm PySem.F.plainAttrs_list PySem.F.slot_list_append PySem.F.type_list_append mt_append (pv 4) (pa_cons (pe_call G2 (hr.mono (by decide)) (by rfl) g2 k2 b2 .nil pass0 (pa_cons (pv 6) (pa_cons (pv 3) pa_nil))) pa_nil)))
        (pss_one (ps_if (pt_cmpR op_eq (pe_callB call_len_seq (by rfl) M.len PySem.boot_len (pa_cons (pv 6) pa_nil)) pe_int (nomark _)) (pss_one (ps_expr (pe_bm PySem.F.plainAttrs_list PySem.F.slot_list_append PySem.F.type_list_append mt_append (pv 5) (pa_cons (pe_call G1 (hr.mono (by decide)) (by rfl) g1 k1 b1 .nil pass0 (pa_cons (pe_ix ix_list (pv 6) pe_int (fun _ _ => rfl)) pa_nil)) pa_nil)))) pss_nil)))))
      (pss_cons (ps_if (PW.pt (pw_or (pt_cmpR op_in_seq pe_non (pv 5) rfl) (pw_or1 (pt_cmpR op_in_seq pe_int (pv 5) rfl)))) (pss_one (ps_ret pe_non)) pss_nil)
      (pss_cons (ps_if (pt_cmpR (op_eqE hr.units0) (pv 5) (pe_lst pa_nil) (nomark _)) (pss_one (ps_ret (pe_tup (pa_cons (pe_tup (pa_cons (pv 3) (pa_cons (pe_callTy call_tuple_of (by rfl) M.tuple (by decide +kernel) (pa_cons (pv 4) pa_nil)) pa_nil))) (pa_cons pe_non pa_nil))))) pss_nil)
      (pss_one (ps_ret (pe_tup (pa_cons (pe_tup (pa_cons (pv 3) (pa_cons (pe_callTy call_tuple_of (by rfl) M.tuple (by decide +kernel) (pa_cons (pv 4) pa_nil)) pa_nil))) (pa_cons (pe_callTy call_tuple_of (by rfl) M.tuple (by decide +kernel) (pa_cons (pv 5) pa_nil)) pa_nil))))))))))))), ?_⟩
    have hsl := PyProof.Rows.split_le x sNl
    have hsp := PyProof.Rows.split_pos x sNl
    obtain ⟨first, rest, es⟩ : ∃ first rest, Txt.split x sNl = first :: rest := by
      cases e : Txt.split x sNl with
      | nil => rw [e] at hsp; cases hsp
      | cons a b => exact ⟨a, b, rfl⟩
    have hll : ∀ y ∈ first :: rest, y.length ≤ 500000 := fun y hy => Nat.le_trans (split_line_le (by rw [es]; exact hy)) hx
    refine ⟨.str x, rfl, ⟨_, rfl⟩, x, _, rfl, rfl, by decide, by rw [sizeLine_eq]; omega, fun p np => ?_⟩
    rw [show Txt.split x ("\n" : Str) = first :: rest from es]
    rw [es] at hsl
    have hp := upd_same (H := H) (a := p) (o := .lst ((first :: rest).map V.str))
    have sp := same_new (o := .lst ((first :: rest).map V.str)) np
    generalize upd H p (.lst ((first :: rest).map V.str)) = H1 at hp sp
    refine ⟨p, rfl, ⟨_, SqL.of hp⟩, fun L nL => ?_⟩
    refine lc_list (K := K) (a := p) (xs := (first :: rest).map V.str) (fun i H' => ∃ A : List Addr, H' L = some (.lst (A.map V.ref)) ∧ Paired (fun a r => H' a = some (.lst (r.map V.str)) ∧ a ≠ L) A (((first :: rest).take i).map fun l => Txt.split l sSp) ∧ Same H1 H') ⟨[], upd_same, .nil, same_new nL⟩ (fun i H' _ h => by
      obtain ⟨_, _, _, s⟩ := h
      exact SqL.of (s _ _ hp)) ?_ ?_
    · rintro i y H4 hy ⟨A, hR, hA, s4⟩
      rw [List.getElem?_map] at hy
      obtain ⟨l, hl, rfl⟩ := Option.map_eq_some_iff.mp hy
      have li := (List.getElem?_eq_some_iff.mp hl).1
      have hl5 := hll l (List.mem_of_getElem? hl)
      refine ⟨rfl, .str l, rfl, ⟨_, rfl⟩, l, _, rfl, rfl, by decide, by rw [sizeLine_eq]; omega, fun a na => ?_⟩
      have sa := same_new (o := .lst ((Txt.split l (" " : Str)).map V.str)) na
      have aR : a ≠ L := (ne_of_none hR na).symm
      have lA := Paired.length hA
      rw [List.length_map, List.length_take] at lA
      refine ⟨_, sa _ _ hR, by rw [List.length_map, lA]; exact Nat.lt_of_le_of_lt (Nat.min_le_right _ _) (by rw [sizeLine_eq]; omega), A ++ [a], by rw [upd_same, List.map_append]; rfl, ?_, Same.mut (s4.trans sa) nL⟩
      rw [List.take_add_one, hl, List.map_append]
      refine Paired.snoc (Paired.mono (fun b r hb => ⟨by rw [upd_ne hb.2]; exact sa _ _ hb.1, hb.2⟩) hA) ⟨?_, aR⟩
      rw [upd_ne aR]
      exact upd_same
    rintro H2 ⟨A, hL, hA, s2⟩
    rw [List.length_map, List.take_length, List.map_cons] at hA
    rcases hcons : A with _ | ⟨a0, As⟩
    · rw [hcons] at hA
      cases hA
    rw [hcons] at hL hA
    generalize hrs : rest.map (fun l => Txt.split l sSp) = rs at hA
    generalize hw0 : Txt.split first sSp = L0w at hA
    have lrs : rs.length = rest.length := by rw [← hrs, List.length_map]
    have lbig : rs.length ≤ 500002 := by
      simp only [List.length_cons] at hsl
      omega
    obtain ⟨h0, hAs⟩ : (H2 a0 = some (.lst (L0w.map V.str)) ∧ a0 ≠ L) ∧ Paired (fun a r => H2 a = some (.lst (r.map V.str)) ∧ a ≠ L) As rs := by
      cases hA with
      | cons h t => exact ⟨h, t⟩
    have hu : Paired (RowW H2) (As.map V.ref) rs := by
      clear hA hL hrs lbig lrs hcons
      induction hAs with
      | nil => exact .nil
      | cons h1 _ ih => exact .cons ⟨_, rfl, h1.1⟩ ih
    have hwl : ∀ r ∈ rs, ∀ y ∈ r, y.length ≤ sizeLine := fun r hr' y hy => by
      rw [← hrs] at hr'
      obtain ⟨l, hl, rfl⟩ := List.mem_map.mp hr'
      have := hll l (List.mem_cons_of_mem _ hl)
      exact Nat.le_trans (split_part_le hy) (by rw [sizeLine_eq]; omega)
    have hwl0 : ∀ y ∈ L0w, y.length ≤ sizeLine := fun y hy => by
      rw [← hw0] at hy
      have := hll first List.mem_cons_self
      exact Nat.le_trans (split_part_le hy) (by rw [sizeLine_eq]; omega)
    have pieces : ∀ {n' ts' W'}, Reads x n' ts' W' → L0w = [sWeb, numS n'] ∧ rs = rowsL W' ts' ∧ WebBig n' ts' ∧ WtsB ts' W' := fun {n' ts' W'} h => by
      obtain ⟨f', r', e1, e2, e3, okb, hw⟩ := h
      rw [es] at e1
      obtain ⟨rfl, rfl⟩ := List.cons.inj e1
      exact ⟨by rw [← hw0]; exact e2, by rw [← hrs]; exact e3, okb, hw⟩
    have D2' : DueH H H2 L a0 As L0w rs := ⟨sp.trans s2, hL, h0.1, hu⟩
    have lA : As.length = rs.length := by
      have := Paired.length hu
      rw [List.length_map] at this
      exact this
    clear hA hcons hAs hu h0 hL s2 hp sp
    have atL0 : atI ((a0 :: As).map V.ref) 0 = some (.ref a0) := atI_nat (j := 0) rfl
    refine ⟨.ref L, rfl, L, _, 0, .ref a0, rfl, rfl, SqL.of D2'.l, atL0, a0, _, rfl, .inl (SqL.of D2'.z), rfl, _, rfl, ?_⟩
    rw [List.length_map, dec_int]
    obtain ⟨wa, wb, rfl⟩ | no2 : (∃ wa wb, L0w = [wa, wb]) ∨ ¬ ∃ wa wb, L0w = [wa, wb] := Classical.em _
    rotate_left
    · have l2 : L0w.length ≠ 2 := fun z => by
        match L0w, z with
        | [a, b], _ => exact no2 ⟨a, b, rfl⟩
      refine ite2 (fun _ => ?_) (fun z => absurd (by simp; omega) z)
      exact qn (fun ⟨n', ts', W', h⟩ => no2 ⟨_, _, (pieces h).1⟩) _ D2'.s
    refine ite2 (fun z => absurd z (by simp)) (fun _ => ?_)
    refine ⟨.ref L, rfl, L, _, 0, .ref a0, rfl, rfl, SqL.of D2'.l, atL0, a0, _, 0, .str wa, rfl, rfl, SqL.of D2'.z, rfl, rfl, ?_⟩
    by_cases hwa : wa = sWeb
    rotate_left
    · refine ⟨_, rfl, ite2 (fun _ => ?_) (fun z => absurd (by simp; exact hwa) z)⟩
      exact qn (fun ⟨n', ts', W', h⟩ => hwa (List.cons.inj (pieces h).1).1) _ D2'.s
    subst hwa
    refine ⟨_, rfl, ite2 (fun z => absurd z (by simp [sWeb])) (fun _ => ?_)⟩
    refine ⟨.ref L, rfl, L, _, 0, .ref a0, rfl, rfl, SqL.of D2'.l, atL0, a0, _, 1, .str wb, rfl, rfl, SqL.of D2'.z, rfl, wb, rfl, hwl0 wb (by simp), fun n hn en => ?_, fun nn => ?_⟩
    rotate_left
    · refine ⟨by show 2 ≤ sizeLine; decide, fun p3 n3 => ⟨p3, _, rfl, .inr (SqT.of upd_same), rfl, rfl, _, rfl, ?_⟩⟩
      refine ite2 (fun _ => ?_) (fun z => absurd (by decide) z)
      exact qn (fun ⟨n', ts', W', h⟩ => nn ⟨n', ⟨by have := (pieces h).2.2.1.lo; omega, (pieces h).2.2.1.hi⟩, (List.cons.inj (List.cons.inj (pieces h).1).2).1⟩) _ (D2'.s.trans (same_new n3))
    subst en
    have same_n : ∀ {n' ts' W'}, Reads x n' ts' W' → n' = n := fun {n' ts' W'} h => (numS_inj hn.lo (by have := (pieces h).2.2.1.lo; omega) (List.cons.inj (List.cons.inj (pieces h).1).2).1).symm
    refine ⟨by show 2 ≤ sizeLine; decide, fun p3 n3 => ⟨p3, _, rfl, .inr (SqT.of upd_same), rfl, rfl, _, rfl, ?_⟩⟩
    have D3 := D2'.same (same_new (o := .tup [.non, .int 0]) n3)
    generalize upd H2 p3 (.tup [.non, .int 0]) = H3 at D3
    have ein : inV (.int n) [.non, .int 0] = decide (n = 0) := by
      unfold inV
      simp only [List.any_cons, List.any_nil]
      show (false || ((0 == n) || false)) = _
      rw [Bool.false_or, Bool.or_false, Bool.eq_iff_iff]
      simp
      exact eq_comm
    show (if (inV (.int n) [.non, .int 0]) = true then _ else _)
    rw [ein]
    refine ite2 (fun z => ?_) (fun z => ?_)
    · have n0 := of_decide_eq_true z
      exact qn (fun ⟨n', ts', W', h⟩ => by
        have e1 := same_n h
        have := (pieces h).2.2.1.lo
        omega) _ D3.s
    have n1 : 1 ≤ n := by
      have := hn.lo
      have : n ≠ 0 := fun y => z (decide_eq_true y)
      omega
    refine ⟨.ref L, rfl, L, _, 0, .ref a0, rfl, rfl, SqL.of D3.l, atL0, a0, _, 1, .str (numS n), rfl, rfl, SqL.of D3.z, rfl, numS n, rfl, hwl0 _ (by simp), fun n2 hn2 en2 => ?_, fun nn => absurd ⟨n, hn, rfl⟩ nn⟩
    obtain rfl : n = n2 := numS_inj hn.lo hn2.lo en2
    refine ⟨Nat.zero_le _, fun T nT => ?_⟩
    have sT := same_new (o := .lst []) nT
    have oT := D3.out nT
    have D4 := D3.same sT
    have hT4 := upd_same (H := H3) (a := T) (o := .lst [])
    generalize upd H3 T (.lst []) = H4 at sT D4 hT4
    refine ⟨Nat.zero_le _, fun Wl nW => ?_⟩
    have sW := same_new (o := .lst []) nW
    have oW := D4.out nW
    have D5 := D4.same sW
    have hT5 := sW _ _ hT4
    have TW : T ≠ Wl := ne_of_none hT4 nW
    have hW5 := upd_same (H := H4) (a := Wl) (o := .lst [])
    generalize upd H4 Wl (.lst []) = H5 at sW D5 hT5 hW5
    refine ⟨.ref L, rfl, 1, rfl, L, _, rfl, SqL.of D5.l, fun p6 n6 => ?_⟩
    rw [List.map_cons, cut_tail]
    have s6 := same_new (o := .lst (As.map V.ref)) n6
    have D6 := D5.same s6
    have hT6 := s6 _ _ hT5
    have hW6 := s6 _ _ hW5
    have pT : p6 ≠ T := (ne_of_none hT5 n6).symm
    have pW : p6 ≠ Wl := (ne_of_none hW5 n6).symm
    have hp6 := upd_same (H := H5) (a := p6) (o := .lst (As.map V.ref))
    generalize upd H5 p6 (.lst (As.map V.ref)) = H6 at s6 D6 hT6 hW6 hp6
    refine ⟨p6, rfl, ⟨_, SqL.of hp6⟩, ?_⟩
    generalize hl0 : (match rs with
      | [] => 0
      | r :: _ => r.length) = l0
    refine for_it (walk_list (xs := As.map V.ref)) (fun i σ' H' => ∃ (y2 y6 : Option V) (vs : List V) (ts : List Tie) (ws : List (Option Int)), σ' = [some (.str x), some (.ref L), y2, some (.int n), some (.ref T), some (.ref Wl), y6] ∧ H' T = some (.lst vs) ∧ vs.length = i ∧ Paired (TieV H') vs ts ∧ H' Wl = some (.lst (ws.map optVn)) ∧ RowsD rs n ts ws l0 i ∧ DueH H H' L a0 As [sWeb, numS n] rs ∧ H' p6 = some (.lst (As.map V.ref))) ⟨_, _, [], [], [], rfl, hT6, rfl, .nil, hW6, rowsD_zero, D6, hp6⟩ (fun i σ' H' _ h => by
      obtain ⟨_, _, _, _, _, _, _, _, _, _, _, _, h⟩ := h
      exact SqL.of h) ?_ ?_
    · rintro i y σ' H70 H7 hi ⟨y2, y6, vs, ts, ws, rfl, hT7, hvl, hvs, hW7, hrd, D7, hp7⟩ ⟨rfl, gy⟩
      obtain ⟨r, er, a, rfl, ha⟩ := Paired.at D7.r gy
      have li : i < rs.length := (List.getElem?_eq_some_iff.mp er).1
      obtain ⟨r1, rr, erl⟩ : ∃ r1 rr, rs = r1 :: rr := by
        cases e : rs with
        | nil => rw [e] at li; cases li
        | cons a b => exact ⟨a, b, rfl⟩
      have el0 : l0 = r1.length := by rw [← hl0, erl]
      obtain ⟨a1, Ar, eAs⟩ : ∃ a1 Ar, As = a1 :: Ar := by
        cases e : As with
        | nil => rw [e] at lA; rw [← lA] at li; cases li
        | cons a b => exact ⟨a, b, rfl⟩
      have bad : ∀ {H'}, Same H7 H' → ¬ Readable x → Q .non H' := fun {H'} s nr => qn nr _ (D7.s.trans s)
      refine ⟨.ref a, rfl, a, _, rfl, .inl (SqL.of ha), by show 2 ≤ sizeLine; decide, fun p8 n8 => ⟨p8, _, rfl, .inr (SqT.of upd_same), rfl, rfl, _, rfl, ?_⟩⟩
      have s8 := same_new (o := .tup [.int 3, .int 4]) n8
      have D8 := D7.same s8
      have hT8 := s8 _ _ hT7
      have hW8 := s8 _ _ hW7
      have hp8 := s8 _ _ hp7
      have hvs8 := ties_tk (Same.tk s8) hvs
      have ha8 := s8 _ _ ha
      have bad8 : ¬ Readable x → Q .non (upd H7 p8 (.tup [.int 3, .int 4])) := bad s8
      generalize upd H7 p8 (.tup [.int 3, .int 4]) = H8 at s8 D8 hT8 hW8 hp8 hvs8 ha8 bad8
      have ein8 : inV (.int (((r.map V.str).length : Nat) : Int)) [.int 3, .int 4] = decide (r.length = 3 ∨ r.length = 4) := by
        unfold inV
        simp only [List.any_cons, List.any_nil, List.length_map]
        show (((3 : Int) == (r.length : Int)) || (((4 : Int) == (r.length : Int)) || false)) = _
        rw [Bool.or_false, Bool.eq_iff_iff]
        simp
        omega
      show (if (!inV (.int (((r.map V.str).length : Nat) : Int)) [.int 3, .int 4]) = true then _ else _)
      rw [ein8]
      refine ite2 (fun z => ?_) (fun z => ?_)
      · refine bad8 fun ⟨n', ts', W', h⟩ => ?_
        have e3 := (pieces h).2.1
        have := (reads_wrel (pieces h).2.2.2)
        rw [← e3] at this
        have l34 := this.len r (List.mem_of_getElem? er)
        rw [decide_eq_true l34] at z
        cases z
      have l34 : r.length = 3 ∨ r.length = 4 := by
        refine Classical.byContradiction fun y => z ?_
        rw [decide_eq_false y]
        rfl
      have h1a : H8 a1 = some (.lst (r1.map V.str)) := by
        have := D8.r
        rw [eAs, erl] at this
        cases this with
        | cons h _ =>
          obtain ⟨b, e, h⟩ := h
          cases e
          exact h
      have atL1 : atI ((a0 :: As).map V.ref) 1 = some (.ref a1) := atI_nat (j := 1) (by rw [eAs]; rfl)
      refine ⟨.ref a, rfl, a, _, rfl, .inl (SqL.of ha8), .ref L, rfl, L, _, 1, .ref a1, rfl, rfl, SqL.of D8.l, atL1, a1, _, rfl, .inl (SqL.of h1a), rfl, _, rfl, ?_⟩
      rw [List.length_map, List.length_map, dec_int]
      refine ite2 (fun z => ?_) (fun z => ?_)
      · refine bad8 fun ⟨n', ts', W', h⟩ => ?_
        have e3 := (pieces h).2.1
        have all : ∀ r' ∈ rs, r'.length = if W'.isSome then 4 else 3 := fun r' hr' => by
          rw [e3] at hr'
          obtain ⟨i', t', _, rfl⟩ := rows_at hr'
          cases W' <;> rfl
        have e1 := all r (List.mem_of_getElem? er)
        have e2 := all r1 (by rw [erl]; exact List.mem_cons_self)
        rw [e1, e2, decide_eq_true rfl] at z
        cases z
      have hl : r.length = l0 := by
        rw [el0]
        refine Classical.byContradiction fun y => z ?_
        rw [decide_eq_false (fun w => y (by omega))]
        rfl
      obtain ⟨w0, w1, w2, tlr, rfl⟩ : ∃ w0 w1 w2 tlr, r = w0 :: w1 :: w2 :: tlr := by
        match r, l34 with
        | w0 :: w1 :: w2 :: tlr, _ => exact ⟨w0, w1, w2, tlr, rfl⟩
        | [], h => exact absurd h (by simp)
        | [_], h => exact absurd h (by simp)
        | [_, _], h => exact absurd h (by simp)
      have hwr := hwl _ (List.mem_of_getElem? er)
      refine ⟨.ref a, rfl, .int n, rfl, a, n, w0, w1, w2, tlr, rfl, ha8, hwr w0 (by simp), hwr w1 (by simp), hn.hi, fun t tok e0 e1 e2 v H9 tv s9 => ?_, fun nt => ?_⟩
      rotate_left
      · refine ⟨rfl, _, rfl, ite2 (fun _ => ?_) (fun z => absurd (by simp) z)⟩
        refine bad8 fun ⟨n', ts', W', h⟩ => ?_
        have e3 := (pieces h).2.1
        have en := same_n h
        subst en
        have e4 := er
        rw [e3, rowsL_at] at e4
        obtain ⟨t, et, e5⟩ := Option.map_eq_some_iff.mp e4
        have e6 : [numS t.one, numS t.other, kindS t.foe] ++ wsL W' i = w0 :: w1 :: w2 :: tlr := e5
        simp only [List.cons_append, List.nil_append, List.cons.injEq] at e6
        exact nt ⟨t, (pieces h).2.2.1.ok t (List.mem_of_getElem? et), e6.1.symm, e6.2.1.symm, e6.2.2.1.symm⟩
      obtain ⟨va, rfl, hva⟩ := tv
      have D9 := D8.same s9
      have hT9 := s9 _ _ hT8
      have hW9 := s9 _ _ hW8
      have hp9 := s9 _ _ hp8
      have hvs9 := ties_tk (Same.tk s9) hvs8
      have ha9 := s9 _ _ ha8
      refine ⟨rfl, _, rfl, ite2 (fun z => absurd (of_decide_eq_true z) nofun) (fun _ => ?_)⟩
      refine ⟨.ref T, rfl, .inl ⟨rfl, _, SqL.of hT9⟩, .ref a, rfl, .int n, rfl, a, n, w0, w1, w2, tlr, rfl, ha9, hwr w0 (by simp), hwr w1 (by simp), hn.hi, fun t' tok' e0' e1' e2' v' H10 tv' s10 => ?_, fun nt => absurd ⟨t, tok, e0, e1, e2⟩ nt⟩
      have D10 := D9.same s10
      have hT10 := s10 _ _ hT9
      have hW10 := s10 _ _ hW9
      have hp10 := s10 _ _ hp9
      have hvs10 := ties_tk (Same.tk s10) hvs9
      refine ⟨T, _, _, rfl, rfl, hT10, by rw [hvl, sizeLine_eq]; omega, ?_⟩
      have tkT := tk_lst (l := T) (ys := vs ++ [v']) hT10
      have D11 := D10.mut (o := .lst (vs ++ [v'])) oT
      have hT11 := upd_same (H := H10) (a := T) (o := .lst (vs ++ [v']))
      have hW11 : (upd H10 T (.lst (vs ++ [v']))) Wl = some (.lst (ws.map optVn)) := by rw [upd_ne TW.symm]; exact hW10
      have hp11 : (upd H10 T (.lst (vs ++ [v']))) p6 = some (.lst (As.map V.ref)) := by rw [upd_ne pT]; exact hp10
      have hvs11 := ties_tk tkT hvs10
      have tv11 := TieV.tk tkT tv'
      generalize upd H10 T (.lst (vs ++ [v'])) = H11 at D11 hT11 hW11 hp11 hvs11 tv11
      have ha11 : H11 a = some (.lst ((w0 :: w1 :: w2 :: tlr).map V.str)) := by
        obtain ⟨r', er', b, eb, hb⟩ := Paired.at D11.r gy
        cases eb
        rw [er] at er'
        cases er'
        exact hb
      have erow : w0 :: w1 :: w2 :: tlr = numS t'.one :: numS t'.other :: kindS t'.foe :: (w0 :: w1 :: w2 :: tlr).drop 3 := by
        show _ = numS t'.one :: numS t'.other :: kindS t'.foe :: tlr
        rw [← e0', ← e1', ← e2']
      refine ⟨.ref a, rfl, a, _, rfl, .inl (SqL.of ha11), rfl, _, rfl, ?_⟩
      rw [List.length_map, dec_int]
      refine ite2 (fun z => ?_) (fun z => ?_)
      · have l4 : (w0 :: w1 :: w2 :: tlr).length = 4 := by
          have := of_decide_eq_true z
          omega
        obtain ⟨w3, rfl⟩ : ∃ w3, tlr = [w3] := by
          match tlr, l4 with
          | [w3], _ => exact ⟨w3, rfl⟩
        have fin : ∀ o : Option Int, optN w3 o → ∀ σz : List (Option V), σz = [some (.str x), some (.ref L), y2, some (.int n), some (.ref T), some (.ref Wl), some (.ref a)] → ∃ l xs y, V.ref Wl = .ref l ∧ [optVn o] = [y] ∧ H11 l = some (.lst xs) ∧ xs.length < sizeLine ∧ ∃ (y2 y6 : Option V) (vs : List V) (ts : List Tie) (ws : List (Option Int)), σz = [some (.str x), some (.ref L), y2, some (.int n), some (.ref T), some (.ref Wl), y6] ∧ (upd H11 l (.lst (xs ++ [y]))) T = some (.lst vs) ∧ vs.length = i + 1 ∧ Paired (TieV (upd H11 l (.lst (xs ++ [y])))) vs ts ∧ (upd H11 l (.lst (xs ++ [y]))) Wl = some (.lst (ws.map optVn)) ∧ RowsD rs n ts ws l0 (i + 1) ∧ DueH H (upd H11 l (.lst (xs ++ [y]))) L a0 As [sWeb, numS n] rs ∧ (upd H11 l (.lst (xs ++ [y]))) p6 = some (.lst (As.map V.ref)) := fun o ho σz ez => by
          have tkW := tk_lst (l := Wl) (ys := ws.map optVn ++ [optVn o]) hW11
          refine ⟨Wl, _, _, rfl, rfl, hW11, by rw [List.length_map, hrd.wl, sizeLine_eq]; split <;> omega, y2, _, _, ts ++ [t'], ws ++ [o], ez, by rw [upd_ne TW]; exact hT11, by rw [List.length_append, hvl]; rfl, Paired.snoc (ties_tk tkW hvs11) (TieV.tk tkW tv11), by rw [upd_same, List.map_append]; rfl, hrd.more4 er l4 hl tok' erow (w := w3) rfl ho, D11.mut oW, by rw [upd_ne pW]; exact hp11⟩
        have at3 : atI ((w0 :: w1 :: w2 :: [w3]).map V.str) 3 = some (.str w3) := atI_nat (j := 3) rfl
        refine ⟨.ref Wl, rfl, .inl ⟨rfl, _, SqL.of hW11⟩, .ref a, rfl, a, _, 3, .str w3, rfl, rfl, SqL.of ha11, at3, w3, rfl, hwr w3 (by simp), fun k hk ek => ?_, fun nk => ?_⟩
        · exact fin (some k) ⟨hk, ek⟩ _ rfl
        · exact fin none nk _ rfl
      · have l3 : (w0 :: w1 :: w2 :: tlr).length = 3 := by
          rcases l34 with h | h
          · exact h
          · exact absurd (decide_eq_true (show (((w0 :: w1 :: w2 :: tlr).length : Nat) : Int) = 4 by rw [h]; rfl)) z
        exact ⟨y2, _, _, ts ++ [t'], ws, rfl, hT11, by rw [List.length_append, hvl]; rfl, Paired.snoc hvs11 tv11, hW11, hrd.more3 er l3 hl tok' erow, D11, hp11⟩
    · rintro σ' H7 ⟨y2, y6, vs, ts, ws, rfl, hT7, hvl, hvs, hW7, hrd, D7, hp7⟩
      rw [List.length_map, lA] at hvl hrd
      have lts : ts.length = rs.length := hrd.tl
      have okt : ∀ t ∈ ts, TieOk n t := fun t ht => by
        obtain ⟨i, hi⟩ := List.getElem?_of_mem ht
        have li : i < rs.length := by rw [← lts]; exact (List.getElem?_eq_some_iff.mp hi).1
        obtain ⟨_, _, ⟨t', e1, ok, _⟩, _⟩ := hrd.each i rs[i] li (List.getElem?_eq_getElem li)
        rw [hi] at e1
        cases e1
        exact ok
      have okb : WebBig n ts := ⟨n1, hn.hi, okt⟩
      have reads : ∀ W, ((ws = [] ∧ W = none) ∨ ∃ ks : List Int, ws = ks.map some ∧ ks ≠ [] ∧ W = some ks) → WtsB ts W → Reads x n ts W := fun W hW hB => ⟨first, rest, es, hw0, by rw [hrs]; exact rowsD_end hrd hW, okb, hB⟩
      /- where a weight is amiss, the text is no web -/
      have badw : ∀ {o : Option Int}, o ∈ ws → (∀ k, o = some k → k = 0) → ¬ Readable x := fun {o} ho hz ⟨n', ts', W', h⟩ => by
        obtain ⟨j, hj⟩ := List.getElem?_of_mem ho
        have l4 : l0 = 4 := Classical.byContradiction fun z => by
          have := hrd.wl
          rw [if_neg z] at this
          rw [List.eq_nil_of_length_eq_zero this] at hj
          simp at hj
        have lj : j < rs.length := by
          have := hrd.wl
          rw [if_pos l4] at this
          rw [← this]
          exact (List.getElem?_eq_some_iff.mp hj).1
        obtain ⟨_, el, _, p5⟩ := hrd.each j rs[j] lj (List.getElem?_eq_getElem lj)
        obtain ⟨o', w', q1, q2, q3⟩ := p5 (by omega)
        rw [hj] at q1
        cases q1
        obtain ⟨_, e3, okb', hB⟩ := pieces h
        have wr := reads_wrel (ts := ts') hB
        rw [← e3] at wr
        cases W' with
        | none =>
          have := wr rs[j] (List.getElem_mem lj)
          omega
        | some ks =>
          obtain ⟨_, y, ey, gy, e5⟩ := wr.2.2 j rs[j] (List.getElem?_eq_getElem lj)
          rw [q2] at e5
          have e6 := Option.some.inj e5
          cases o with
          | none => exact q3 ⟨y, gy, e6⟩
          | some k =>
            obtain ⟨gk, ek⟩ := q3
            have k0 := hz k rfl
            have := numS_inj gk.lo gy.lo (ek.symm.trans e6)
            have := ((hB ks rfl).2.2 y (List.mem_of_getElem? ey)).1
            omega
      refine ⟨.ref Wl, rfl, Wl, _, rfl, .inl (SqL.of hW7), rfl, flat_opts ws, _, rfl, ?_⟩
      show (if (inV .non (ws.map optVn)) = true then _ else _)
      rw [any_none]
      refine ite2 (fun z => ?_) (fun z => ?_)
      · obtain ⟨o, ho, hz⟩ := List.any_eq_true.mp z
        refine qn (badw ho fun k e => ?_) _ D7.s
        rw [e] at hz
        cases hz
      obtain ⟨ks, rfl⟩ := all_some (ws := ws) (Bool.eq_false_iff.mpr z)
      refine ⟨.ref Wl, rfl, Wl, _, rfl, .inl (SqL.of hW7), rfl, flat_opts _, _, rfl, ?_⟩
      show (if (inV (.int 0) ((ks.map some).map optVn)) = true then _ else _)
      rw [any_zero]
      refine ite2 (fun z => ?_) (fun z0 => ?_)
      · obtain ⟨o, ho, hz⟩ := List.any_eq_true.mp z
        refine qn (badw ho fun k e => ?_) _ D7.s
        rw [of_decide_eq_true hz] at e
        exact (Option.some.inj e).symm
      rw [opts_ints] at hW7
      have pos : ∀ y ∈ ks, 1 ≤ y ∧ y < 10 ^ 31 := fun y hy => by
        obtain ⟨j, hj⟩ := List.getElem?_of_mem hy
        have hj' : (ks.map some)[j]? = some (some y) := by rw [List.getElem?_map, hj]; rfl
        have l4 : l0 = 4 := Classical.byContradiction fun z => by
          have := hrd.wl
          rw [if_neg z, List.length_map] at this
          rw [List.eq_nil_of_length_eq_zero this] at hj
          simp at hj
        have lj : j < rs.length := by
          have := hrd.wl
          rw [if_pos l4, List.length_map] at this
          rw [← this]
          exact (List.getElem?_eq_some_iff.mp hj).1
        obtain ⟨_, el, _, p5⟩ := hrd.each j rs[j] lj (List.getElem?_eq_getElem lj)
        obtain ⟨o', w', q1, q2, q3⟩ := p5 (by omega)
        rw [hj'] at q1
        cases q1
        have g := q3.1
        have : y ≠ 0 := fun e => z0 (List.any_eq_true.mpr ⟨some y, List.mem_map_of_mem hy, by rw [e]; rfl⟩)
        have := g.lo
        exact ⟨by omega, g.hi⟩
      have few : vs.length ≤ 500002 := by omega
      refine ⟨.ref Wl, rfl, Nat.zero_le _, fun p9 n9 => ?_⟩
      have s9 := same_new (o := .lst []) n9
      have D9 := D7.same s9
      have hT9 := s9 _ _ hT7
      have hW9 := s9 _ _ hW7
      have hvs9 := ties_tk (Same.tk s9) hvs
      have hp9 := upd_same (H := H7) (a := p9) (o := .lst [])
      generalize upd H7 p9 (.lst []) = H9 at s9 D9 hT9 hW9 hvs9 hp9
      refine ⟨Wl, p9, _, rfl, rfl, SqL.of hW9, SqL.of hp9, _, rfl, ite2 (fun z => ?_) (fun z => ?_)⟩
      · have k0 : ks = [] := by
          have := List.isEmpty_iff.mp z
          exact List.map_eq_nil_iff.mp this
        refine ⟨.int n, rfl, .ref T, rfl, T, vs, rfl, .inl ⟨SqL.of hT9, fun B nB => ?_⟩⟩
        have sB := same_new (o := .tup vs) nB
        have hB := upd_same (H := H9) (a := B) (o := .tup vs)
        have hvsB := ties_tk (Same.tk sB) hvs9
        have DB := D9.same sB
        generalize upd H9 B (.tup vs) = HB at sB hB hvsB DB
        refine ⟨by show 2 ≤ sizeLine; decide, fun Wd nWd => ?_⟩
        have sD := same_new (o := .tup [.int n, .ref B]) nWd
        have hWd := upd_same (H := HB) (a := Wd) (o := .tup [.int n, .ref B])
        have hBD := sD _ _ hB
        have hvsD := ties_tk (Same.tk sD) hvsB
        have DD := DB.same sD
        generalize upd HB Wd (.tup [.int n, .ref B]) = HD at sD hWd hBD hvsD DD
        refine ⟨by show 2 ≤ sizeLine; decide, fun A2 nA2 => ?_⟩
        have sA := same_new (o := .tup [.ref Wd, .non]) nA2
        exact q n ts none (reads none (.inl ⟨by rw [k0]; rfl, rfl⟩) (fun ws e => by cases e)) A2 (.ref Wd) .non _ upd_same (WebAt.tk (Same.tk sA) ⟨Wd, B, vs, rfl, hWd, hBD, hvsD⟩) rfl (DD.s.trans sA)
      · have kne : ks ≠ [] := fun e => z (by rw [e]; rfl)
        have lk : ks.length = ts.length := by
          have l4 : l0 = 4 := Classical.byContradiction fun y => by
            have := hrd.wl
            rw [if_neg y, List.length_map] at this
            exact kne (List.eq_nil_of_length_eq_zero this)
          have := hrd.wl
          rw [if_pos l4, List.length_map] at this
          omega
        refine ⟨.int n, rfl, .ref T, rfl, T, vs, rfl, .inl ⟨SqL.of hT9, fun B nB => ?_⟩⟩
        have sB := same_new (o := .tup vs) nB
        have hB := upd_same (H := H9) (a := B) (o := .tup vs)
        have hvsB := ties_tk (Same.tk sB) hvs9
        have hWB := sB _ _ hW9
        have DB := D9.same sB
        generalize upd H9 B (.tup vs) = HB at sB hB hvsB hWB DB
        refine ⟨by show 2 ≤ sizeLine; decide, fun Wd nWd => ?_⟩
        have sD := same_new (o := .tup [.int n, .ref B]) nWd
        have hWd := upd_same (H := HB) (a := Wd) (o := .tup [.int n, .ref B])
        have hBD := sD _ _ hB
        have hvsD := ties_tk (Same.tk sD) hvsB
        have hWD := sD _ _ hWB
        have DD := DB.same sD
        generalize upd HB Wd (.tup [.int n, .ref B]) = HD at sD hWd hBD hvsD hWD DD
        refine ⟨.ref Wl, rfl, Wl, ks.map V.int, rfl, .inl ⟨SqL.of hWD, fun G nG => ?_⟩⟩
        have sG := same_new (o := .tup (ks.map V.int)) nG
        have hG := upd_same (H := HD) (a := G) (o := .tup (ks.map V.int))
        have web := WebAt.tk (Same.tk sG) ⟨Wd, B, vs, rfl, hWd, hBD, hvsD⟩
        have DG := DD.same sG
        generalize upd HD G (.tup (ks.map V.int)) = HG at sG hG web DG
        refine ⟨by show 2 ≤ sizeLine; decide, fun A2 nA2 => ?_⟩
        have sA := same_new (o := .tup [.ref Wd, .ref G]) nA2
        exact q n ts (some ks) (reads (some ks) (.inr ⟨ks, rfl, kne, rfl⟩) (fun ws' e => by cases e; exact ⟨kne, lk, pos⟩)) A2 (.ref Wd) (.ref G) _ upd_same (web.tk (Same.tk sA)) ⟨G, rfl, sA _ _ hG⟩ (DG.s.trans sA)
end
/-! ### told -/
open TL
theorem takes0N {X : Cx} : L2N.Takes X (fun _ _ _ _ => False) := fun _ _ x => by
  obtain ⟨_, _, _, _, _, _, _, _, _, _, _, _, _, _, _, _, z⟩ := x
  exact z.elim
def rIsXT (K : PySem.W.Frag) (a : Addr) (cls : Value) (d : Option Addr) : List V → Hp → VK → Prop := fun xs H Q => ∃ (D tp : Addr) (cs : List Addr) (b : Bool), ExcC K D ∧ cls = .ref D ∧ d = none ∧ xs = [.ref a, .ref tp] ∧ H tp = some (.tup (cs.map V.ref)) ∧ PySem.W.kitAny K (.ref D) (cs.map Value.ref) = some b ∧ Q (.bl b) H
theorem vals_refs : ∀ {cs : List Addr} {its : List Value}, Vals (cs.map V.ref) its → its = cs.map Value.ref
  | [], _, .nil => rfl
  | c :: cs, _, .cons h t => by
    cases h
    rw [vals_refs t]
    rfl
theorem call_isXT {X : Cx} {a : Addr} {cls : Value} {d : Option Addr} {oe : Obj} {pn : List (Addr × Obj)} (hz : Zc cls d oe) (hf : ∃ vs, oe.data = .fields vs) : CallR (X.suite a ((a, oe) :: pn)) (.builtin "isinstance") (rIsXT X.K a cls d) := by
  intro pins s σ H xs us Q I r h
  obtain ⟨D, tp, cs, b, C, rfl, rfl, rfl, hT, e, q⟩ := h
  obtain ⟨u1, u2, rfl, r1, r2⟩ := vals2 r
  cases r1
  cases (show u2 = Value.ref tp from r2)
  obtain ⟨hget, _⟩ := I.pin (a, oe) (List.mem_append.mpr (.inl List.mem_cons_self))
  obtain ⟨vs, hv⟩ := hf
  have J : PySem.W.InstAt s.heap a oe D none := by
    obtain ⟨oc, od, oda, osl⟩ := oe
    obtain ⟨h1, h2⟩ := hz
    dsimp only at h1 h2 hv
    subst h1 h2 hv
    exact ⟨hget, rfl, rfl, trivial⟩
  obtain ⟨_, its, rv, o, h1, h2, n, h3⟩ := (show ObjOk X.prog X.w H s.heap tp (.tup (cs.map V.ref)) from I.hok tp _ hT)
  have e3 := vals_refs rv
  subst e3
  obtain ⟨oc, od, dt, sl⟩ := o
  simp only at h2 h3
  subst h2 h3
  exact PySem.W.kia_tup (PySem.W.handS_kitx_exc C.hg C.hk C.hs C.hd C.ha C.hn C.ht C.hm) I.kIn J h1 e (fun z => nomatch z) fun tk => ⟨.bl b, H, I.kept (t' := tk) fun _ _ z => z, rfl, q⟩
def spTold (Ps : List Addr) : Sp := fun vs H Q _ => ∃ v : V, vs = [v] ∧ Kn H v ∧ (∀ x, v = .str x → x.length ≤ 500000) ∧ Tabs Ps H ∧
  (∀ x n ts W, v = .str x → Reads x n ts W → ∀ (r a : Addr) (wv gv : V) H', H' r = some (.lst [.str "read", .ref a]) → H' a = some (.tup [wv, gv]) → WebAt H' wv n ts → WtAt H' gv W → Kt Ps H H' → Q (.ref r) H') ∧
  ((¬ ∃ x, v = .str x ∧ Readable x) → ∀ r H', H' r = some (.lst [.str "refused"]) → Kt Ps H H' → Q (.ref r) H')
section
variable {P : Program} {w : World} {K : PySem.W.Frag} {mg : Str → Option Value} {base : Heap}
set_option maxHeartbeats 8000000 in
theorem ok_l_told {f : Addr} {fd : FuncData} {Ps : List Addr} {D0 D1 D2 D3 D4 D5 W W0 : Addr} (F : Fun K "_law_told" "_law_told" s_l_told f fd) (M : Free mg) (mve : mg "ValueError" = none) (T0 : RefT K mg "NoText" D0 W) (k0_0 : KitT K mg D0 "NoText" D0 true) (k0_1 : KitT K mg D0 "NoFrame" D1 false) (k0_2 : KitT K mg D0 "NoTie" D2 false) (k0_3 : KitT K mg D0 "NoRow" D3 false) (k0_4 : KitT K mg D0 "NotFlat" D4 false) (k0_5 : KitT K mg D0 "TooMany" D5 false) (v0 : PySem.W.kitOne K (.ref D0) (.type "ValueError") = some true)
    (Dr : DfN P w K mg base 7 "read_web" ["text"] (spReadWebN Ps D0)) : FnOk P w K mg base CX0 8 f fd ["_law_thing"] (spTold Ps) := by
  obtain ⟨fR, fdR, GR, gR, kR, bR⟩ := Dr
  refine F.ok sc_l_told (fun vs H Q E h => ?_) (fun cdv A outer s H vs Q E hr h => ?_)
  · obtain ⟨v, rfl, _⟩ := h
    rfl
  · obtain ⟨v, rfl, kv, hlen, hT, q, qe⟩ := h
    refine ⟨_, (pss_cons (ps_set (i := 1) sc_l_told.nd rfl (.inl rfl) (pe_lst (pa_cons pe_str pa_nil)))
      (pss_cons (L2N.ps_try_as (i := 2) (ts := fun a cls d => tSeq (tAsg (tCB (rIsXT K a cls d) (tCons (tVar 2) (tCons (tTup (tCons (tC (.ref D1)) (tCons (tC (.ref D3)) (tCons (tC (.ref D4)) (tCons (tC (.ref D2)) (tCons (tC (.ref D5)) tNil)))))) tNil))) (gName 3))
            (tIfS (tAnd (tB (tCB (rIsX K a cls d) (tCons (tVar 2) (tCons (tC (.ref D0)) tNil)))) (tAnd (tB (tCB (rIsX K a cls d) (tCons (tVar 2) (tCons (tC (.ty "ValueError")) tNil)))) (tNot (tB (tVar 3))))) (tAsg (tLst (tCons (tC (.str "refused")) tNil)) (gName 1)) tNext)) (Wout := fun _ _ _ _ => False) rfl rfl sc_l_told.nd rfl rfl ⟨rfl, by decide, .inl T0.gW⟩ takes0N
          (fun W' pn xe tk _ => pss_one (ps_set (i := 1) sc_l_told.nd rfl (.inl rfl) (by exact (pe_lst (pa_cons pe_str (pa_cons (pe_callS GR hr (by rfl) gR kR bR (fun σ => L2N.passAt tk σ) (by exact (pa_cons (pv 0) pa_nil))) pa_nil))))))
          (fun a oe cls d pn hz hf => pss_cons (ps_set (i := 3) sc_l_told.nd rfl (.inl rfl) (by exact (pe_callB (call_isXT hz.zc hf) (by rfl) M.isinstance (by decide +kernel) (pa_cons (pv 2) (pa_cons (pe_tup (pa_cons (pe_glob rfl k0_1.g rfl) (pa_cons (pe_glob rfl k0_3.g rfl) (pa_cons (pe_glob rfl k0_4.g rfl) (pa_cons (pe_glob rfl k0_2.g rfl) (pa_cons (pe_glob rfl k0_5.g rfl) pa_nil)))))) pa_nil)))))
            (pss_one (by exact (ps_if (PW.pt (pw_and (pt_val (pe_callB (call_isX hz.zc hf) (by rfl) M.isinstance (by decide +kernel) (pa_cons (pv 2) (pa_cons (pe_glob rfl k0_0.g rfl) pa_nil)))) (pw_and (pt_val (pe_callB (call_isX hz.zc hf) (by rfl) M.isinstance (by decide +kernel) (pa_cons (pv 2) (pa_cons (pe_bltn (v := .ty "ValueError") rfl mve (by decide +kernel) rfl) pa_nil)))) (pw_and1 (pt_not (pt_val (pv 3)))))))
              (pss_one (ps_set (i := 1) sc_l_told.nd rfl (.inl rfl) (pe_lst (pa_cons pe_str pa_nil)))) pss_nil)))))
      (pss_one (ps_ret (pv 1))))), ?_⟩
    refine ⟨by show 1 ≤ sizeLine; decide, fun Z nZ => ?_⟩
    have sZ := same_new (o := .lst [.str "other"]) nZ
    generalize upd H Z (.lst [.str "other"]) = H1 at sZ
    have kZ := Kt.same hT sZ
    have kv1 := kZ.kn hT kv
    refine ⟨v, rfl, v, rfl, kv1, hlen, kZ.tab, fun x n ts W ev hr a wv gv H2 ha hw hg k2 => ?_, fun nr H2 k2 => ?_⟩
    · refine ⟨by show 2 ≤ sizeLine; decide, fun R nR => ?_⟩
      have sR := same_new (o := .lst [.str "read", .ref a]) nR
      exact ⟨.ref R, rfl, q x n ts W ev hr R a wv gv _ upd_same (sR _ _ ha) (hw.tk (Same.tk sR)) (hg.tk (Same.tk sR)) ((kZ.trans k2).trans (Kt.same k2.tab sR))⟩
    · have cv : ∀ C : Addr, ∀ u, RelV (.ref C) u → u = Value.ref C := fun C u h => h
      refine ⟨true, T0.web, fun _ e ne => ?_, fun z => Bool.noConfusion z⟩
      refine ⟨.ref e, rfl, by show 5 ≤ sizeLine; decide, fun tp ntp => ?_⟩
      have sT := same_new (o := .tup [.ref D1, .ref D3, .ref D4, .ref D2, .ref D5]) ntp
      have any : PySem.W.kitAny K (.ref D0) ([D1, D3, D4, D2, D5].map Value.ref) = some false := by
        simp only [List.map_cons, List.map_nil, PySem.W.kitAny, k0_1.k, k0_2.k, k0_3.k, k0_4.k, k0_5.k]
      refine ⟨D0, tp, [D1, D3, D4, D2, D5], false, T0.ec, rfl, rfl, rfl, upd_same, any, ?_⟩
      refine ⟨.ref e, rfl, D0, T0.ec, rfl, rfl, _, _, _, rfl, cv D0, k0_0.k, _, rfl, ?_⟩
      refine ⟨.ref e, rfl, D0, T0.ec, rfl, rfl, _, _, _, rfl, fun u h => h, v0, _, rfl, ?_⟩
      refine ⟨.bl false, rfl, _, rfl, by show 1 ≤ sizeLine; decide, fun R nR => ?_⟩
      have sR := same_new (o := .lst [.str "refused"]) nR
      exact ⟨.ref R, rfl, qe nr R _ upd_same ((kZ.trans k2).trans (Kt.same k2.tab (sT.trans sR)))⟩
end
/-! ### webs as data -/
def tieD (t : Tie) : PyData := .tuple [.int t.one, .int t.other, .str (kindS t.foe)]
def webD (n : Int) (ts : List Tie) : PyData := .tuple [.int n, .tuple (ts.map tieD)]
theorem kind_ok (b : Bool) : (PyData.str (kindS b)).canLay0 = true ∧ (kindS b).cps.size ≤ 100 := by cases b <;> decide +kernel
theorem dp_ties {K : PySem.W.Frag} {H : Hp} : ∀ {vs : List V} {ts : List Tie}, Paired (TieV H) vs ts → DpAll K H vs (ts.map tieD)
  | _, _, .nil => .nil
  | _, _, .cons r t => by
    obtain ⟨a, rfl, e⟩ := r
    exact .cons (.tup (SqT.of e) (.cons (.int _) (.cons (.int _) (.cons (.str _) .nil)))) (dp_ties t)
theorem WebAt.dp {K : PySem.W.Frag} {H : Hp} {v : V} {n : Int} {ts : List Tie} (h : WebAt H v n ts) : Dp K H v (webD n ts) := by
  obtain ⟨a, b, vs, rfl, h1, h2, h3⟩ := h
  exact .tup (SqT.of h1) (.cons (.int _) (.cons (.tup (SqT.of h2) (dp_ties h3)) .nil))
theorem lay_tie (t : Tie) : (tieD t).canLay0 = true := by
  unfold tieD
  have h := (kind_ok t.foe).1
  simp only [PyData.canLay0, PyData.canLayAll0, Bool.true_and, Bool.and_true] at h ⊢
  exact h
theorem lay_ties : ∀ ts : List Tie, PyData.canLayAll0 (ts.map tieD) = true
  | [] => by simp [PyData.canLayAll0]
  | t :: ts => by rw [List.map_cons, PyData.canLayAll0, lay_tie t, lay_ties ts]; rfl
theorem lay_web (n : Int) (ts : List Tie) : (webD n ts).canLay0 = true := by
  unfold webD
  rw [PyData.canLay0, PyData.canLayAll0, PyData.canLayAll0, PyData.canLay0, PyData.canLay0, lay_ties, PyData.canLayAll0]
  rfl
theorem deep_ties : ∀ ts : List Tie, PyData.depthAll (ts.map tieD) ≤ 1
  | [] => by simp [PyData.depthAll]
  | t :: ts => by
    have h := deep_ties ts
    have g : (tieD t).depth = 1 := by simp [tieD, PyData.depth, PyData.depthAll]
    rw [List.map_cons, PyData.depthAll, g]
    omega
theorem shaped_web (n : Int) (ts : List Tie) : SeqAt.shaped (webD n ts) = true := by
  have h := deep_ties ts
  have d : (webD n ts).depth ≤ 3 := by
    simp only [webD, PyData.depth, PyData.depthAll]
    omega
  unfold SeqAt.shaped
  rw [lay_web]
  simp
  omega
/-! ### told as a pair -/
open TL
theorem lay_ints04 : ∀ xs : List Int, PyData.canLayAll0 (xs.map PyData.int) = true
  | [] => by simp [PyData.canLayAll0]
  | x :: xs => by simp [PyData.canLayAll0, PyData.canLay0, lay_ints04 xs]
theorem deep_ints04 : ∀ xs : List Int, PyData.depthAll (xs.map PyData.int) = 0
  | [] => by simp [PyData.depthAll]
  | x :: xs => by simp [PyData.depthAll, PyData.depth, deep_ints04 xs]
def wtD : Option (List Int) → PyData
  | none => .none
  | some ws => .tuple (ws.map PyData.int)
def pairD (n : Int) (ts : List Tie) (W : Option (List Int)) : PyData := .tuple [webD n ts, wtD W]
theorem dp_ints04 {K : PySem.W.Frag} {H : Hp} : ∀ ws : List Int, DpAll K H (ws.map V.int) (ws.map PyData.int)
  | [] => .nil
  | x :: r => .cons (.int x) (dp_ints04 r)
theorem WtAt.dp {K : PySem.W.Frag} {H : Hp} {v : V} {W : Option (List Int)} (h : WtAt H v W) : Dp K H v (wtD W) := by
  cases W with
  | none =>
    obtain rfl : v = .non := h
    exact .non
  | some ws =>
    obtain ⟨a, rfl, h⟩ := h
    exact .tup (SqT.of h) (dp_ints04 ws)
theorem shaped_pair (n : Int) (ts : List Tie) (W : Option (List Int)) : SeqAt.shaped (pairD n ts W) = true := by
  have h := deep_ties ts
  have lw : (wtD W).canLay0 = true := by
    cases W with
    | none => rfl
    | some ws => exact (by unfold wtD; rw [PyData.canLay0]; exact lay_ints04 ws)
  have dw : (wtD W).depth ≤ 1 := by
    cases W with
    | none => simp [wtD, PyData.depth]
    | some ws => simp [wtD, PyData.depth, deep_ints04]
  have d : (pairD n ts W).depth ≤ 4 := by
    simp only [pairD, webD, PyData.depth, PyData.depthAll]
    omega
  unfold SeqAt.shaped
  have l : (pairD n ts W).canLay0 = true := by
    unfold pairD
    rw [PyData.canLay0, PyData.canLayAll0, PyData.canLayAll0, lay_web, lw, PyData.canLayAll0]
    rfl
  rw [l]
  simp
  omega
theorem lay_pair (n : Int) (ts : List Tie) (W : Option (List Int)) : (pairD n ts W).canLay0 = true := SeqAt.canLay_of_shaped (shaped_pair n ts W)
/-! ### read right -/
open TL
def toldD (n : Int) (ts : List Tie) (W : Option (List Int)) : PyData := .list [.str "read", pairD n ts W]
theorem lay_told (n : Int) (ts : List Tie) (W : Option (List Int)) : (toldD n ts W).canLay0 = true := by
  have h1 : (PyData.str ("read" : Str)).canLay0 = true := by decide +kernel
  unfold toldD
  rw [PyData.canLay0, PyData.canLayAll0, PyData.canLayAll0, h1, lay_pair, PyData.canLayAll0]
  rfl
theorem shaped_told (n : Int) (ts : List Tie) (W : Option (List Int)) : SeqAt.shaped (toldD n ts W) = true := by
  have h := SeqAt.depth_of_shaped (shaped_pair n ts W)
  have hd := deep_ties ts
  have dw : (wtD W).depth ≤ 1 := by
    cases W with
    | none => simp [wtD, PyData.depth]
    | some ws => simp [wtD, PyData.depth, deep_ints04]
  have d : (toldD n ts W).depth ≤ 5 := by
    simp only [toldD, pairD, webD, PyData.depth, PyData.depthAll]
    omega
  unfold SeqAt.shaped
  rw [lay_told]
  simp
  omega
def refD : PyData := .list [.str "refused"]
theorem shaped_ref : SeqAt.shaped refD = true := by decide +kernel
theorem lay_ref : refD.canLay0 = true := by decide +kernel
def spRight05 (Ps : List Addr) : Sp := fun vs H Q _ => ∃ x : Str, vs = [.str x] ∧ x.length ≤ 500000 ∧ Tabs Ps H ∧ ∀ H', Kt Ps H H' → Q (.bl true) H'
section
variable {P : Program} {w : World} {K : PySem.W.Frag} {mg : Str → Option Value} {base : Heap}
set_option maxHeartbeats 4000000 in
theorem ok_l_right {f : Addr} {fd : FuncData} {Ps : List Addr} (F : Fun K "_law_right" "_law_right" s_l_right f fd) (D1 : Df P w K mg base 3 "_law_due" ["_law_text"] spDue) (D2 : Df P w K mg base 8 "_law_told" ["_law_thing"] (spTold Ps)) : FnOk P w K mg base CX0 9 f fd ["_law_text"] (spRight05 Ps) := by
  obtain ⟨f1, fd1, G1, g1, k1, b1⟩ := D1
  obtain ⟨f2, fd2, G2, g2, k2, b2⟩ := D2
  refine F.ok sc_l_right (fun vs H Q E h => ?_) (fun cdv A outer s H vs Q E hr h => ?_)
  · obtain ⟨x, rfl, _⟩ := h
    rfl
  · obtain ⟨x, rfl, hx, hT, q⟩ := h
    refine ⟨_, (pss_cons (ps_set (i := 1) sc_l_right.nd rfl (.inl rfl) (pe_call G1 (hr.mono (by decide)) (by rfl) g1 k1 b1 .nil pass0 (pa_cons (pv 0) pa_nil)))
      (pss_cons (ps_if (pt_cmpR op_isN (pv 1) pe_non (nomark _))
        (pss_one (ps_ret (pe_cmpR (op_eqD hr.units) (pe_call G2 hr (by rfl) g2 k2 b2 .nil pass0 (pa_cons (pv 0) pa_nil)) (pe_lst (pa_cons pe_str pa_nil)) (nomark _))))
        pss_nil)
      (pss_one (ps_ret (pe_cmpR (op_eqD hr.units) (pe_call G2 hr (by rfl) g2 k2 b2 .nil pass0 (pa_cons (pv 0) pa_nil)) (pe_lst (pa_cons pe_str (pa_cons (pv 1) pa_nil))) (nomark _)))))), ?_⟩
    refine ⟨.str x, rfl, x, rfl, hx, fun n ts W hr' a wv gv H1 ha hw hg s1 => ?_, fun nr H1 s1 => ?_⟩
    · have k1' := Kt.same hT s1
      refine ⟨.ref a, rfl, rfl, _, rfl, ite2 (fun z => absurd (of_decide_eq_true z) nofun) (fun _ => ?_)⟩
      refine ⟨.str x, rfl, .str x, rfl, trivial, fun y e => by cases e; exact hx, k1'.tab, fun y n' ts' W' e hr2 r a2 wv2 gv2 H2 h2 ha2 hw2 hg2 k2' => ?_, fun nn => absurd ⟨x, rfl, n, ts, W, hr'⟩ nn⟩
      cases e
      obtain ⟨rfl, rfl, rfl⟩ := hr'.uniq hr2
      refine ⟨.ref a, rfl, by show 2 ≤ sizeLine; decide, fun p np => ?_⟩
      have sp := same_new (o := .lst [.str "read", .ref a]) np
      have T1 := k1'.tab
      have ha3 := sp _ _ (k2'.tup T1 ha)
      have hw3 := (hw.tk (k2'.tk T1)).tk (Same.tk sp)
      have hg3 := (hg.tk (k2'.tk T1)).tk (Same.tk sp)
      refine ⟨toldD n ts W, toldD n ts W, .lst (SqL.of (sp _ _ h2)) (.cons (.str _) (.cons (.tup (SqT.of (sp _ _ ha2)) (.cons (hw2.tk (Same.tk sp)).dp (.cons (hg2.tk (Same.tk sp)).dp .nil))) .nil)), .lst (SqL.of upd_same) (.cons (.str _) (.cons (.tup (SqT.of ha3) (.cons hw3.dp (.cons hg3.dp .nil))) .nil)), shaped_told n ts W, shaped_told n ts W, ?_⟩
      rw [PySem.SeqAt.eqv_refl _ (lay_told n ts W)]
      exact q _ ((k1'.trans k2').trans (Kt.same k2'.tab sp))
    · have k1' := Kt.same hT s1
      refine ⟨.non, rfl, rfl, _, rfl, ite2 (fun _ => ?_) (fun z => absurd (by simp) z)⟩
      refine ⟨.str x, rfl, .str x, rfl, trivial, fun y e => by cases e; exact hx, k1'.tab, fun y n' ts' W' e hr2 => ?_, fun nn r H2 h2 k2' => ?_⟩
      · cases e
        exact absurd ⟨n', ts', W', hr2⟩ nr
      · refine ⟨by show 1 ≤ sizeLine; decide, fun p np => ?_⟩
        have sp := same_new (o := .lst [.str "refused"]) np
        refine ⟨refD, refD, .lst (SqL.of (sp _ _ h2)) (.cons (.str _) .nil), .lst (SqL.of upd_same) (.cons (.str _) .nil), shaped_ref, shaped_ref, ?_⟩
        rw [PySem.SeqAt.eqv_refl _ lay_ref]
        exact q _ ((k1'.trans k2').trans (Kt.same k2'.tab sp))
end
/-! ### webs of far numbers written -/
open TL
structure WebS (n : Int) (ts : List Tie) : Prop where
  lo : 1 ≤ n
  hi : n < 10 ^ 31
  few : ts.length ≤ 500
  ok : ∀ t ∈ ts, TieOk n t
theorem WebS.big {n : Int} {ts : List Tie} (h : WebS n ts) : WebBig n ts := ⟨h.lo, h.hi, h.ok⟩
theorem webs_of {n : Int} {ts : List Tie} (h : WebOk n ts) : WebS n ts := ⟨h.lo, Int.lt_of_le_of_lt h.hi (by decide), by have := h.few; omega, h.ok⟩
theorem words_okS {n : Int} {ts : List Tie} {W : Option (List Int)} (ok : WebS n ts) (hw : WtsG ts W) {i : Nat} {t : Tie} (ht : ts[i]? = some t) : ∀ x ∈ wordsL W i t, Word x := by
  obtain ⟨a0, a1, b0, b1, _⟩ := ok.ok t (List.mem_of_getElem? ht)
  have n40 := ok.hi
  intro x hx
  rcases List.mem_append.mp hx with h | h
  · simp only [List.mem_cons, List.not_mem_nil, or_false] at h
    rcases h with rfl | rfl | rfl
    · exact word_num (⟨a0, by omega⟩)
    · exact word_num (⟨b0, by omega⟩)
    · exact kindS_free _
  · cases W with
    | none => cases h
    | some ws =>
      rw [List.mem_singleton.mp h]
      obtain ⟨l, hh⟩ := hw ws rfl
      have li : i < ws.length := by rw [l]; exact (List.getElem?_eq_some_iff.mp ht).1
      rw [List.getD_eq_getElem?_getD, List.getElem?_eq_getElem li]
      exact word_num (good_wt (hh _ (List.getElem_mem li)))
theorem head_okS {n : Int} {ts : List Tie} (ok : WebS n ts) : ∀ x ∈ [sWeb, numS n], Word x := by
  have := ok.lo
  have := ok.hi
  intro x hx
  simp only [List.mem_cons, List.not_mem_nil, or_false] at hx
  rcases hx with rfl | rfl
  · exact web_free
  · exact word_num (⟨by omega, by omega⟩)
theorem lines_okS {n : Int} {ts : List Tie} {W : Option (List Int)} (ok : WebS n ts) (hw : WtsG ts W) : ∀ x ∈ linesL n ts W, 10 ∉ tl x ∧ (tl x).length ≤ 128 := by
  intro x hx
  rcases List.mem_cons.mp hx with rfl | hx
  · exact words_line (head_okS ok) (by show 2 ≤ 4; omega)
  · obtain ⟨r, hr, rfl⟩ := List.mem_map.mp hx
    obtain ⟨i, t, h1, rfl⟩ := rows_at hr
    exact words_line (words_okS ok hw h1) words_len
theorem split_textS {n : Int} {ts : List Tie} {W : Option (List Int)} (ok : WebS n ts) (hw : WtsG ts W) : Txt.split (textS n ts W) sNl = linesL n ts W :=
  split_join tl_sNl (by decide +kernel) (by simp [linesL]) fun p hp => (lines_okS ok hw p hp).1
theorem text_lenS {n : Int} {ts : List Tie} {W : Option (List Int)} (ok : WebS n ts) (hw : WtsG ts W) : (textS n ts W).length ≤ 70000 := by
  rw [len_tl]
  unfold textS
  rw [join_eq, tl_join, tl_sNl]
  refine Nat.le_trans (joinL_len (m := 128) fun p hp => ?_) ?_
  · obtain ⟨z, hz, rfl⟩ := List.mem_map.mp hp
    exact (lines_okS ok hw z hz).2
  · rw [List.length_map, lines_len]
    have := ok.few
    show (ts.length + 1) * (128 + 1) ≤ 70000
    omega
theorem joinL_snoc (S : List Nat) (x : List Nat) : ∀ {l : List (List Nat)}, l ≠ [] → joinL S (l ++ [x]) = joinL S l ++ (S ++ x)
  | [], h => absurd rfl h
  | [p], _ => rfl
  | p :: q :: r, _ => by
    have i := joinL_snoc S x (l := q :: r) (by simp)
    show p ++ (S ++ joinL S ((q :: r) ++ [x])) = p ++ (S ++ joinL S (q :: r)) ++ (S ++ x)
    rw [i]
    simp only [List.append_assoc]
theorem text_snoc {n : Int} {ts : List Tie} {W : Option (List Int)} {i : Nat} {t : Tie} (h : ts[i]? = some t) : textS n (ts.take (i + 1)) W = textS n (ts.take i) W ++ sNl ++ lineS (wordsL W i t) := by
  refine ext_tl ?_
  rw [tl_append, tl_append]
  unfold textS
  rw [join_eq, join_eq, tl_join, tl_join]
  have e : linesL n (ts.take (i + 1)) W = linesL n (ts.take i) W ++ [lineS (wordsL W i t)] := by
    unfold linesL
    rw [rows_take h, List.map_append]
    rfl
  rw [e, List.map_append]
  show joinL (tl sNl) ((linesL n (ts.take i) W).map tl ++ [tl (lineS (wordsL W i t))]) = _
  rw [joinL_snoc _ _ (by simp [linesL]), List.append_assoc]
theorem text_zero (n : Int) (W : Option (List Int)) : ("web " : Str) ++ (toString n : Str) = textS n [] W := by
  refine ext_tl ?_
  rw [tl_append]
  show _ = tl (Txt.join sNl [headS n])
  rw [join_eq]
  show _ = tl (headS n)
  unfold headS
  rw [join_eq, tl_join]
  rfl
theorem grow3 (x a b k : Str) : x ++ ("\n" : Str) ++ a ++ (" " : Str) ++ b ++ (" " : Str) ++ k = x ++ sNl ++ lineS [a, b, k] := by
  refine ext_tl ?_
  unfold lineS
  simp only [join_eq, tl_append, tl_join]
  show tl x ++ tl sNl ++ tl a ++ tl sSp ++ tl b ++ tl sSp ++ tl k = tl x ++ tl sNl ++ (tl a ++ (tl sSp ++ (tl b ++ (tl sSp ++ tl k))))
  simp only [List.append_assoc]
theorem grow4 (x a b k w : Str) : x ++ sNl ++ lineS [a, b, k] ++ (" " : Str) ++ w = x ++ sNl ++ lineS [a, b, k, w] := by
  refine ext_tl ?_
  unfold lineS
  simp only [join_eq, tl_append, tl_join]
  show tl x ++ tl sNl ++ (tl a ++ (tl sSp ++ (tl b ++ (tl sSp ++ tl k)))) ++ tl sSp ++ tl w = tl x ++ tl sNl ++ (tl a ++ (tl sSp ++ (tl b ++ (tl sSp ++ (tl k ++ (tl sSp ++ tl w))))))
  simp only [List.append_assoc]
theorem lens7 {x a b k : Str} (hx : x.length ≤ 70000) (ha : a.length ≤ 31) (hb : b.length ≤ 31) (hk : k.length ≤ 31) : x.length + ("\n" : Str).length ≤ sizeLine ∧ (x ++ ("\n" : Str)).length + a.length ≤ sizeLine ∧ (x ++ ("\n" : Str) ++ a).length + (" " : Str).length ≤ sizeLine ∧ (x ++ ("\n" : Str) ++ a ++ (" " : Str)).length + b.length ≤ sizeLine ∧ (x ++ ("\n" : Str) ++ a ++ (" " : Str) ++ b).length + (" " : Str).length ≤ sizeLine ∧ (x ++ ("\n" : Str) ++ a ++ (" " : Str) ++ b ++ (" " : Str)).length + k.length ≤ sizeLine := by
  have e1 : (" " : Str).length = 1 := by decide
  have e2 : ("\n" : Str).length = 1 := by decide
  rw [sizeLine_eq]
  simp only [app_len, e1, e2]
  omega
theorem lens8 {x y w : Str} (hx : x.length ≤ 70000) (hy : y.length ≤ 128) (hw : w.length ≤ 31) : (x ++ sNl ++ y).length + (" " : Str).length ≤ sizeLine ∧ (x ++ sNl ++ y ++ (" " : Str)).length + w.length ≤ sizeLine := by
  have e1 : (" " : Str).length = 1 := by decide
  have e2 : sNl.length = 1 := by decide
  rw [sizeLine_eq]
  simp only [app_len, e1, e2]
  omega
def spShowS : Sp := fun vs H Q _ => ∃ (wv gv : V) (n : Int) (ts : List Tie) (W : Option (List Int)), vs = [wv, gv] ∧ WebAt H wv n ts ∧ WebS n ts ∧ WtAt H gv W ∧ WtsG ts W ∧ ∀ H', Same H H' → Q (.str (textS n ts W)) H'
section
variable {P : Program} {w : World} {K : PySem.W.Frag} {mg : Str → Option Value} {base : Heap}
set_option maxHeartbeats 4000000 in
theorem ok_l_shown {f : Addr} {fd : FuncData} (F : Fun K "_law_shown" "_law_shown" s_l_shown f fd) (M : Free mg) : FnOk P w K mg base CX0 1 f fd ["_law_web_here", "_law_weights_here"] spShowS := by
  refine F.ok sc_l_shown (fun vs H Q E h => ?_) (fun cdv A outer s H vs Q E hr h => ?_)
  · obtain ⟨wv, gv, n, ts, W, rfl, _⟩ := h
    rfl
  · obtain ⟨wv, gv, n, ts, W, rfl, ⟨wa, wb, us, rfl, hwa, hwb, hp⟩, ok, hW, gW, q⟩ := h
    refine ⟨_, (pss_cons (ps_set (i := 2) sc_l_shown.nd rfl (.inl rfl) (pe_op op_add_str pe_str (pe_callTy call_str_int (by rfl) M.str (by decide +kernel) (pa_cons (pe_ix ix_tup (pv 0) pe_int (fun _ _ => rfl)) pa_nil))))
      (pss_cons (ps_for PassesOwn.never rfl (pi_range1 (by rfl) M.range (pa_cons (pe_callB call_len_seq (by rfl) M.len PySem.boot_len (pa_cons (pe_ix ix_tup (pv 0) pe_int (fun _ _ => rfl)) pa_nil)) pa_nil)) (pg_name (i := 3) sc_l_shown.nd rfl (.inl rfl))
        (pss_cons (ps_asg (pe_ix ix_tup (pe_ix ix_tup (pv 0) pe_int (fun _ _ => rfl)) (pv 3) (fun _ _ => rfl)) (pg_tup rfl (pgs_cons (pg_name (i := 4) sc_l_shown.nd rfl (.inl rfl)) (pgs_cons (pg_name (i := 5) sc_l_shown.nd rfl (.inl rfl)) (pgs_cons (pg_name (i := 6) sc_l_shown.nd rfl (.inl rfl)) pgs_nil)))))
        (pss_cons (ps_set (i := 2) sc_l_shown.nd rfl (.inl rfl) (pe_op op_add_str (pe_op op_add_str (pe_op op_add_str (pe_op op_add_str (pe_op op_add_str (pe_op op_add_str (pv 2) pe_str) (pe_callTy call_str_int (by rfl) M.str (by decide +kernel) (pa_cons (pv 4) pa_nil))) pe_str) (pe_callTy call_str_int (by rfl) M.str (by decide +kernel) (pa_cons (pv 5) pa_nil))) pe_str) (pv 6)))
        (pss_one (ps_if (pt_cmpR op_notN (pv 1) pe_non (nomark _))
          (pss_one (ps_set (i := 2) sc_l_shown.nd rfl (.inl rfl) (pe_op op_add_str (pe_op op_add_str (pv 2) pe_str) (pe_callTy call_str_int (by rfl) M.str (by decide +kernel) (pa_cons (pe_ix ix_tup (pv 1) (pv 3) (fun _ _ => rfl)) pa_nil)))))
          pss_nil)))))
      (pss_one (ps_ret (pv 2))))), ?_⟩
    have lu : us.length = ts.length := Paired.length hp
    have n1 := ok.lo
    have n40 := ok.hi
    have few := ok.few
    have gn : GoodN n := ⟨by omega, by omega⟩
    have ln := (word_num gn).le
    refine ⟨.ref wa, rfl, wa, _, 0, .int n, rfl, rfl, SqT.of hwa, rfl, n, rfl, log_good gn, ("web " : Str), _, rfl, rfl, ?_, ?_⟩
    · have e1 : ("web " : Str).length = 4 := by decide
      rw [e1, sizeLine_eq]
      have : (Str.ofString (toString n)).length ≤ 31 := ln
      omega
    rw [text_zero n W]
    refine ⟨.ref wa, rfl, wa, _, 1, .ref wb, rfl, rfl, SqT.of hwa, rfl, wb, us, rfl, .inr (SqT.of hwb), us.length, rfl, by omega, by omega, ?_⟩
    rw [Int.toNat_natCast]
    refine for_range (lo := 0) (n := us.length) (fun i σ' H' => ∃ y3 y4 y5 y6 : Option V, σ' = [some (.ref wa), some gv, some (.str (textS n (ts.take i) W)), y3, y4, y5, y6] ∧ Same H H') ⟨_, _, _, _, rfl, fun _ _ e => e⟩ ?_ ?_
    · rintro i σ' H2 hi ⟨y3, y4, y5, y6, rfl, s2⟩
      have iu : us[i]? = some us[i] := List.getElem?_eq_getElem hi
      obtain ⟨t, et, c, ec, hc⟩ := Paired.at hp iu
      rw [ec] at iu
      obtain ⟨a0, a1, b0, b1, ne⟩ := id (ok.ok t (List.mem_of_getElem? et))
      have ga : GoodN t.one := ⟨a0, by omega⟩
      have gb : GoodN t.other := ⟨b0, by omega⟩
      have gT : WtsG (ts.take i) W → True := fun _ => trivial
      have tl0 : (textS n (ts.take i) W).length ≤ 70000 := by
        rw [len_tl]
        unfold textS
        rw [join_eq, tl_join, tl_sNl]
        refine Nat.le_trans (joinL_len (m := 128) fun p hp => ?_) ?_
        · obtain ⟨z, hz, rfl⟩ := List.mem_map.mp hp
          refine (lines_okS ok gW z ?_).2
          rcases List.mem_cons.mp hz with h | h
          · exact List.mem_cons.mpr (.inl h)
          · obtain ⟨r, hr', rfl⟩ := List.mem_map.mp h
            obtain ⟨j, t', e', rfl⟩ := rows_at hr'
            refine List.mem_cons_of_mem _ (List.mem_map.mpr ⟨_, ?_, rfl⟩)
            have e2 : ts[j]? = some t' := by
              rw [List.getElem?_take] at e'
              split at e'
              · exact e'
              · cases e'
            refine List.mem_of_getElem? (i := j) ?_
            unfold rowsL
            rw [List.getElem?_mapIdx, e2]
            rfl
        · rw [List.length_map, lines_len, List.length_take]
          show (min i ts.length + 1) * (128 + 1) ≤ 70000
          omega
      have ls := lens7 tl0 (word_num ga).le (word_num gb).le (Word.le (kindS_free t.foe))
      refine ⟨.ref wa, rfl, wa, _, 1, .ref wb, rfl, rfl, SqT.of (s2 _ _ hwa), rfl, .int (0 + (i : Int)), rfl, wb, us, _, .ref c, rfl, rfl, SqT.of (s2 _ _ hwb), by rw [Int.zero_add]; exact atI_nat iu, c, _, rfl, SqT.of (s2 _ _ hc), rfl, _, _, rfl, _, _, rfl, _, _, rfl, rfl, ?_⟩
      refine ⟨.str (textS n (ts.take i) W), rfl, _, _, rfl, rfl, ls.1, .int t.one, rfl, t.one, rfl, log_good ga, _, _, rfl, rfl, ls.2.1, _, _, rfl, rfl, ls.2.2.1, .int t.other, rfl, t.other, rfl, log_good gb, _, _, rfl, rfl, ls.2.2.2.1, _, _, rfl, rfl, ls.2.2.2.2.1, .str (kindS t.foe), rfl, _, _, rfl, rfl, ls.2.2.2.2.2, ?_⟩
      rw [grow3]
      cases W with
      | none =>
        obtain rfl : gv = .non := hW
        refine ⟨.non, rfl, rfl, _, rfl, ite2 (fun e => absurd e (by simp)) (fun _ => ?_)⟩
        rw [text_snoc et]
        exact ⟨_, _, _, _, rfl, s2⟩
      | some ws =>
        obtain ⟨ga', rfl, hga⟩ := hW
        obtain ⟨lw, hw1⟩ := gW ws rfl
        have li : i < ws.length := by omega
        have ew : wordsL (some ws) i t = [numS t.one, numS t.other, kindS t.foe, numS ws[i]] := by
          show [numS t.one, numS t.other, kindS t.foe] ++ [numS (ws.getD i 0)] = _
          rw [List.getD_eq_getElem?_getD, List.getElem?_eq_getElem li]
          rfl
        have gx' : GoodN ws[i] := good_wt (hw1 _ (List.getElem_mem li))
        have wds := words_okS ok gW et
        have wl : (lineS [numS t.one, numS t.other, kindS t.foe]).length ≤ 128 := by
          rw [len_tl]
          exact (words_line (l := [numS t.one, numS t.other, kindS t.foe]) (fun x hx => wds x (by rw [ew]; simp only [List.mem_cons, List.not_mem_nil, or_false] at hx ⊢; rcases hx with h | h | h <;> simp [h])) (by show 3 ≤ 4; omega)).2
        have l8 := lens8 (x := textS n (ts.take i) (some ws)) tl0 wl (word_num gx').le
        refine ⟨.ref ga', rfl, rfl, _, rfl, ite2 (fun _ => ?_) (fun e => absurd (by simp) e)⟩
        refine ⟨_, rfl, _, _, rfl, rfl, l8.1, .ref ga', rfl, .int (0 + (i : Int)), rfl, ga', _, _, .int ws[i], rfl, rfl, SqT.of (s2 _ _ hga), by rw [Int.zero_add]; exact atI_nat (by rw [List.getElem?_map, List.getElem?_eq_getElem li]; rfl), ws[i], rfl, log_good gx', _, _, rfl, rfl, l8.2, ?_⟩
        have key : textS n (ts.take (i + 1)) (some ws) = textS n (ts.take i) (some ws) ++ sNl ++ lineS [numS t.one, numS t.other, kindS t.foe] ++ (" " : Str) ++ numS ws[i] := by rw [text_snoc et, ew, grow4]
        rw [key]
        exact ⟨_, _, _, _, rfl, s2⟩
    · rintro σ' H2 ⟨y3, y4, y5, y6, rfl, s2⟩
      rw [List.take_of_length_le (by omega)]
      exact ⟨_, rfl, q _ s2⟩
end
/-! ### a sign many times over -/
open TL
theorem foldl_reps (c : Nat) : ∀ (n : Nat) (acc : Array Nat), ((List.replicate n #[c]).foldl (· ++ ·) acc).toList = acc.toList ++ List.replicate n c
  | 0, acc => by simp
  | n + 1, acc => by
    rw [List.replicate_succ, List.foldl_cons, foldl_reps c n, Array.toList_append, List.replicate_succ, List.append_assoc]
    rfl
theorem tl_mul1 {c : Nat} {n : Int} (h : 0 ≤ n) : tl (Txt.mul ⟨#[c]⟩ n) = List.replicate n.toNat c := by
  unfold Txt.mul
  by_cases h1 : n < 1
  · rw [if_pos h1, show n.toNat = 0 by omega]
    rfl
  · rw [if_neg h1]
    by_cases h2 : (n == 1 || (⟨#[c]⟩ : Str).length == 0) = true
    · rw [if_pos h2]
      have e : n = 1 := by
        rcases Bool.or_eq_true _ _ |>.mp h2 with h | h
        · exact of_decide_eq_true h
        · cases h
      rw [e]
      rfl
    · rw [if_neg h2]
      show ((List.replicate n.toNat #[c]).foldl (· ++ ·) #[]).toList = _
      rw [foldl_reps]
      rfl
def rRepS : R2 := fun x y H Q => ∃ (c : Nat) (n : Int), x = .str ⟨#[c]⟩ ∧ y = .int n ∧ 0 ≤ n ∧ n ≤ 10000 ∧ ∀ z : Str, tl z = List.replicate n.toNat c → Q (.str z) H
theorem op_repS {X : Cx} : OpR X (binaryOp .Mult) rRepS := by
  intro pins s σ H x y v u Q I rx ry h
  obtain ⟨c, n, rfl, rfl, h0, h1, q⟩ := h
  obtain ⟨t, rfl⟩ := rx
  obtain ⟨t', rfl⟩ := ry
  refine PySem.SB.mul ⟨?_, fun _ _ => ?_, fun _ _ => ?_⟩ fun t'' k => ⟨.str _, H, I.tok k, ⟨_, rfl⟩, q _ (tl_mul1 h0)⟩
  · rw [decide_eq_false (by omega), decide_eq_false (by omega)]
    rfl
  · have l1 : (((⟨#[c]⟩ : Str).length : Nat) : Int) = 1 := rfl
    rw [l1]
    intro z
    have n1 : 1 ≤ n := by omega
    have : (1 : Int) ≤ (2 ^ 63 - 1) / n := Int.le_ediv_of_mul_le (by omega) (by omega)
    omega
  · have l1 : (⟨#[c]⟩ : Str).length = 1 := rfl
    rw [l1]
    simp only [Nat.one_mul]
    refine decide_eq_false ?_
    rw [sizeLine_eq]
    omega
/-- a figure that is no nought, and noughts or nines behind it: a number from 1 on -/
theorem far_num {x : Str} {c d : Nat} {k : Nat} (hc : 49 ≤ c ∧ c ≤ 57) (hd : 48 ≤ d ∧ d ≤ 57) (hk : k ≤ 30) (h : tl x = c :: List.replicate k d) : ∃ n, GoodN n ∧ 1 ≤ n ∧ x = numS n := by
  have hw : wnumB x = true := by
    have hl : x.length = k + 1 := by rw [len_tl, h]; simp
    unfold wnumB
    have ht : x.cps.toList = c :: List.replicate k d := h
    rw [decide_eq_true (show 1 ≤ x.length by omega), decide_eq_true (show x.length ≤ 31 by omega), ht, Bool.true_and, Bool.true_and]
    have e1 : decide ((c :: List.replicate k d).head? = some 48) = false := decide_eq_false (fun z => by have := Option.some.inj z; omega)
    rw [e1, Bool.false_and, Bool.not_false, Bool.true_and, List.all_cons, decide_eq_true (figs_mem c (by omega) (by omega)), Bool.true_and, List.all_eq_true]
    intro y hy
    rw [(List.mem_replicate.mp hy).2]
    exact decide_eq_true (figs_mem d (by omega) (by omega))
  obtain ⟨n, hn, e⟩ := wnum_num hw
  refine ⟨n, hn, ?_, e⟩
  rcases Int.lt_or_le 0 n with z | z
  · omega
  · have n0 : n = 0 := by have := hn.lo; omega
    rw [e, tl_numS hn.lo, n0] at h
    have : (48 : Nat) = c := by
      have e0 : numL (Int.toNat 0) = [48] := by decide +kernel
      rw [e0] at h
      exact (List.cons.inj h).1
    omega
def spFarWeb : Sp := fun vs H Q _ => ∃ (d c : Addr), vs = [.ref d] ∧ Deck H d c ∧ ∀ v n ts H', WebAt H' v n ts → WebS n ts → ts.length ≤ 5 → Deck H' d c → Kp d c H H' → Q v H'
section
variable {P : Program} {w : World} {K : PySem.W.Frag} {mg : Str → Option Value} {base : Heap}
set_option maxHeartbeats 8000000 in
theorem ok_l_far_web {f : Addr} {fd : FuncData} (F : Fun K "_law_far_web" "_law_far_web" s_l_far_web f fd) (M : Free mg) (Dd : Df P w K mg base 1 "_law_draw" ["_law_deck_here", "_law_many"] spDraw) : FnOk P w K mg base CX0 2 f fd ["_law_deck_here"] spFarWeb := by
  obtain ⟨fD, fdD, GD, gD, kD, bD⟩ := Dd
  refine F.ok sc_l_far_web (fun vs H Q E h => ?_) (fun cdv A outer s H vs Q E hr h => ?_)
  · obtain ⟨d, c, rfl, _⟩ := h
    rfl
  · obtain ⟨d, c, rfl, hD, q⟩ := h
    refine ⟨_, (pss_cons (ps_set (i := 1) sc_l_far_web.nd rfl (.inl rfl) (pe_call GD hr (by rfl) gD kD bD .nil pass0 (pa_cons (pv 0) (pa_cons pe_int pa_nil))))
      (Evl.pss_cut (ps_set (i := 2) sc_l_far_web.nd rfl (.inl rfl) (pe_ix ix_list (pe_lst (pa_cons (pe_callTy call_int_str (by rfl) M.int (by decide +kernel) (pa_cons (pe_op op_add_str pe_str (pe_op op_repS pe_str (pv 1))) pa_nil)) (pa_cons (pe_callTy call_int_str (by rfl) M.int (by decide +kernel) (pa_cons (pe_op op_add_str pe_str (pe_op op_repS pe_str (pv 1))) pa_nil)) pa_nil))) (pe_call GD hr (by rfl) gD kD bD .nil pass0 (pa_cons (pv 0) (pa_cons pe_int pa_nil))) (fun _ _ => rfl)))
      (pss_cons (ps_set (i := 3) sc_l_far_web.nd rfl (.inl rfl) (pe_lst pa_nil))
      (pss_cons (ps_for PassesOwn.never rfl (pi_range1 (by rfl) M.range (pa_cons (pe_op op_mul (pe_call GD hr (by rfl) gD kD bD .nil pass0 (pa_cons (pv 0) (pa_cons pe_int pa_nil))) (pe_callTy call_int1 (by rfl) M.int (by decide +kernel) (pa_cons (pe_cmpR op_gt (pv 2) pe_int (nomark _)) pa_nil))) pa_nil)) (pg_name (i := 4) sc_l_far_web.nd rfl (.inl rfl))
        (Evl.pss_cut (ps_set (i := 5) sc_l_far_web.nd rfl (.inl rfl) (pe_ix ix_list (pe_lst (pa_cons (pe_call GD hr (by rfl) gD kD bD .nil pass0 (pa_cons (pv 0) (pa_cons (pv 2) pa_nil))) (pa_cons (pe_op op_sub (pv 2) pe_int) pa_nil))) (pe_call GD hr (by rfl) gD kD bD .nil pass0 (pa_cons (pv 0) (pa_cons pe_int pa_nil))) (fun _ _ => rfl)))
        (pss_one (ps_expr (pe_bm PySem.F.plainAttrs_list PySem.F.slot_list_append PySem.F.type_list_append mt_append (pv 3) (pa_cons (pe_tup (pa_cons (pv 5) (pa_cons (pe_op op_mod (pe_op op_add (pe_op op_add (pv 5) pe_int) (pe_call GD hr (by rfl) gD kD bD .nil pass0 (pa_cons (pv 0) (pa_cons (pe_op op_sub (pv 2) pe_int) pa_nil)))) (pv 2)) (pa_cons (pe_ix ix_list (pe_lst (pa_cons pe_str (pa_cons pe_str pa_nil))) (pe_call GD hr (by rfl) gD kD bD .nil pass0 (pa_cons (pv 0) (pa_cons pe_int pa_nil))) (fun _ _ => rfl)) pa_nil)))) pa_nil))))))
      (pss_one (ps_ret (pe_tup (pa_cons (pv 2) (pa_cons (pe_callTy call_tuple_of (by rfl) M.tuple (by decide +kernel) (pa_cons (pv 3) pa_nil)) pa_nil))))))))), ?_⟩
    refine ⟨.ref d, rfl, d, c, 31, rfl, hD, by decide, by decide, fun z H1 a1 b1 D1 K1 => ?_⟩
    obtain ⟨k, rfl⟩ := Int.eq_ofNat_of_zero_le a1
    have kb : k ≤ 30 := by omega
    refine ⟨fun σ' H' => ∃ n : Int, σ' = [some (.ref d), some (.int k), some (.int n), none, none, none] ∧ 1 ≤ n ∧ n < 10 ^ 31 ∧ Deck H' d c ∧ Kp d c H H', ?_, ?_⟩
    · have go : ∀ (cs ds : Str) (c0 d0 : Nat), (49 ≤ c0 ∧ c0 ≤ 57) → (48 ≤ d0 ∧ d0 ≤ 57) → tl cs = [c0] → ∀ y, tl y = List.replicate (k : Int).toNat d0 → ∃ n, GoodN n ∧ 1 ≤ n ∧ cs ++ y = numS n := fun cs ds c0 d0 h1 h2 e1 y e2 => far_num (c := c0) (d := d0) (k := k) h1 h2 kb (by rw [tl_append, e1, e2]; rfl)
      have ly : ∀ (y : Str) (d0 : Nat), tl y = List.replicate (k : Int).toNat d0 → y.length ≤ 30 := fun y d0 e => by
        rw [len_tl, e, List.length_replicate]
        exact kb
      refine ⟨.int k, rfl, 48, k, by decide +kernel, rfl, by omega, by omega, fun x1 e1 => ?_⟩
      obtain ⟨n1, g1, p1, en1⟩ := go ("1" : Str) ("0" : Str) 49 48 ⟨by decide, by decide⟩ ⟨by decide, by decide⟩ (by decide) x1 e1
      have l1 := ly _ _ e1
      have lc1 : ("1" : Str).length = 1 := by decide
      have lc9 : ("9" : Str).length = 1 := by decide
      refine ⟨("1" : Str), x1, rfl, rfl, by rw [lc1, sizeLine_eq]; omega, _, n1, rfl, by rw [en1]; exact int_numS g1, by rw [app_len, lc1]; omega, .int k, rfl, 57, k, by decide +kernel, rfl, by omega, by omega, fun x2 e2 => ?_⟩
      obtain ⟨n2, g2, p2, en2⟩ := go ("9" : Str) ("9" : Str) 57 57 ⟨by decide, by decide⟩ ⟨by decide, by decide⟩ (by decide) x2 e2
      have l2 := ly _ _ e2
      refine ⟨("9" : Str), x2, rfl, rfl, by rw [lc9, sizeLine_eq]; omega, _, n2, rfl, by rw [en2]; exact int_numS g2, by rw [app_len, lc9]; omega, by show 2 ≤ sizeLine; decide, fun p np => ?_⟩
      refine ⟨.ref d, rfl, d, c, 2, rfl, D1.new np, by decide, by decide, fun v2 H2 a2 b2 D2 K2 => ?_⟩
      have hp := K2 p _ (D1.ned np).1 (D1.ned np).2 upd_same
      have kk := (K1.trans (Kp.new (o := .lst [.int n1, .int n2]) np)).trans K2
      have h2 : v2 = 0 ∨ v2 = 1 := by omega
      rcases h2 with e | e <;> subst e
      · exact ⟨p, _, 0, _, rfl, rfl, SqL.of hp, rfl, n1, rfl, p1, g1.hi, D2, kk⟩
      · exact ⟨p, _, 1, _, rfl, rfl, SqL.of hp, rfl, n2, rfl, p2, g2.hi, D2, kk⟩
    rintro σ' H0 ⟨n, rfl, hn1, hn2, hD0, K0⟩
    have nb : n.natAbs < 2 ^ 120 := by
      have e : (10 : Int) ^ 31 < ((2 ^ 120 : Nat) : Int) := by decide
      generalize (2 : Nat) ^ 120 = m at e ⊢
      generalize (10 : Int) ^ 31 = j at e hn2
      omega
    refine ⟨Nat.zero_le _, fun L nL => ?_⟩
    have hLd := hD0.ned nL
    have nL0 : H L = none := by
      cases e : H L with
      | none => rfl
      | some o =>
        rw [K0 L o hLd.1 hLd.2 e] at nL
        cases nL
    refine ⟨.ref d, rfl, d, c, 6, rfl, hD0.new nL, by decide, by decide, fun v6 H6 a6 b6 D6 K6 => ?_⟩
    have hL6 := K6 _ _ hLd.1 hLd.2 (upd_same (H := H0) (a := L) (o := .lst []))
    have K06 := (K0.trans (Kp.new nL)).trans K6
    refine ⟨.int n, rfl, n, 1, rfl, rfl, .inr ⟨_, rfl, v6, _, rfl, rfl, .inl ⟨by omega, by omega⟩, _, rfl, ?_, ?_, ?_⟩⟩
    · by_cases hb : decide ((1 : Int) < n) = true
      · rw [hb]
        show -(2 ^ 62) ≤ v6 * 1
        omega
      · rw [Bool.not_eq_true] at hb
        rw [hb]
        show -(2 ^ 62) ≤ v6 * 0
        omega
    · by_cases hb : decide ((1 : Int) < n) = true
      · rw [hb]
        show v6 * 1 < 2 ^ 62
        omega
      · rw [Bool.not_eq_true] at hb
        rw [hb]
        show v6 * 0 < 2 ^ 62
        omega
    generalize hN : (v6 * (if decide ((1 : Int) < n) = true then 1 else 0)).toNat = N
    have hN2 : N ≤ 5 ∧ (0 < N → 1 < n) := by
      by_cases hb : (1 : Int) < n
      · rw [if_pos (decide_eq_true hb)] at hN
        exact ⟨by omega, fun _ => hb⟩
      · rw [if_neg (by simpa using hb)] at hN
        exact ⟨by omega, fun z => by omega⟩
    refine for_range (lo := 0) (n := N) (fun i σ' H' => ∃ (y4 y5 : Option V) (vs : List V) (ts : List Tie), σ' = [some (.ref d), some (.int k), some (.int n), some (.ref L), y4, y5] ∧ H' L = some (.lst vs) ∧ Paired (TieV H') vs ts ∧ ts.length = i ∧ (∀ t ∈ ts, TieOk n t) ∧ Deck H' d c ∧ Kp d c H H') ?_ ?_ ?_
    · exact ⟨none, none, [], [], rfl, hL6, .nil, rfl, fun t ht => by simp at ht, D6, K06⟩
    · rintro i σ' H1 hi ⟨y4, y5, vs, ts, rfl, hL, hP, hlen, hok, D1, K1⟩
      have hn := hN2.2 (by omega)
      refine ⟨fun σ' H' => ∃ (y4 : Option V) (one : Int), σ' = [some (.ref d), some (.int k), some (.int n), some (.ref L), y4, some (.int one)] ∧ 0 ≤ one ∧ one < n ∧ H' L = some (.lst vs) ∧ Paired (TieV H') vs ts ∧ Deck H' d c ∧ Kp d c H H', ?_, ?_⟩
      · refine ⟨.ref d, rfl, .int n, rfl, d, c, n, rfl, D1, by omega, nb, fun v1 H2 a1 b1 D2 K2 => ?_⟩
        refine ⟨.int n, rfl, n, 1, rfl, rfl, by show 2 ≤ sizeLine; decide, fun p np => ?_⟩
        refine ⟨.ref d, rfl, d, c, 2, rfl, D2.new np, by decide, by decide, fun v3 H3 a3 b3 D3 K3 => ?_⟩
        have hp := K3 p _ (D2.ned np).1 (D2.ned np).2 upd_same
        have hL3 := K3 _ _ hLd.1 hLd.2 (same_new np _ _ (K2 _ _ hLd.1 hLd.2 hL))
        have hP3 := ties_tk (K3.tk (D2.new np)) (ties_tk (Same.tk (same_new np)) (ties_tk (K2.tk D1) hP))
        have kk := ((K1.trans K2).trans (Kp.new np)).trans K3
        have h2 : v3 = 0 ∨ v3 = 1 := by omega
        rcases h2 with e | e <;> subst e
        · exact ⟨p, _, 0, _, rfl, rfl, SqL.of hp, rfl, _, v1, rfl, a1, b1, hL3, hP3, D3, kk⟩
        · exact ⟨p, _, 1, _, rfl, rfl, SqL.of hp, rfl, _, n - 1, rfl, by omega, by omega, hL3, hP3, D3, kk⟩
      rintro σ' H4 ⟨y, one, rfl, o0, o1, hL4, hP4, D4, K4⟩
      refine ⟨.ref L, rfl, .inl ⟨rfl, _, SqL.of hL4⟩, .int one, rfl, .int one, rfl, one, 1, rfl, rfl, .ref d, rfl, .int n, rfl, n, 1, rfl, rfl, d, c, n - 1, rfl, D4, by omega, by omega, fun v2 H5 a2 b2 D5 K5 => ⟨one + 1, v2, rfl, rfl, .int n, rfl, _, n, rfl, rfl, show (0 : Int) < n by omega, ?_⟩⟩
      refine ⟨by show 2 ≤ sizeLine; decide, fun p np => ⟨.ref d, rfl, d, c, 2, rfl, D5.new np, by decide, by decide, fun v5 H6 a5 b5 D6 K6 => ?_⟩⟩
      have e5 : atI [V.str "friend", V.str "foe"] v5 = some (.str (kindS (decide (v5 = 1)))) := by
        have h01 : v5 = 0 ∨ v5 = 1 := by omega
        rcases h01 with e | e <;> subst e <;> rfl
      have ok1 : TieOk n ⟨one, (one + 1 + v2) % n, decide (v5 = 1)⟩ := ⟨o0, o1, (mod_rng (by omega)).1, (mod_rng (by omega)).2, other_ne o0 o1 a2 b2⟩
      refine ⟨p, _, v5, _, rfl, rfl, SqL.of (K6 p _ (D5.ned np).1 (D5.ned np).2 upd_same), e5, by show 3 ≤ sizeLine; decide, fun q2 nq => ?_⟩
      have hL5 : H6 L = some (.lst vs) := K6 _ _ hLd.1 hLd.2 (same_new np _ _ (K5 _ _ hLd.1 hLd.2 hL4))
      have sq := same_new (o := .tup [.int one, .int ((one + 1 + v2) % n), .str (kindS (decide (v5 = 1)))]) nq
      have hL7 := sq _ _ hL5
      have hP7 := ties_tk (Same.tk sq) (ties_tk (K6.tk (D5.new np)) (ties_tk (Same.tk (same_new np)) (ties_tk (K5.tk D4) hP4)))
      have hlv : vs.length = ts.length := Paired.length hP4
      refine ⟨L, vs, _, rfl, rfl, hL7, by rw [sizeLine_eq]; omega, ?_⟩
      refine ⟨_, _, vs ++ [.ref q2], ts ++ [⟨one, (one + 1 + v2) % n, decide (v5 = 1)⟩], rfl, upd_same, Paired.snoc (ties_tk (tk_lst hL7) hP7) ⟨q2, rfl, tk_lst hL7 _ _ upd_same⟩, by rw [List.length_append, hlen]; rfl, fun t' ht => ?_, (D6.new nq).mut hLd.1 hLd.2, ((((K4.trans K5).trans (Kp.new np)).trans K6).trans (Kp.new nq)).mut nL0⟩
      rcases List.mem_append.mp ht with h | h
      · exact hok t' h
      · rw [List.mem_singleton.mp h]
        exact ok1
    · rintro σ' H1 ⟨y4, y5, vs, ts, rfl, hL, hP, hlen, hok, D1, K1⟩
      refine ⟨.int n, rfl, .ref L, rfl, L, vs, rfl, .inl ⟨SqL.of hL, fun b nb => ⟨by show 2 ≤ sizeLine; decide, fun a na => ?_⟩⟩⟩
      have s2 := (same_new (o := .tup vs) nb).trans (same_new (o := .tup [.int n, .ref b]) na)
      exact q _ n ts _ ⟨a, b, vs, rfl, upd_same, same_new na _ _ upd_same, ties_tk (Same.tk s2) hP⟩ ⟨hn1, hn2, by omega, hok⟩ (by omega) (D1.same s2) (K1.trans (Same.kp s2))
end
/-! ### texts bent: lengths -/
open TL
/-- the signs of the parts, and one for each part -/
def wsum (ys : List Str) : Nat := (ys.map (·.length)).sum + ys.length
theorem wsum_app (a b : List Str) : wsum (a ++ b) = wsum a + wsum b := by
  unfold wsum
  rw [List.map_append, List.sum_append, List.length_append]
  omega
theorem wsum_one (y : Str) : wsum [y] = y.length + 1 := rfl
theorem wsum_cons (y : Str) (r : List Str) : wsum (y :: r) = y.length + 1 + wsum r := wsum_app [y] r
theorem wsum_mem {ys : List Str} {y : Str} (h : y ∈ ys) : y.length + 1 ≤ wsum ys := by
  induction ys with
  | nil => cases h
  | cons a r ih =>
    rw [wsum_cons]
    rcases List.mem_cons.mp h with rfl | h
    · omega
    · have := ih h
      omega
theorem wsum_len (ys : List Str) : ys.length ≤ wsum ys := by unfold wsum; omega
theorem wsum_take (ys : List Str) (i : Nat) : wsum (ys.take i) + wsum (ys.drop i) = wsum ys := by rw [← wsum_app, List.take_append_drop]
theorem wsum_erase (ys : List Str) (i : Nat) : wsum (ys.eraseIdx i) ≤ wsum ys := by
  rw [List.eraseIdx_eq_take_drop_succ, wsum_app]
  have h1 := wsum_take ys i
  have h2 : wsum (ys.drop (i + 1)) ≤ wsum (ys.drop i) := by
    cases e : ys.drop i with
    | nil =>
      have : ys.drop (i + 1) = [] := List.drop_eq_nil_of_le (by have := List.drop_eq_nil_iff.mp e; omega)
      rw [this]
      exact Nat.le_refl _
    | cons a r =>
      have : ys.drop (i + 1) = r := by
        rw [← List.drop_drop, e]
        rfl
      rw [this, wsum_cons]
      omega
  omega
theorem wsum_set (ys : List Str) (i : Nat) (y : Str) : wsum (ys.set i y) ≤ wsum ys + y.length + 1 := by
  induction ys generalizing i with
  | nil => simp [wsum]
  | cons a r ih =>
    cases i with
    | zero =>
      rw [List.set_cons_zero, wsum_cons, wsum_cons]
      omega
    | succ i =>
      rw [List.set_cons_succ, wsum_cons, wsum_cons]
      have := ih i
      omega
theorem spl_wsum (S : List Nat) : ∀ (l acc : List Nat) (k : Nat), ((spl S k acc l).map (·.length + 1)).sum ≤ acc.length + l.length + l.length + 1
  | [], acc, k => by
    rw [spl_nil]
    simp
  | c :: r, acc, 0 => by
    by_cases h : pre S (c :: r) = true
    · rw [spl_hit h]
      have := spl_wsum S r [] (S.length - 1)
      simp only [List.map_cons, List.sum_cons, List.length_nil, List.length_cons] at this ⊢
      omega
    · rw [Bool.not_eq_true] at h
      rw [spl_miss h]
      have := spl_wsum S r (acc ++ [c]) 0
      simp only [List.length_append, List.length_cons, List.length_nil] at this ⊢
      omega
  | c :: r, acc, k + 1 => by
    have := spl_wsum S r acc k
    show ((spl S k acc r).map (·.length + 1)).sum ≤ _
    simp only [List.length_cons] at this ⊢
    omega
theorem wsum_tl (ys : List Str) : wsum ys = ((ys.map tl).map (·.length + 1)).sum := by
  induction ys with
  | nil => rfl
  | cons a r ih =>
    rw [wsum_cons, ih]
    simp only [List.map_cons, List.sum_cons]
    rw [len_tl]
theorem split_wsum' {x s : Str} (hs : tl s ≠ []) (hk : s.cps.all (· < 256) = true) : wsum (Txt.split x s) ≤ 2 * x.length + 1 := by
  rw [wsum_tl, split_spl x s hs (TL.kind_ok hk)]
  have := spl_wsum (tl s) (tl x) [] 0
  rw [len_tl]
  simp only [List.length_nil] at this
  omega
theorem split_wsumL (x : Str) : wsum (Txt.split x sNl) ≤ 2 * x.length + 1 := split_wsum' (by decide) (by decide +kernel)
theorem split_wsumW (x : Str) : wsum (Txt.split x sSp) ≤ 2 * x.length + 1 := split_wsum' (by decide) (by decide +kernel)
theorem joinL_wsum {s : Nat} : ∀ (l : List (List Nat)), (joinL [s] l).length ≤ (l.map (·.length + 1)).sum
  | [] => by simp [joinL]
  | [p] => by simp [joinL]
  | p :: q :: r => by
    have := joinL_wsum (s := s) (q :: r)
    show (p ++ ([s] ++ joinL [s] (q :: r))).length ≤ _
    rw [List.length_append, List.length_append, List.map_cons, List.sum_cons, List.length_singleton]
    omega
theorem join_len {s : Nat} {y : Str} (e : tl y = [s]) (ys : List Str) : (Txt.join y ys).length ≤ wsum ys := by
  rw [len_tl, join_eq, tl_join, e, wsum_tl]
  exact joinL_wsum _
theorem join_fits {s : Nat} {y : Str} (e : tl y = [s]) (ys : List Str) (h : wsum ys ≤ 1000000) : (ys.map (·.length)).sum + ys.length * y.length ≤ 16777216 := by
  have : y.length = 1 := by rw [len_tl, e]; rfl
  rw [this]
  unfold wsum at h
  omega
theorem cutS_le (z : Str) (lo hi : Option Int) : (cutS z lo hi).length ≤ z.length := cutS_length z lo hi
def spSigns : Sp := fun vs H Q _ => vs = [] ∧ ∀ x : Str, 1 ≤ x.length → x.length ≤ 200 → Q (.str x) H
def spOtherwise : Sp := fun vs H Q _ => ∃ (d c : Addr) (x : Str), vs = [.ref d, .str x] ∧ Deck H d c ∧ x.length ≤ 100000 ∧ ∀ (y : Str) H', y.length ≤ 3 * x.length + 100 → Deck H' d c → Kp d c H H' → Q (.str y) H'
section
variable {P : Program} {w : World} {K : PySem.W.Frag} {mg : Str → Option Value} {base : Heap}
theorem ok_l_signs {f : Addr} {fd : FuncData} (F : Fun K "_law_signs" "_law_signs" s_l_signs f fd) : FnOk P w K mg base CX0 1 f fd [] spSigns := by
  refine F.ok sc_l_signs (fun vs H Q E h => ?_) (fun cdv A outer s H vs Q E hr h => ?_)
  · obtain ⟨rfl, _⟩ := h
    rfl
  · obtain ⟨rfl, q⟩ := h
    refine ⟨_, (pss_cons (ps_set (i := 0) sc_l_signs.nd rfl (.inl rfl) pe_str) (pss_one (ps_ret (pe_op op_add_str (pv 0) pe_str)))), ?_⟩
    refine ⟨_, rfl, _, _, rfl, rfl, by decide +kernel, q _ (by decide +kernel) (by decide +kernel)⟩
end
/-! ### words otherwise -/
open TL
def letS : Str := "abcdefghijklmnopqrstuvwxyz"
theorem let_at : ∀ v : Nat, v < 26 → letS.cps.toList[v]? = some (97 + v) := by decide +kernel
section
variable {P : Program} {w : World} {K : PySem.W.Frag} {mg : Str → Option Value} {base : Heap}
set_option maxHeartbeats 8000000 in
theorem ok_l_word_otherwise {f : Addr} {fd : FuncData} (F : Fun K "_law_word_otherwise" "_law_word_otherwise" s_l_word_otherwise f fd) (Dd : Df P w K mg base 1 "_law_draw" ["_law_deck_here", "_law_many"] spDraw) : FnOk P w K mg base CX0 2 f fd ["_law_deck_here", "_law_word"] spOtherwise := by
  obtain ⟨fD, fdD, GD, gD, kD, bD⟩ := Dd
  refine F.ok sc_l_word_otherwise (fun vs H Q E h => ?_) (fun cdv A outer s H vs Q E hr h => ?_)
  · obtain ⟨d, c, x, rfl, _⟩ := h
    rfl
  · obtain ⟨d, c, x, rfl, hD, hx, q⟩ := h
    refine ⟨_, (pss_cons (ps_set (i := 2) sc_l_word_otherwise.nd rfl (.inl rfl) pe_str)
      (pss_cons (ps_set (i := 3) sc_l_word_otherwise.nd rfl (.inl rfl) (pe_lst (pa_cons (pe_op op_add_str pe_str (pv 1)) (pa_cons (pe_op op_add_str pe_str (pv 1)) (pa_cons (pe_op op_add_str pe_str (pv 1)) (pa_cons (pe_op op_add_str (pv 1) (pv 1)) (pa_cons (pe_slice sl_str (pv 1) po_none (po_some (pe_un un_neg pe_int))) (pa_cons pe_str (pa_cons pe_str (pa_cons pe_str (pa_cons pe_str (pa_cons pe_str (pa_cons pe_str (pa_cons pe_str pa_nil))))))))))))))
      (pss_cons (ps_set (i := 3) sc_l_word_otherwise.nd rfl (.inl rfl) (pe_op op_cat (pv 3) (pe_lst (pa_cons pe_str (pa_cons (pe_op op_add_str pe_str (pe_op op_repS pe_str pe_int)) (pa_cons (pe_op op_repS pe_str pe_int) (pa_cons (pe_op op_repS pe_str pe_int) (pa_cons (pe_upper (pv 1)) (pa_cons pe_str (pa_cons pe_str (pa_cons pe_str (pa_cons pe_str pa_nil))))))))))))
      (pss_one (ps_ret (pe_ix ix_list (pe_op op_cat (pv 3) (pe_lst (pa_cons (pe_ix ix_str (pv 2) (pe_call GD hr (by rfl) gD kD bD .nil pass0 (pa_cons (pv 0) (pa_cons pe_int pa_nil))) (fun _ _ => rfl)) pa_nil))) (pe_call GD hr (by rfl) gD kD bD .nil pass0 (pa_cons (pv 0) (pa_cons pe_int pa_nil))) (fun _ _ => rfl))))))), ?_⟩
    have big : ∀ n : Nat, n ≤ 1000000 → n ≤ sizeLine := fun n h => by rw [sizeLine_eq]; omega
    have c1 : ∀ y : Str, y.length = 1 → y.length + x.length ≤ sizeLine := fun y h => big _ (by omega)
    refine ⟨.str x, rfl, ("0" : Str), x, rfl, rfl, c1 _ (by decide), .str x, rfl, ("+" : Str), x, rfl, rfl, c1 _ (by decide), .str x, rfl, ("-" : Str), x, rfl, rfl, c1 _ (by decide), .str x, rfl, .str x, rfl, x, x, rfl, rfl, big _ (by omega), .str x, rfl, 1, rfl, ?_⟩
    refine ⟨-1, rfl, x, rfl, big _ (by omega), by show 12 ≤ sizeLine; decide, fun L nL => ?_⟩
    have eL : ([V.str (("0" : Str) ++ x), .str (("+" : Str) ++ x), .str (("-" : Str) ++ x), .str (x ++ x), .str (cutS x none (some (-1))), .str ("foe" : Str), .str ("friend" : Str), .str ("foes" : Str), .str ("" : Str), .str ("web" : Str), .str ("0" : Str), .str ("1" : Str)]) = ([("0" : Str) ++ x, ("+" : Str) ++ x, ("-" : Str) ++ x, x ++ x, cutS x none (some (-1)), ("foe" : Str), ("friend" : Str), ("foes" : Str), ("" : Str), ("web" : Str), ("0" : Str), ("1" : Str)]).map V.str := rfl
    have lL : ∀ y ∈ [("0" : Str) ++ x, ("+" : Str) ++ x, ("-" : Str) ++ x, x ++ x, cutS x none (some (-1)), ("foe" : Str), ("friend" : Str), ("foes" : Str), ("" : Str), ("web" : Str), ("0" : Str), ("1" : Str)], y.length ≤ 3 * x.length + 100 := by
      have k1 : ("0" : Str).length = 1 := by decide
      have k2 : ("+" : Str).length = 1 := by decide
      have k3 : ("-" : Str).length = 1 := by decide
      have k4 : ("foe" : Str).length = 3 := by decide
      have k5 : ("friend" : Str).length = 6 := by decide
      have k6 : ("foes" : Str).length = 4 := by decide
      have k7 : ("" : Str).length = 0 := by decide
      have k8 : ("web" : Str).length = 3 := by decide
      have k9 : ("1" : Str).length = 1 := by decide
      have k10 := cutS_le x none (some (-1))
      intro y hy
      simp only [List.mem_cons, List.not_mem_nil, or_false] at hy
      rcases hy with rfl | rfl | rfl | rfl | rfl | rfl | rfl | rfl | rfl | rfl | rfl | rfl <;> (try simp only [app_len]) <;> omega
    generalize [("0" : Str) ++ x, ("+" : Str) ++ x, ("-" : Str) ++ x, x ++ x, cutS x none (some (-1)), ("foe" : Str), ("friend" : Str), ("foes" : Str), ("" : Str), ("web" : Str), ("0" : Str), ("1" : Str)] = l1 at eL lL
    have n12 : l1.length = 12 := by
      have := congrArg List.length eL
      rw [List.length_map] at this
      exact this.symm
    rw [eL]
    have sL := same_new (o := .lst (l1.map V.str)) nL
    have hL := upd_same (H := H) (a := L) (o := .lst (l1.map V.str))
    have D1 := hD.new (o := .lst (l1.map V.str)) nL
    have K1 := Kp.new (d := d) (c := c) (o := .lst (l1.map V.str)) nL
    generalize upd H L (.lst (l1.map V.str)) = H1 at sL hL D1 K1
    refine ⟨.ref L, rfl, 48, 31, by decide +kernel, rfl, by decide, by decide, fun z1 e1 => ?_⟩
    have m1 : z1.length = 31 := by rw [len_tl, e1, List.length_replicate]; rfl
    refine ⟨("1" : Str), z1, rfl, rfl, by rw [show ("1" : Str).length = 1 from by decide]; exact big _ (by omega), 57, 31, by decide +kernel, rfl, by decide, by decide, fun z2 e2 => ?_⟩
    have m2 : z2.length = 31 := by rw [len_tl, e2, List.length_replicate]; rfl
    refine ⟨57, 32, by decide +kernel, rfl, by decide, by decide, fun z3 e3 => ?_⟩
    have m3 : z3.length = 32 := by rw [len_tl, e3, List.length_replicate]; rfl
    refine ⟨.str x, rfl, ⟨_, rfl⟩, x, rfl, rfl, by omega, by show 9 ≤ sizeLine; decide, fun L2 nL2 => ?_⟩
    have eL2 : ([V.str ("2" : Str), .str (("1" : Str) ++ z1), .str z2, .str z3, .str (Txt.upper x), .str ("1.0" : Str), .str ("1_0" : Str), .str ("40" : Str), .str ("1,000" : Str)]) = ([("2" : Str), ("1" : Str) ++ z1, z2, z3, Txt.upper x, ("1.0" : Str), ("1_0" : Str), ("40" : Str), ("1,000" : Str)]).map V.str := rfl
    have lL2 : ∀ y ∈ [("2" : Str), ("1" : Str) ++ z1, z2, z3, Txt.upper x, ("1.0" : Str), ("1_0" : Str), ("40" : Str), ("1,000" : Str)], y.length ≤ 3 * x.length + 100 := by
      have k1 : ("2" : Str).length = 1 := by decide
      have k2 : ("1" : Str).length = 1 := by decide
      have k3 : ("1.0" : Str).length = 3 := by decide
      have k4 : ("1_0" : Str).length = 3 := by decide
      have k5 : ("40" : Str).length = 2 := by decide
      have k6 : ("1,000" : Str).length = 5 := by decide
      have k7 := PyProof.Rows.len_upper x
      intro y hy
      simp only [List.mem_cons, List.not_mem_nil, or_false] at hy
      rcases hy with rfl | rfl | rfl | rfl | rfl | rfl | rfl | rfl | rfl <;> (try simp only [app_len]) <;> omega
    generalize [("2" : Str), ("1" : Str) ++ z1, z2, z3, Txt.upper x, ("1.0" : Str), ("1_0" : Str), ("40" : Str), ("1,000" : Str)] = l2 at eL2 lL2
    have n9 : l2.length = 9 := by
      have := congrArg List.length eL2
      rw [List.length_map] at this
      exact this.symm
    rw [eL2]
    have sL2 := same_new (o := .lst (l2.map V.str)) nL2
    have hL2 := upd_same (H := H1) (a := L2) (o := .lst (l2.map V.str))
    have D2 := D1.new (o := .lst (l2.map V.str)) nL2
    have K2 := K1.trans (Kp.new (d := d) (c := c) (o := .lst (l2.map V.str)) nL2)
    have hL1 := sL2 _ _ hL
    generalize upd H1 L2 (.lst (l2.map V.str)) = H2 at sL2 hL2 hL1 D2 K2
    refine ⟨L, L2, _, _, rfl, rfl, hL1, hL2, by rw [List.length_map, List.length_map]; exact big _ (by omega), fun L3 nL3 => ?_⟩
    rw [← List.map_append]
    have sL3 := same_new (o := .lst ((l1 ++ l2).map V.str)) nL3
    have hL3 := upd_same (H := H2) (a := L3) (o := .lst ((l1 ++ l2).map V.str))
    have D3 := D2.new (o := .lst ((l1 ++ l2).map V.str)) nL3
    have K3 := K2.trans (Kp.new (d := d) (c := c) (o := .lst ((l1 ++ l2).map V.str)) nL3)
    have nd3 := D2.ned nL3
    generalize upd H2 L3 (.lst ((l1 ++ l2).map V.str)) = H3 at sL3 hL3 D3 K3
    refine ⟨.ref L3, rfl, .str letS, rfl, .ref d, rfl, d, c, 26, rfl, D3, by decide, by decide, fun v H4 a4 b4 D4 K4 => ?_⟩
    obtain ⟨j, rfl⟩ := Int.eq_ofNat_of_zero_le a4
    have hL4 := K4 _ _ nd3.1 nd3.2 hL3
    refine ⟨letS, j, 97 + j, rfl, rfl, by decide +kernel, atI_nat (let_at j (by omega)), by show 1 ≤ sizeLine; decide, fun L5 nL5 => ?_⟩
    have s5 := same_new (o := .lst [.str ⟨#[97 + j]⟩]) nL5
    have hL5 := upd_same (H := H4) (a := L5) (o := .lst [.str ⟨#[97 + j]⟩])
    have D5 := D4.new (o := .lst [.str ⟨#[97 + j]⟩]) nL5
    have K5 := (K3.trans K4).trans (Kp.new (d := d) (c := c) (o := .lst [.str ⟨#[97 + j]⟩]) nL5)
    have hL45 := s5 _ _ hL4
    generalize upd H4 L5 (.lst [.str ⟨#[97 + j]⟩]) = H5 at s5 hL5 D5 K5 hL45
    refine ⟨L3, L5, _, _, rfl, rfl, hL45, hL5, by rw [List.length_map, List.length_append]; exact big _ (by simp only [List.length_cons, List.length_nil]; omega), fun L6 nL6 => ?_⟩
    have e6 : (l1 ++ l2).map V.str ++ [V.str ⟨#[97 + j]⟩] = (l1 ++ l2 ++ [(⟨#[97 + j]⟩ : Str)]).map V.str := by simp only [List.map_append, List.map_cons, List.map_nil]
    rw [e6]
    have s6 := same_new (o := .lst ((l1 ++ l2 ++ [(⟨#[97 + j]⟩ : Str)]).map V.str)) nL6
    have hL6 := upd_same (H := H5) (a := L6) (o := .lst ((l1 ++ l2 ++ [(⟨#[97 + j]⟩ : Str)]).map V.str))
    have D6 := D5.new (o := .lst ((l1 ++ l2 ++ [(⟨#[97 + j]⟩ : Str)]).map V.str)) nL6
    have K6 := K5.trans (Kp.new (d := d) (c := c) (o := .lst ((l1 ++ l2 ++ [(⟨#[97 + j]⟩ : Str)]).map V.str)) nL6)
    have nd6 := D5.ned nL6
    generalize upd H5 L6 (.lst ((l1 ++ l2 ++ [(⟨#[97 + j]⟩ : Str)]).map V.str)) = H6 at s6 hL6 D6 K6
    refine ⟨.ref d, rfl, d, c, 22, rfl, D6, by decide, by decide, fun v2 H7 a7 b7 D7 K7 => ?_⟩
    have hL7 := K7 _ _ nd6.1 nd6.2 hL6
    have n22 : (l1 ++ l2 ++ [(⟨#[97 + j]⟩ : Str)]).length = 22 := by rw [List.length_append, List.length_append, n12, n9]; rfl
    obtain ⟨y, g1, g2⟩ := getI (xs := (l1 ++ l2 ++ [(⟨#[97 + j]⟩ : Str)]).map V.str) a7 (by rw [List.length_map, n22]; omega)
    rw [List.getElem?_map] at g2
    obtain ⟨z, hz, rfl⟩ := Option.map_eq_some_iff.mp g2
    refine ⟨L6, _, v2, .str z, rfl, rfl, SqL.of hL7, g1, ?_⟩
    refine q z _ ?_ D7 (K6.trans K7)
    rcases List.mem_append.mp (List.mem_of_getElem? hz) with h | h
    · rcases List.mem_append.mp h with h | h
      · exact lL z h
      · exact lL2 z h
    · rw [List.mem_singleton.mp h]
      show 1 ≤ _
      omega
end
/-! ### texts bent -/
open TL
theorem ixN_of5 {n : Nat} {k : Int} (h0 : 0 ≤ k) (h1 : k < (n : Int)) : ixN n k = some k.toNat := by
  unfold ixN
  rw [if_pos h0, if_pos h1]
theorem erase_mapS : ∀ (l : List Str) (j : Nat), (l.map V.str).eraseIdx j = (l.eraseIdx j).map V.str
  | [], _ => rfl
  | _ :: _, 0 => rfl
  | x :: l, j + 1 => by
    show V.str x :: (l.map V.str).eraseIdx j = V.str x :: (l.eraseIdx j).map V.str
    rw [erase_mapS l j]
def spBent : Sp := fun vs H Q _ => ∃ (d c : Addr) (x : Str), vs = [.ref d, .str x] ∧ Deck H d c ∧ x.length ≤ 70000 ∧ ∀ (y : Str) H', y.length ≤ 500000 → Deck H' d c → Kp d c H H' → Q (.str y) H'
section
variable {P : Program} {w : World} {K : PySem.W.Frag} {mg : Str → Option Value} {base : Heap}
set_option maxHeartbeats 8000000 in
theorem ok_l_bent {f : Addr} {fd : FuncData} (F : Fun K "_law_bent" "_law_bent" s_l_bent f fd) (M : Free mg) (Dd : Df P w K mg base 1 "_law_draw" ["_law_deck_here", "_law_many"] spDraw) (Ds : Df P w K mg base 1 "_law_signs" [] spSigns) (Do : Df P w K mg base 2 "_law_word_otherwise" ["_law_deck_here", "_law_word"] spOtherwise) : FnOk P w K mg base CX0 3 f fd ["_law_deck_here", "_law_text"] spBent := by
  obtain ⟨fD, fdD, GD, gD, kD, bD⟩ := Dd
  obtain ⟨fS, fdS, GS, gS, kS, bS⟩ := Ds
  obtain ⟨fO, fdO, GO, gO, kO, bO⟩ := Do
  refine F.ok sc_l_bent (fun vs H Q E h => ?_) (fun cdv A outer s H vs Q E hr h => ?_)
  · obtain ⟨d, c, x, rfl, _⟩ := h
    rfl
  · obtain ⟨d, c, x, rfl, hD, hx, q⟩ := h
    refine ⟨_, (pss_cons (ps_set (i := 2) sc_l_bent.nd rfl (.inl rfl) (pe_call GD (hr.mono (by decide)) (by rfl) gD kD bD .nil pass0 (pa_cons (pv 0) (pa_cons pe_int pa_nil))))
      (pss_cons (ps_set (i := 3) sc_l_bent.nd rfl (.inl rfl) (pe_call GD (hr.mono (by decide)) (by rfl) gD kD bD .nil pass0 (pa_cons (pv 0) (pa_cons (pe_op op_add (pe_callB call_len_str (by rfl) M.len PySem.boot_len (pa_cons (pv 1) pa_nil)) pe_int) pa_nil))))
      (Evl.pss_cut (ps_set (i := 4) sc_l_bent.nd rfl (.inl rfl) (pe_ix ix_list (pe_lst (pa_cons pe_str (pa_cons (pe_call0 GS (hr.mono (by decide)) (by rfl) gS kS bS .nil pass0) pa_nil))) (pe_call GD (hr.mono (by decide)) (by rfl) gD kD bD .nil pass0 (pa_cons (pv 0) (pa_cons pe_int pa_nil))) (fun _ _ => rfl)))
      (Evl.pss_cut (ps_set (i := 4) sc_l_bent.nd rfl (.inl rfl) (pe_ix ix_str (pv 4) (pe_call GD (hr.mono (by decide)) (by rfl) gD kD bD .nil pass0 (pa_cons (pv 0) (pa_cons (pe_callB call_len_str (by rfl) M.len PySem.boot_len (pa_cons (pv 4) pa_nil)) pa_nil))) (fun _ _ => rfl)))
      (pss_cons (ps_if (pt_cmpR op_lt (pv 2) pe_int (nomark _)) (pss_one (ps_ret (pe_ix ix_list (pe_lst (pa_cons (pe_op op_add_str (pe_op op_add_str (pe_slice sl_str (pv 1) po_none (po_some (pv 3))) (pv 4)) (pe_slice sl_str (pv 1) (po_some (pv 3)) po_none)) (pa_cons (pe_op op_add_str (pe_op op_add_str (pe_slice sl_str (pv 1) po_none (po_some (pv 3))) (pv 4)) (pe_slice sl_str (pv 1) (po_some (pe_op op_add (pv 3) pe_int)) po_none)) (pa_cons (pe_op op_add_str (pe_slice sl_str (pv 1) po_none (po_some (pv 3))) (pe_slice sl_str (pv 1) (po_some (pe_op op_add (pv 3) pe_int)) po_none)) pa_nil)))) (pv 2) (fun _ _ => rfl)))) pss_nil)
      (pss_cons (ps_if (pt_cmpR op_eq (pv 2) pe_int (nomark _)) (pss_one (ps_ret (pe_ix ix_list (pe_lst (pa_cons (pe_op op_add_str (pv 1) pe_str) (pa_cons (pe_op op_add_str pe_str (pv 1)) (pa_cons (pe_op op_add_str (pv 1) pe_str) (pa_cons (pe_op op_add_str pe_str (pv 1)) pa_nil))))) (pe_call GD (hr.mono (by decide)) (by rfl) gD kD bD .nil pass0 (pa_cons (pv 0) (pa_cons pe_int pa_nil))) (fun _ _ => rfl)))) pss_nil)
      (pss_cons (ps_set (i := 5) sc_l_bent.nd rfl (.inl rfl) (pe_split (pv 1) pe_str))
      (pss_cons (ps_set (i := 3) sc_l_bent.nd rfl (.inl rfl) (pe_call GD (hr.mono (by decide)) (by rfl) gD kD bD .nil pass0 (pa_cons (pv 0) (pa_cons (pe_callB call_len_seq (by rfl) M.len PySem.boot_len (pa_cons (pv 5) pa_nil)) pa_nil))))
      (Evl.pss_cut (ps_if (pt_cmpR op_eq (pv 2) pe_int (nomark _)) (pss_one (ps_expr (pe_bm PySem.F.plainAttrs_list PySem.F.slot_list_insert PySem.F.type_list_insert mt_insert (pv 5) (pa_cons (pe_call GD (hr.mono (by decide)) (by rfl) gD kD bD .nil pass0 (pa_cons (pv 0) (pa_cons (pe_op op_add (pe_callB call_len_seq (by rfl) M.len PySem.boot_len (pa_cons (pv 5) pa_nil)) pe_int) pa_nil))) (pa_cons (pe_ix ix_list (pv 5) (pv 3) (fun _ _ => rfl)) pa_nil)))))
        (pss_one (ps_if (pt_cmpR op_eq (pv 2) pe_int (nomark _)) (pss_one (ps_expr (pe_bm PySem.F.plainAttrs_list PySem.F.slot_list_append PySem.F.type_list_append mt_append (pv 5) (pa_cons (pe_bm PySem.F.plainAttrs_list PySem.F.slot_list_pop PySem.F.type_list_pop mt_popAt (pv 5) (pa_cons (pv 3) pa_nil)) pa_nil))))
        (pss_one (ps_if (pt_cmpR op_eq (pv 2) pe_int (nomark _)) (pss_one (ps_expr (pe_bm PySem.F.plainAttrs_list PySem.F.slot_list_pop PySem.F.type_list_pop mt_popAt (pv 5) (pa_cons (pv 3) pa_nil))))
        (pss_cons (ps_set (i := 6) sc_l_bent.nd rfl (.inl rfl) (pe_split (pe_ix ix_list (pv 5) (pv 3) (fun _ _ => rfl)) pe_str))
          (pss_cons (ps_set (i := 7) sc_l_bent.nd rfl (.inl rfl) (pe_call GD (hr.mono (by decide)) (by rfl) gD kD bD .nil pass0 (pa_cons (pv 0) (pa_cons (pe_callB call_len_seq (by rfl) M.len PySem.boot_len (pa_cons (pv 6) pa_nil)) pa_nil))))
          (Evl.pss_cut (ps_if (pt_cmpR op_eq (pv 2) pe_int (nomark _)) (pss_one (ps_expr (pe_bm PySem.F.plainAttrs_list PySem.F.slot_list_pop PySem.F.type_list_pop mt_popAt (pv 6) (pa_cons (pv 7) pa_nil)))) (pss_one (ps_if (pt_cmpR op_eq (pv 2) pe_int (nomark _)) (pss_one (ps_expr (pe_bm PySem.F.plainAttrs_list PySem.F.slot_list_insert PySem.F.type_list_insert mt_insert (pv 6) (pa_cons (pv 7) (pa_cons (pe_ix ix_list (pv 6) (pe_call GD (hr.mono (by decide)) (by rfl) gD kD bD .nil pass0 (pa_cons (pv 0) (pa_cons (pe_callB call_len_seq (by rfl) M.len PySem.boot_len (pa_cons (pv 6) pa_nil)) pa_nil))) (fun _ _ => rfl)) pa_nil))))) (pss_one (ps_asg (pe_call GO hr (by rfl) gO kO bO .nil pass0 (pa_cons (pv 0) (pa_cons (pe_ix ix_list (pv 6) (pv 7) (fun _ _ => rfl)) pa_nil))) (pg_sub (pv 6) (pv 7) set_list))))))
          (pss_one (ps_asg (pe_join pe_str (pv 6)) (pg_sub (pv 5) (pv 3) set_list)))))))))))
      (pss_one (ps_ret (pe_join pe_str (pv 5))))))))))))), ?_⟩
    have big : ∀ n : Nat, n ≤ 1000000 → n ≤ sizeLine := fun n h => by rw [sizeLine_eq]; omega
    refine ⟨.ref d, rfl, d, c, 10, rfl, hD, by decide, by decide, fun wy H1 a1 b1 D1 K1 => ?_⟩
    refine ⟨.ref d, rfl, .str x, rfl, x, rfl, big _ (by omega), _, 1, rfl, rfl, d, c, _, rfl, D1, by omega, by omega, fun av H2 a2 b2 D2 K2 => ?_⟩
    have K02 := K1.trans K2
    refine ⟨fun σ' H' => ∃ sg : Str, σ' = [some (.ref d), some (.str x), some (.int wy), some (.int av), some (.str sg), none, none, none] ∧ 1 ≤ sg.length ∧ sg.length ≤ 200 ∧ Deck H' d c ∧ Kp d c H H', ?_, ?_⟩
    · refine ⟨rfl, fun x1 h1 h2 => ⟨by show 2 ≤ sizeLine; decide, fun p np => ?_⟩⟩
      refine ⟨.ref d, rfl, d, c, 2, rfl, D2.new np, by decide, by decide, fun v H3 a3 b3 D3 K3 => ?_⟩
      have hp := K3 p _ (D2.ned np).1 (D2.ned np).2 upd_same
      have kk := (K02.trans (Kp.new np)).trans K3
      have h2' : v = 0 ∨ v = 1 := by omega
      rcases h2' with e | e <;> subst e
      · exact ⟨p, _, 0, _, rfl, rfl, SqL.of hp, rfl, _, rfl, by decide +kernel, by decide +kernel, D3, kk⟩
      · exact ⟨p, _, 1, _, rfl, rfl, SqL.of hp, rfl, x1, rfl, h1, h2, D3, kk⟩
    rintro σ' H3 ⟨sg, rfl, s1, s2, D3, K3⟩
    refine ⟨fun σ' H' => ∃ sg : Str, σ' = [some (.ref d), some (.str x), some (.int wy), some (.int av), some (.str sg), none, none, none] ∧ sg.length = 1 ∧ Deck H' d c ∧ Kp d c H H', ?_, ?_⟩
    · refine ⟨.str sg, rfl, .ref d, rfl, .str sg, rfl, sg, rfl, big _ (by omega), d, c, _, rfl, D3, by omega, by omega, fun v H4 a4 b4 D4 K4 => ?_⟩
      have lsg : sg.cps.toList.length = sg.length := (len_tl sg).symm
      obtain ⟨c0, g1, g2⟩ := getI (xs := sg.cps.toList) a4 (by rw [lsg]; exact b4)
      exact ⟨sg, v, c0, rfl, rfl, big _ (by omega), g1, _, rfl, rfl, D4, K3.trans K4⟩
    clear D3 K3 H3 s1 s2 sg
    rintro σ' H3 ⟨sg, rfl, s1, D3, K3⟩
    have lA := cutS_le x none (some av)
    have lB := cutS_le x (some av) none
    have lC := cutS_le x (some (av + 1)) none
    have pick3 : ∀ (l : List Str), (∀ y ∈ l, y.length ≤ 500000) → ∀ (p : Addr) (H' : Hp) (v : Int), H' p = some (.lst (l.map V.str)) → 0 ≤ v → v < (l.length : Int) → Deck H' d c → Kp d c H H' → ∃ (p' : Addr) (xs : List V) (i : Int) (z : V), V.ref p = .ref p' ∧ V.int v = .int i ∧ SqL K H' p' xs ∧ atI xs i = some z ∧ Q z H' := fun l hl p H' v hp h0 h1 D' K' => by
      obtain ⟨z, g1, g2⟩ := getI (xs := l.map V.str) h0 (by rw [List.length_map]; exact h1)
      rw [List.getElem?_map] at g2
      obtain ⟨y, hy, rfl⟩ := Option.map_eq_some_iff.mp g2
      exact ⟨p, _, v, _, rfl, rfl, SqL.of hp, g1, q y H' (hl y (List.mem_of_getElem? hy)) D' K'⟩
    refine ⟨.int wy, rfl, wy, 3, rfl, rfl, ?_⟩
    by_cases w3 : wy < 3
    · refine ⟨true, congrArg V.bl (decide_eq_true w3), ?_⟩
      refine ⟨.str x, rfl, .int av, rfl, av, rfl, x, rfl, big _ (by omega), .str sg, rfl, _, sg, rfl, rfl, big _ (by omega), .str x, rfl, .int av, rfl, av, rfl, x, rfl, big _ (by omega), _, _, rfl, rfl, big _ (by rw [app_len]; omega), ?_⟩
      refine ⟨.str x, rfl, .int av, rfl, av, rfl, x, rfl, big _ (by omega), .str sg, rfl, _, sg, rfl, rfl, big _ (by omega), .str x, rfl, .int av, rfl, av, 1, rfl, rfl, av + 1, rfl, x, rfl, big _ (by omega), _, _, rfl, rfl, big _ (by rw [app_len]; omega), ?_⟩
      refine ⟨.str x, rfl, .int av, rfl, av, rfl, x, rfl, big _ (by omega), .str x, rfl, .int av, rfl, av, 1, rfl, rfl, av + 1, rfl, x, rfl, big _ (by omega), _, _, rfl, rfl, big _ (by omega), by show 3 ≤ sizeLine; decide, fun p np => ?_⟩
      refine ⟨.int wy, rfl, pick3 [cutS x none (some av) ++ sg ++ cutS x (some av) none, cutS x none (some av) ++ sg ++ cutS x (some (av + 1)) none, cutS x none (some av) ++ cutS x (some (av + 1)) none] (fun y hy => ?_) p _ wy upd_same a1 w3 (D3.new np) (K3.trans (Kp.new np))⟩
      simp only [List.mem_cons, List.not_mem_nil, or_false] at hy
      rcases hy with rfl | rfl | rfl <;> simp only [app_len] <;> omega
    refine ⟨false, congrArg V.bl (decide_eq_false w3), ?_⟩
    have l1 : (" " : Str).length = 1 := by decide
    have l2 : ("\n" : Str).length = 1 := by decide
    refine ⟨.int wy, rfl, rfl, _, rfl, ite2 (fun _ => ?_) (fun w3' => ?_)⟩
    · refine ⟨.str x, rfl, _, _, rfl, rfl, by rw [l2]; exact big _ (by omega), .str x, rfl, _, _, rfl, rfl, by rw [l1]; exact big _ (by omega), .str x, rfl, _, _, rfl, rfl, by rw [l1]; exact big _ (by omega), .str x, rfl, _, _, rfl, rfl, by rw [l2]; exact big _ (by omega), by show 4 ≤ sizeLine; decide, fun p np => ?_⟩
      refine ⟨.ref d, rfl, d, c, 4, rfl, D3.new np, by decide, by decide, fun v H4 a4 b4 D4 K4 => ?_⟩
      refine pick3 [x ++ ("\n" : Str), (" " : Str) ++ x, x ++ (" " : Str), ("\n" : Str) ++ x] (fun y hy => ?_) p _ v (K4 p _ (D3.ned np).1 (D3.ned np).2 upd_same) a4 b4 D4 ((K3.trans (Kp.new np)).trans K4)
      simp only [List.mem_cons, List.not_mem_nil, or_false] at hy
      rcases hy with rfl | rfl | rfl | rfl <;> simp only [app_len] <;> omega
    have hws := split_wsumL x
    have hsp := PyProof.Rows.split_pos x sNl
    refine ⟨.str x, rfl, ⟨_, rfl⟩, x, _, rfl, rfl, by decide, by rw [sizeLine_eq]; omega, fun L nL => ?_⟩
    rw [show Txt.split x ("\n" : Str) = Txt.split x sNl from rfl]
    have hyl : ∀ y ∈ Txt.split x sNl, y.length ≤ x.length := fun y hy => split_line_le hy
    generalize Txt.split x sNl = ys at hws hsp hyl
    have lys := wsum_len ys
    have hL := upd_same (H := H3) (a := L) (o := .lst (ys.map V.str))
    have nd := D3.ned nL
    have nL0 : H L = none := by
      cases e : H L with
      | none => rfl
      | some o =>
        rw [K3 L o nd.1 nd.2 e] at nL
        cases nL
    have D4 := D3.new (o := .lst (ys.map V.str)) nL
    have K4 := K3.trans (Kp.new (o := .lst (ys.map V.str)) nL)
    generalize upd H3 L (.lst (ys.map V.str)) = H4 at hL D4 K4
    refine ⟨.ref d, rfl, .ref L, rfl, L, _, rfl, .inl (SqL.of hL), d, c, _, rfl, D4, by rw [List.length_map]; omega, by rw [List.length_map]; omega, fun at2 H5 a5 b5 D5 K5 => ?_⟩
    rw [List.length_map] at b5
    have hL5 := K5 _ _ nd.1 nd.2 hL
    have K05 := K4.trans K5
    obtain ⟨yv, g1, g2⟩ := getI (xs := ys.map V.str) a5 (by rw [List.length_map]; exact b5)
    rw [List.getElem?_map] at g2
    obtain ⟨y0, hy0, rfl⟩ := Option.map_eq_some_iff.mp g2
    have my0 := wsum_mem (List.mem_of_getElem? hy0)
    refine ⟨fun σ' H' => ∃ (zs : List Str) (y3 y6 y7 : Option V), σ' = [some (.ref d), some (.str x), some (.int wy), y3, some (.str sg), some (.ref L), y6, y7] ∧ H' L = some (.lst (zs.map V.str)) ∧ wsum zs ≤ 499000 ∧ Deck H' d c ∧ Kp d c H H', ?_, ?_⟩
    rotate_left
    · rintro σ' H6 ⟨zs, y3, y6, y7, rfl, hL6, hw6, D6, K6⟩
      refine ⟨⟨_, rfl⟩, .ref L, rfl, _, L, zs, rfl, rfl, .inl (SqL.of hL6), join_fits (s := 10) (by decide) zs (by omega), q _ _ (Nat.le_trans (join_len (s := 10) (by decide) zs) (by omega)) D6 K6⟩
    refine ⟨.int wy, rfl, rfl, _, rfl, ite2 (fun _ => ?_) (fun _ => ?_)⟩
    · refine ⟨.ref L, rfl, .inl ⟨rfl, _, SqL.of hL5⟩, .ref d, rfl, .ref L, rfl, L, _, rfl, .inl (SqL.of hL5), _, 1, rfl, rfl, d, c, _, rfl, D5, by rw [List.length_map]; omega, by rw [List.length_map]; omega, fun v H6 a6 b6 D6 K6 => ?_⟩
      rw [List.length_map] at b6
      have hL6 := K6 _ _ nd.1 nd.2 hL5
      refine ⟨.ref L, rfl, .int at2, rfl, L, _, at2, _, rfl, rfl, SqL.of hL6, g1, L, _, v, _, rfl, rfl, hL6, by rw [List.length_map, sizeLine_eq]; omega, a6, by omega, ?_⟩
      refine ⟨ys.take v.toNat ++ [y0] ++ ys.drop v.toNat, _, _, _, rfl, by rw [upd_same]; simp only [List.map_append, List.map_take, List.map_drop, List.map_cons, List.map_nil], ?_, D6.mut nd.1 nd.2, (K05.trans K6).mut nL0⟩
      rw [wsum_app, wsum_app, wsum_one]
      have := wsum_take ys v.toNat
      omega
    refine ⟨.int wy, rfl, rfl, _, rfl, ite2 (fun _ => ?_) (fun _ => ?_)⟩
    · refine ⟨.ref L, rfl, .inl ⟨rfl, _, SqL.of hL5⟩, .ref L, rfl, .inl ⟨rfl, _, SqL.of hL5⟩, .int at2, rfl, L, _, at2, at2.toNat, .str y0, rfl, rfl, hL5, by omega, by omega, seqIndex_of a5 (by rw [List.length_map]; exact b5), by rw [List.getElem?_map, hy0]; rfl, ?_⟩
      have we := wsum_erase ys at2.toNat
      have le : (ys.eraseIdx at2.toNat).length ≤ ys.length := List.length_eraseIdx_le ..
      refine ⟨L, _, _, rfl, rfl, upd_same, Nat.lt_of_le_of_lt (List.length_eraseIdx_le ..) (by rw [List.length_map, sizeLine_eq]; omega), ?_⟩
      refine ⟨ys.eraseIdx at2.toNat ++ [y0], _, _, _, rfl, by rw [upd_same, List.map_append, erase_mapS]; rfl, ?_, (D5.mut nd.1 nd.2).mut nd.1 nd.2, (K05.mut nL0).mut nL0⟩
      rw [wsum_app, wsum_one]
      omega
    refine ⟨.int wy, rfl, rfl, _, rfl, ite2 (fun _ => ?_) (fun _ => ?_)⟩
    · refine ⟨.ref L, rfl, .inl ⟨rfl, _, SqL.of hL5⟩, .int at2, rfl, L, _, at2, at2.toNat, .str y0, rfl, rfl, hL5, by omega, by omega, seqIndex_of a5 (by rw [List.length_map]; exact b5), by rw [List.getElem?_map, hy0]; rfl, ?_⟩
      have we := wsum_erase ys at2.toNat
      exact ⟨ys.eraseIdx at2.toNat, _, _, _, rfl, by rw [upd_same, erase_mapS], by omega, D5.mut nd.1 nd.2, K05.mut nL0⟩
    have ly0 := hyl y0 (List.mem_of_getElem? hy0)
    have wws := split_wsumW y0
    have wsp := PyProof.Rows.split_pos y0 sSp
    refine ⟨.ref L, rfl, .int at2, rfl, L, _, at2, .str y0, rfl, rfl, SqL.of hL5, g1, ⟨_, rfl⟩, y0, _, rfl, rfl, by decide, by rw [sizeLine_eq]; omega, fun Wd nWd => ?_⟩
    rw [show Txt.split y0 (" " : Str) = Txt.split y0 sSp from rfl]
    have hwl : ∀ y ∈ Txt.split y0 sSp, y.length ≤ y0.length := fun y hy => split_part_le hy
    generalize Txt.split y0 sSp = ws at wws wsp hwl
    have lws := wsum_len ws
    have sWd := same_new (o := .lst (ws.map V.str)) nWd
    have hW6 := upd_same (H := H5) (a := Wd) (o := .lst (ws.map V.str))
    have ndW := D5.ned nWd
    have LW : L ≠ Wd := ne_of_none hL5 nWd
    have nW0 : H Wd = none := by
      cases e : H Wd with
      | none => rfl
      | some o =>
        rw [K05 Wd o ndW.1 ndW.2 e] at nWd
        cases nWd
    have hL6 := sWd _ _ hL5
    have D6 := D5.new (o := .lst (ws.map V.str)) nWd
    have K6 := K05.trans (Kp.new (o := .lst (ws.map V.str)) nWd)
    generalize upd H5 Wd (.lst (ws.map V.str)) = H6 at sWd hW6 hL6 D6 K6
    refine ⟨.ref d, rfl, .ref Wd, rfl, Wd, _, rfl, .inl (SqL.of hW6), d, c, _, rfl, D6, by rw [List.length_map]; omega, by rw [List.length_map]; omega, fun sv H7 a7 b7 D7 K7 => ?_⟩
    rw [List.length_map] at b7
    have hW7 := K7 _ _ ndW.1 ndW.2 hW6
    have hL7 := K7 _ _ nd.1 nd.2 hL6
    have K07 := K6.trans K7
    obtain ⟨zv, g3, g4⟩ := getI (xs := ws.map V.str) a7 (by rw [List.length_map]; exact b7)
    rw [List.getElem?_map] at g4
    obtain ⟨w0, hw0, rfl⟩ := Option.map_eq_some_iff.mp g4
    have lw0 := hwl w0 (List.mem_of_getElem? hw0)
    refine ⟨fun σ' H' => ∃ (us : List Str), σ' = [some (.ref d), some (.str x), some (.int wy), some (.int at2), some (.str sg), some (.ref L), some (.ref Wd), some (.int sv)] ∧ H' Wd = some (.lst (us.map V.str)) ∧ H' L = some (.lst (ys.map V.str)) ∧ wsum us ≤ 351000 ∧ Deck H' d c ∧ Kp d c H H', ?_, ?_⟩
    rotate_left
    · rintro σ' H8 ⟨us, rfl, hW8, hL8, hu, D8, K8⟩
      have hj := join_len (s := 32) (y := (" " : Str)) (by decide) us
      refine ⟨⟨_, rfl⟩, .ref Wd, rfl, _, Wd, us, rfl, rfl, .inl (SqL.of hW8), join_fits (s := 32) (by decide) us (by omega), ?_⟩
      have wz := wsum_set ys at2.toNat (Txt.join (" " : Str) us)
      exact ⟨.ref L, rfl, .int at2, rfl, L, _, at2, at2.toNat, rfl, rfl, hL8, ixN_of5 a5 (by rw [List.length_map]; exact b5), ys.set at2.toNat (Txt.join (" " : Str) us), _, _, _, rfl, by rw [upd_same, List.map_set], by omega, D8.mut nd.1 nd.2, K8.mut nL0⟩
    refine ⟨.int wy, rfl, rfl, _, rfl, ite2 (fun _ => ?_) (fun _ => ?_)⟩
    · refine ⟨.ref Wd, rfl, .inl ⟨rfl, _, SqL.of hW7⟩, .int sv, rfl, Wd, _, sv, sv.toNat, .str w0, rfl, rfl, hW7, by omega, by omega, seqIndex_of a7 (by rw [List.length_map]; exact b7), by rw [List.getElem?_map, hw0]; rfl, ?_⟩
      have we := wsum_erase ws sv.toNat
      exact ⟨ws.eraseIdx sv.toNat, rfl, by rw [upd_same, erase_mapS], by rw [upd_ne LW]; exact hL7, by omega, D7.mut ndW.1 ndW.2, K07.mut nW0⟩
    refine ⟨.int wy, rfl, rfl, _, rfl, ite2 (fun _ => ?_) (fun _ => ?_)⟩
    · refine ⟨.ref Wd, rfl, .inl ⟨rfl, _, SqL.of hW7⟩, .int sv, rfl, .ref Wd, rfl, .ref d, rfl, .ref Wd, rfl, Wd, _, rfl, .inl (SqL.of hW7), d, c, _, rfl, D7, by rw [List.length_map]; omega, by rw [List.length_map]; omega, fun v H8 a8 b8 D8 K8 => ?_⟩
      rw [List.length_map] at b8
      have hW8 := K8 _ _ ndW.1 ndW.2 hW7
      have hL8 := K8 _ _ nd.1 nd.2 hL7
      obtain ⟨zv, g5, g6⟩ := getI (xs := ws.map V.str) a8 (by rw [List.length_map]; exact b8)
      rw [List.getElem?_map] at g6
      obtain ⟨w1, hw1, rfl⟩ := Option.map_eq_some_iff.mp g6
      have lw1 := hwl w1 (List.mem_of_getElem? hw1)
      refine ⟨Wd, _, v, _, rfl, rfl, SqL.of hW8, g5, Wd, _, sv, _, rfl, rfl, hW8, by rw [List.length_map, sizeLine_eq]; omega, a7, by omega, ?_⟩
      refine ⟨ws.take sv.toNat ++ [w1] ++ ws.drop sv.toNat, rfl, by rw [upd_same]; simp only [List.map_append, List.map_take, List.map_drop, List.map_cons, List.map_nil], by rw [upd_ne LW]; exact hL8, ?_, D8.mut ndW.1 ndW.2, (K07.trans K8).mut nW0⟩
      rw [wsum_app, wsum_app, wsum_one]
      have := wsum_take ws sv.toNat
      omega
    refine ⟨.ref d, rfl, .ref Wd, rfl, .int sv, rfl, Wd, _, sv, _, rfl, rfl, SqL.of hW7, g3, d, c, w0, rfl, D7, by omega, fun y H8 hy D8 K8 => ?_⟩
    have hW8 := K8 _ _ ndW.1 ndW.2 hW7
    have hL8 := K8 _ _ nd.1 nd.2 hL7
    have wz := wsum_set ws sv.toNat y
    exact ⟨.ref Wd, rfl, .int sv, rfl, Wd, _, sv, sv.toNat, rfl, rfl, hW8, ixN_of5 a7 (by rw [List.length_map]; exact b7), ws.set sv.toNat y, rfl, by rw [upd_same, List.map_set], by rw [upd_ne LW]; exact hL8, by omega, D8.mut ndW.1 ndW.2, (K07.trans K8).mut nW0⟩
end
section
variable {P : Program} {w : World} {K : PySem.W.Frag} {mg : Str → Option Value} {base : Heap}
def spWeightOf : Sp := fun vs H Q _ => (∃ i, vs = [.non, .int i] ∧ Q (.int 1) H) ∨ ∃ a xs i v, vs = [.ref a, .int i] ∧ H a = some (.tup xs) ∧ atI xs i = some v ∧ Q v H
/-! ### weights drawn -/
def spWeights : Sp := fun vs H Q _ => ∃ (d c : Addr) (k : Nat), vs = [.ref d, .int k] ∧ Deck H d c ∧ k ≤ 120 ∧
  ∀ (a : Addr) (ws : List Int) (H' : Hp), H' a = some (.tup (ws.map V.int)) → ws.length = k → (∀ x ∈ ws, 1 ≤ x ∧ x ≤ 10 ^ 30) → Deck H' d c → Kp d c H H' → Q (.ref a) H'
theorem ok_l_weights {f : Addr} {fd : FuncData} (F : Fun K "_law_weights" "_law_weights" s_l_weights f fd) (M : Free mg) (Dd : Df P w K mg base 1 "_law_draw" ["_law_deck_here", "_law_many"] spDraw) : FnOk P w K mg base CX0 2 f fd ["_law_deck_here", "_law_many"] spWeights := by
  obtain ⟨fD, fdD, GD, gD, kD, bD⟩ := Dd
  refine F.ok sc_l_weights (fun vs H Q E h => ?_) (fun cdv A outer s H vs Q E hr h => ?_)
  · obtain ⟨d, c, k, rfl, _⟩ := h
    rfl
  · obtain ⟨d, c, k, rfl, hD, hk, q⟩ := h
    refine ⟨_, (Evl.pss_cut (ps_set (i := 2) sc_l_weights.nd rfl (.inr rfl) (pe_ix ix_list (pe_lst (pa_cons pe_int (pa_cons pe_int (pa_cons pe_int (pa_cons (pe_op op_pow pe_int pe_int) pa_nil))))) (pe_call GD hr (by rfl) gD kD bD .nil pass0 (pa_cons (pv 0) (pa_cons pe_int pa_nil))) (fun _ _ => rfl)))
      (pss_one (ps_ret (pe_callTy call_tuple_of (by rfl) M.tuple (by decide +kernel) (pa_cons (pe_lc (own := [("_law_k", 3)]) (g := gName 3) (tt := tYes) rfl sc_l_weights.nd (pi_range1 (by rfl) M.range (pa_cons (pv 1) pa_nil)) (blkOk_by (N := N_l_weights) (sc := defScope s_l_weights) (own := [("_law_k", 3)]) (by decide +kernel)) (fun _ _ _ _ _ => (pg_name (i := 3) sc_l_weights.nd rfl (.inl rfl))) (fun _ _ _ _ _ => pts_nil) (fun _ _ _ _ _ => (pe_ix (r := rIxL K) ix_list (pe_lst (pa_cons (pe_op op_add pe_int (pe_call GD hr (by rfl) gD kD bD .nil pass0 (pa_cons (pv 0) (pa_cons (pv 2) pa_nil)))) (pa_cons (pv 2) pa_nil))) (pe_callTy call_int1 (by rfl) M.int (by decide +kernel) (pa_cons (pe_cmpR op_eq (pe_call GD hr (by rfl) gD kD bD .nil pass0 (pa_cons (pv 0) (pa_cons pe_int pa_nil))) pe_int (nomark _)) pa_nil)) (fun _ _ => rfl)))) pa_nil))))), ?_⟩
    refine ⟨fun σ' H' => ∃ n : Int, σ' = [some (.ref d), some (.int k), some (.int n), none] ∧ (1 ≤ n ∧ n ≤ 10 ^ 30) ∧ n.natAbs < 2 ^ 120 ∧ Deck H' d c ∧ Kp d c H H', ?_, ?_⟩
    · refine ⟨10, 30, rfl, rfl, ⟨by decide, by decide, by decide⟩, by show 4 ≤ sizeLine; decide, fun p np => ⟨.ref d, rfl, d, c, 4, rfl, hD.new np, by decide, by decide, fun v1 H1 a1 b1 D1 K1 => ?_⟩⟩
      have hp := K1 p _ (hD.ned np).1 (hD.ned np).2 upd_same
      have kk := (Kp.new (o := .lst [.int 1, .int 2, .int 9, .int (10 ^ (30 : Int).toNat)]) np).trans K1
      have h4 : v1 = 0 ∨ v1 = 1 ∨ v1 = 2 ∨ v1 = 3 := by omega
      rcases h4 with e | e | e | e <;> subst e
      · exact ⟨p, _, 0, _, rfl, rfl, SqL.of hp, rfl, 1, rfl, ⟨by decide, by decide⟩, by decide, D1, kk⟩
      · exact ⟨p, _, 1, _, rfl, rfl, SqL.of hp, rfl, 2, rfl, ⟨by decide, by decide⟩, by decide, D1, kk⟩
      · exact ⟨p, _, 2, _, rfl, rfl, SqL.of hp, rfl, 9, rfl, ⟨by decide, by decide⟩, by decide, D1, kk⟩
      · exact ⟨p, _, 3, _, rfl, rfl, SqL.of hp, rfl, 10 ^ 30, rfl, ⟨by decide, by decide⟩, by decide, D1, kk⟩
    rintro σ' H0 ⟨n, rfl, hn, hn2, hD0, K0⟩
    refine ⟨.int k, rfl, k, rfl, by omega, by omega, fun L nL => ?_⟩
    have hLd := hD0.ned nL
    have nL0 : H L = none := by
      cases e : H L with
      | none => rfl
      | some o =>
        rw [K0 L o hLd.1 hLd.2 e] at nL
        cases nL
    rw [Int.toNat_natCast]
    refine lc_range (lo := 0) (n := k) (fun i H' => ∃ ws : List Int, H' L = some (.lst (ws.map V.int)) ∧ ws.length = i ∧ (∀ x ∈ ws, 1 ≤ x ∧ x ≤ 10 ^ 30) ∧ Deck H' d c ∧ Kp d c H H') ?_ ?_ ?_
    · exact ⟨[], upd_same, rfl, fun x hx => by simp at hx, hD0.new nL, K0.trans (Kp.new nL)⟩
    · rintro i H1 hi ⟨ws, hL, hl, hw, D1, K1⟩
      refine ⟨rfl, .ref d, rfl, .int n, rfl, d, c, n, rfl, D1, by have := hn.1; omega, hn2, fun v1 H2 a1 b1 D2 K2 => ⟨1, v1, rfl, rfl, .int n, rfl, by show 2 ≤ sizeLine; decide, fun p np => ?_⟩⟩
      refine ⟨.ref d, rfl, d, c, 8, rfl, D2.new np, by decide, by decide, fun v2 H3 a2 b2 D3 K3 => ⟨rfl, .inr ⟨_, rfl, p, _, _, _, rfl, rfl, SqL.of (K3 p _ (D2.ned np).1 (D2.ned np).2 upd_same), pick2 _ _ _, ?_⟩⟩⟩
      have hL3 : H3 L = some (.lst (ws.map V.int)) := K3 _ _ hLd.1 hLd.2 (same_new np _ _ (K2 _ _ hLd.1 hLd.2 hL))
      have kk := ((K1.trans K2).trans (Kp.new (o := .lst [.int (1 + v1), .int n]) np)).trans K3
      have fin : ∀ x : Int, 1 ≤ x ∧ x ≤ 10 ^ 30 → ∃ acc, H3 L = some (.lst acc) ∧ acc.length < sizeLine ∧ ∃ ws' : List Int, (upd H3 L (.lst (acc ++ [.int x]))) L = some (.lst (ws'.map V.int)) ∧ ws'.length = i + 1 ∧ (∀ x ∈ ws', 1 ≤ x ∧ x ≤ 10 ^ 30) ∧ Deck (upd H3 L (.lst (acc ++ [.int x]))) d c ∧ Kp d c H (upd H3 L (.lst (acc ++ [.int x]))) := fun x hx => by
        refine ⟨_, hL3, by rw [List.length_map]; exact small1000 (by omega), ws ++ [x], by rw [upd_same, List.map_append]; rfl, by rw [List.length_append, hl]; rfl, fun y hy => ?_, D3.mut hLd.1 hLd.2, kk.mut nL0⟩
        rcases List.mem_append.mp hy with h | h
        · exact hw y h
        · rw [List.mem_singleton.mp h]
          exact hx
      by_cases hb : decide (V.int v2 = V.int 1) = true
      · rw [hb]
        exact fin n hn
      · rw [Bool.not_eq_true] at hb
        rw [hb]
        exact fin (1 + v1) ⟨by omega, by have := hn.2; omega⟩
    · rintro H1 ⟨ws, hL, hl, hw, D1, K1⟩
      refine ⟨L, _, rfl, .inl ⟨SqL.of hL, fun a na => ?_⟩⟩
      exact q a ws _ upd_same hl hw (D1.new na) (K1.trans (Kp.new na))
end
/-! ### k01: the law -/
section
open PySem.SeqAt PySem.MeetsSeq
open PySem.AutoSeq1 (wpAny_loadPart')
theorem tuple_mul0 (l : Addr) (n : Nat) (dd : Option Addr) (sl : Array (Option Value)) (x : Int) (u : Tok) (c0 : (decide (x < -(2 ^ 63)) || decide (x ≥ 2 ^ 63)) = false) :
    Meets (Builtin.«tuple.__mul__» ⟨[.ref l, .int x u], []⟩) (fun _ R s => s.heap.get? l = some { cls := .type "tuple", dict := dd, data := .seq #[] n, slots := sl } ∧ R (.ok (.ret (Value.ref l))) s) :=
  .of_wp fun prog w A R s h => by
    obtain ⟨hp, g, d, tk, os⟩ := s
    obtain ⟨hl, h⟩ := h
    have f1 := AutoSeq1.idx_int
    have c1 : ((#[] : Array Value).isEmpty || x == 1) = true := rfl
    wp_walk using wpAny_loadPart' hl
    repeat (first
      | (refine wpAny_ite_false (decide_eq_false (by rw [c0]; exact Bool.false_ne_true)) ?_; wp_walk using wpAny_loadPart' hl)
      | (refine wpAny_ite_true (decide_eq_true c1) ?_; wp_walk using wpAny_loadPart' hl))
    exact ⟨_, rfl, h⟩
end
def rRepE : R2 := fun x y H Q => ∃ l k xs, x = .ref l ∧ y = .int k ∧ H l = some (.tup xs) ∧ 2 ≤ k ∧ k ≤ 1000 ∧ xs.length ≤ 1000 ∧ ∀ r H', Same H H' → H' r = some (.tup (List.replicate k.toNat xs).flatten) → Q (.ref r) H'
theorem op_repE {X : Cx} : OpR X (binaryOp .Mult) rRepE := by
  intro pins s σ H x y v u Q I rx ry h
  obtain ⟨l, k, xs, rfl, rfl, hT, h1, h2, hz, q⟩ := h
  by_cases hx : xs = []
  · subst hx
    cases rx
    obtain ⟨t, rfl⟩ := ry
    obtain ⟨its, r, ⟨⟨cls, dd, data, sl⟩, ho, hc, n, hd⟩, hs⟩ := I.tuple (SqT.of (K := X.K) hT)
    simp only at hc hd
    subst hc hd
    have he : its = [] := List.eq_nil_of_length_eq_zero r.length.symm
    subst he
    have c0 : (decide (k < -(2 ^ 63)) || decide (k ≥ 2 ^ 63)) = false := by
      rw [decide_eq_false (by omega), decide_eq_false (by omega)] <;> rfl
    refine wpAny_binaryOp_repeat_ref (T := "tuple") (U := "int") (by decide) ⟨_, ho, rfl⟩ (fun s' => typeIs_int s' k t) noFill_tuple_mul F.fills_int_mul F.slot_int_rmul repeat_tuple F.slot_int_index.lookup
      (call_meets F.slot_int_rmul (typeIs_int s k t) F.entry_int_rmul (F.args_int_rmul_2 _ _) (int_rmul_tuple k t l #[] n dd sl)
        ⟨ho, rfl, ⟨_, ho, rfl⟩, call_meets F.slot_tuple_mul ⟨_, ho, rfl⟩ F.entry_tuple_mul (F.args_tuple_mul_2 _ _) (tuple_mul0 l n dd sl k t c0) ⟨ho, ?_⟩⟩)
    exact ⟨.ref l, H, I, rfl, q l H (Same.refl H) (by rw [hT]; congr 2; induction k.toNat with
      | zero => rfl
      | succ m ih => simpa using ih)⟩
  · exact op_repT pins s σ H _ _ v u Q I rx ry ⟨l, k, xs, rfl, rfl, SqT.of hT, hx, h1, h2, hz, fun p np => q p _ (same_new np) upd_same⟩
/-! ### k05: the law -/
open TL
theorem Tabs.kp {Ps : List Addr} {d c : Addr} {H H' : Hp} (t : Tabs Ps H) (k : Kp d c H H') (D : Deck H d c) : Tabs Ps H' := fun P hP => by
  obtain ⟨ps, e, x⟩ := t P hP
  obtain ⟨cells, st, n, e1, e2, _⟩ := D
  exact ⟨ps, k _ _ (ne_of e e1 (by intro z; cases z)) (ne_of e e2 (by intro z; cases z)) e, x⟩
theorem Tabs.same {Ps : List Addr} {H H' : Hp} (t : Tabs Ps H) (s : Same H H') : Tabs Ps H' := (Kt.same t s).tab
theorem cut_take (xs : List V) (m : Nat) : cutV xs none (some (m : Int)) = xs.take m := by
  unfold cutV
  have h0 : HT.sIx xs.length 0 none = 0 := rfl
  have h1 : HT.sIx xs.length xs.length (some (m : Int)) = min m xs.length := by
    show (if (m : Int) < 0 then ((m : Int) + (xs.length : Int)).toNat else min (m : Int).toNat xs.length) = _
    rw [if_neg (by omega)]
    rfl
  rw [h0, h1, List.drop_zero, Nat.sub_zero]
  rcases Nat.le_total m xs.length with h | h
  · rw [Nat.min_eq_left h]
  · rw [Nat.min_eq_right h, List.take_length, List.take_of_length_le h]
theorem Paired.take {α β : Type} {F : α → β → Prop} : ∀ {l : List α} {m : List β} (i : Nat), Paired F l m → Paired F (l.take i) (m.take i)
  | _, _, 0, _ => by simpa using Paired.nil
  | _, _, i + 1, .nil => by simpa using Paired.nil
  | _, _, i + 1, .cons h t => .cons h (Paired.take i t)
theorem reads_text {n : Int} {ts : List Tie} {W : Option (List Int)} (ok : WebS n ts) (gW : WtsG ts W) : Reads (textS n ts W) n ts (if ts = [] then none else W) := by
  have hs : Txt.split (textS n ts W) sNl = headS n :: (rowsL W ts).map lineS := split_textS ok gW
  refine ⟨headS n, (rowsL W ts).map lineS, hs, split_words (head_okS ok) (by simp), ?_, ok.big, fun ws e => ?_⟩
  · rw [List.map_map]
    have e : (rowsL W ts).map ((fun l => Txt.split l sSp) ∘ lineS) = rowsL W ts := by
      have : ∀ r ∈ rowsL W ts, ((fun l => Txt.split l sSp) ∘ lineS) r = r := fun r hr => by
        obtain ⟨i, t, et, rfl⟩ := rows_at hr
        exact split_words (words_okS ok gW et) words_ne
      rw [List.map_congr_left this, List.map_id']
    rw [e]
    by_cases h : ts = []
    · subst h
      rfl
    · rw [if_neg h]
  · by_cases h : ts = []
    · rw [if_pos h] at e
      cases e
    · rw [if_neg h] at e
      obtain ⟨l, hx⟩ := gW ws e
      exact ⟨fun z => h (by rw [z] at l; exact List.eq_nil_of_length_eq_zero l.symm), l, fun x hx' => ⟨(hx x hx').1, Int.lt_of_le_of_lt (hx x hx').2 (by decide)⟩⟩
theorem fm_cut {R : V → Prop} {l : List V} (h : ∀ x ∈ l, R x) (lo hi : Option Int) : ∀ x ∈ cutV l lo hi, R x := fun x hx => by
  unfold cutV at hx
  exact h x (List.mem_of_mem_drop (List.mem_of_mem_take hx))
theorem pair_of {H : Hp} {n : Int} : ∀ vs : List V, (∀ x ∈ vs, ∃ t, TieV H x t ∧ TieOk n t) → ∃ ts, Paired (TieV H) vs ts ∧ ∀ t ∈ ts, TieOk n t
  | [], _ => ⟨[], .nil, fun t h => by cases h⟩
  | v :: vs, h => by
    obtain ⟨ts, p, o⟩ := pair_of vs (fun x hx => h x (List.mem_cons_of_mem _ hx))
    obtain ⟨t, tv, to⟩ := h v List.mem_cons_self
    exact ⟨t :: ts, .cons tv p, fun u hu => by
      rcases List.mem_cons.mp hu with e | e
      · rw [e]; exact to
      · exact o u e⟩
theorem tl_inj0 {x y : Str} (h : tl x = tl y) : x = y := by
  have := map_tl_inj (show [x].map tl = [y].map tl from by simp only [List.map_cons, List.map_nil, h])
  simpa using this
theorem words_big {n : Int} {ts : List Tie} {W : Option (List Int)} (ok : WebBig n ts) (hw : WtsB ts W) {i : Nat} {t : Tie} (ht : ts[i]? = some t) : ∀ x ∈ wordsL W i t, Word x := by
  obtain ⟨a0, a1, b0, b1, _⟩ := ok.ok t (List.mem_of_getElem? ht)
  have n40 := ok.hi
  intro x hx
  rcases List.mem_append.mp hx with h | h
  · simp only [List.mem_cons, List.not_mem_nil, or_false] at h
    rcases h with rfl | rfl | rfl
    · exact word_num (⟨a0, by omega⟩)
    · exact word_num (⟨b0, by omega⟩)
    · exact kindS_free _
  · cases W with
    | none => cases h
    | some ws =>
      rw [List.mem_singleton.mp h]
      obtain ⟨_, l, hh⟩ := hw ws rfl
      have li : i < ws.length := by rw [l]; exact (List.getElem?_eq_some_iff.mp ht).1
      rw [List.getD_eq_getElem?_getD, List.getElem?_eq_getElem li]
      have g := hh _ (List.getElem_mem li)
      exact word_num (⟨by have := g.1; simp only [Option.getD_some]; omega, g.2⟩)
/-- a text with a word of more than thirty-one signs is no web -/
theorem not_readable_long {x l z : Str} (hl : l ∈ Txt.split x sNl) (hz : z ∈ Txt.split l sSp) (big : 31 < z.length) : ¬ Readable x := fun ⟨n, ts, W, f, r, e1, e2, e3, ok, hw⟩ => by
  have key : Word z := by
    rw [e1] at hl
    rcases List.mem_cons.mp hl with rfl | hr
    · rw [e2] at hz
      have := ok.lo
      have := ok.hi
      simp only [List.mem_cons, List.not_mem_nil, or_false] at hz
      rcases hz with rfl | rfl
      · exact web_free
      · exact word_num (⟨by omega, by omega⟩)
    · have m : Txt.split l sSp ∈ rowsL W ts := by rw [← e3]; exact List.mem_map_of_mem hr
      obtain ⟨i, t, et, er⟩ := rows_at m
      rw [er] at hz
      exact words_big ok hw et z hz
  have := key.2.2
  rw [len_tl] at big
  omega
/-- one line, two words -/
theorem odd_one {z : Str} (h : tl z = List.replicate 4400 57) : ¬ Readable (("web " : Str) ++ z) := by
  have z1 : 32 ∉ tl z := fun q => by rw [h] at q; have := (List.mem_replicate.mp q).2; omega
  have z2 : 10 ∉ tl z := fun q => by rw [h] at q; have := (List.mem_replicate.mp q).2; omega
  have e : (("web " : Str) ++ z) = Txt.join sSp [sWeb, z] := by
    refine tl_inj0 ?_
    rw [tl_append, join_eq, tl_join, tl_sSp]
    have e1 : tl ("web " : Str) = [119, 101, 98, 32] := by decide +kernel
    have e2 : tl sWeb = [119, 101, 98] := by decide +kernel
    simp [joinL, e1, e2]
  have s1 : Txt.split (("web " : Str) ++ z) sNl = [("web " : Str) ++ z] := by
    have e3 : Txt.join sNl [("web " : Str) ++ z] = ("web " : Str) ++ z := by rw [join_eq]; rfl
    have := split_join (y := sNl) tl_sNl (by decide +kernel) (parts := [("web " : Str) ++ z]) (by simp) fun p hp => by
      rw [List.mem_singleton.mp hp, tl_append]
      intro q
      rcases List.mem_append.mp q with q | q
      · exact absurd q (by decide +kernel)
      · exact z2 q
    rwa [e3] at this
  have s2 : Txt.split (("web " : Str) ++ z) sSp = [sWeb, z] := by
    rw [e]
    exact split_join tl_sSp (by decide +kernel) (by simp) fun p hp => by
      simp only [List.mem_cons, List.not_mem_nil, or_false] at hp
      rcases hp with rfl | rfl
      · exact web_free.1
      · exact z1
  refine not_readable_long (l := ("web " : Str) ++ z) (z := z) (by rw [s1]; simp) (by rw [s2]; simp) ?_
  rw [len_tl, h, List.length_replicate]
  omega
/-- two lines, the last word is long -/
theorem odd_two {z : Str} (h : tl z = List.replicate 4400 49) : ¬ Readable (("web 2\n0 1 foe " : Str) ++ z) := by
  have z1 : 32 ∉ tl z := fun q => by rw [h] at q; have := (List.mem_replicate.mp q).2; omega
  have z2 : 10 ∉ tl z := fun q => by rw [h] at q; have := (List.mem_replicate.mp q).2; omega
  have e : (("0 1 foe " : Str) ++ z) = Txt.join sSp [("0" : Str), ("1" : Str), ("foe" : Str), z] := by
    refine tl_inj0 ?_
    rw [tl_append, join_eq, tl_join, tl_sSp]
    have e1 : tl ("0 1 foe " : Str) = [48, 32, 49, 32, 102, 111, 101, 32] := by decide +kernel
    have e2 : tl ("0" : Str) = [48] := by decide +kernel
    have e3 : tl ("1" : Str) = [49] := by decide +kernel
    have e4 : tl ("foe" : Str) = [102, 111, 101] := by decide +kernel
    simp [joinL, e1, e2, e3, e4]
  have e0 : (("web 2\n0 1 foe " : Str) ++ z) = Txt.join sNl [("web 2" : Str), ("0 1 foe " : Str) ++ z] := by
    refine tl_inj0 ?_
    rw [tl_append, join_eq, tl_join, tl_sNl]
    have e1 : tl ("0 1 foe " : Str) = [48, 32, 49, 32, 102, 111, 101, 32] := by decide +kernel
    have e2 : tl ("web 2" : Str) = [119, 101, 98, 32, 50] := by decide +kernel
    have e3 : tl ("web 2\n0 1 foe " : Str) = [119, 101, 98, 32, 50, 10, 48, 32, 49, 32, 102, 111, 101, 32] := by decide +kernel
    simp [joinL, e1, e2, e3, tl_append]
  have s1 : Txt.split (("web 2\n0 1 foe " : Str) ++ z) sNl = [("web 2" : Str), ("0 1 foe " : Str) ++ z] := by
    rw [e0]
    exact split_join tl_sNl (by decide +kernel) (by simp) fun p hp => by
      simp only [List.mem_cons, List.not_mem_nil, or_false] at hp
      rcases hp with rfl | rfl
      · decide +kernel
      · rw [tl_append]
        intro q
        rcases List.mem_append.mp q with q | q
        · exact absurd q (by decide +kernel)
        · exact z2 q
  have s2 : Txt.split (("0 1 foe " : Str) ++ z) sSp = [("0" : Str), ("1" : Str), ("foe" : Str), z] := by
    rw [e]
    exact split_join tl_sSp (by decide +kernel) (by simp) fun p hp => by
      simp only [List.mem_cons, List.not_mem_nil, or_false] at hp
      rcases hp with rfl | rfl | rfl | rfl
      · decide +kernel
      · decide +kernel
      · decide +kernel
      · exact z1
  refine not_readable_long (l := ("0 1 foe " : Str) ++ z) (z := z) (by rw [s1]; simp) (by rw [s2]; simp) ?_
  rw [len_tl, h, List.length_replicate]
  omega
theorem odd_nil : ¬ Readable ("" : Str) := fun ⟨n, ts, W, f, r, e1, e2, e3, ok, hw⟩ => by
  have h : Txt.split ("" : Str) sNl = [("" : Str)] := by decide +kernel
  rw [h] at e1
  cases e1
  have h2 : Txt.split ("" : Str) sSp = [("" : Str)] := by decide +kernel
  rw [h2] at e2
  exact absurd (congrArg List.length e2) (by simp)
/-- a thing that is refused -/
def OddK (H : Hp) (v : V) : Prop := Kn H v ∧ ∀ y, v = .str y → y.length ≤ 500000 ∧ ¬ Readable y
theorem OddK.no {H : Hp} {v : V} (h : Kn H v) (n : isS v = false) : OddK H v := ⟨h, fun y e => by subst e; cases n⟩
theorem OddK.same {H H' : Hp} (s : Same H H') {v : V} (h : OddK H v) : OddK H' v := by
  refine ⟨?_, h.2⟩
  have h1 := h.1
  cases v with
  | ref a =>
    rcases h1 with ⟨xs, h⟩ | ⟨xs, h⟩ | ⟨xs, h⟩
    · exact .inl ⟨xs, s _ _ h⟩
    · exact .inr (.inl ⟨xs, s _ _ h⟩)
    · exact .inr (.inr ⟨xs, s _ _ h⟩)
  | _ => exact h1
def spLaw (K : PySem.W.Frag) (Ps : List Addr) : Sp := fun vs H Q _ => ∃ (a : Addr) (ns : List Int), vs = [.ref a] ∧ SqL K H a (ns.map V.int) ∧ ns.length ≤ 63 ∧ Tabs Ps H ∧ ∀ H', Q (.bl true) H'
section
variable {P : Program} {w : World} {K : PySem.W.Frag} {mg : Str → Option Value} {base : Heap}
set_option maxHeartbeats 16000000 in
theorem ok_law {f : Addr} {fd : FuncData} {Ps : List Addr} (F : Fun K "law" "law" s_law f fd) (M : Free mg) (D_l_deck : Df P w K mg base 1 "_law_deck" ["_law_script"] (spDeck K)) (D_l_web : Df P w K mg base 2 "_law_web" ["_law_deck_here"] spWeb) (D_l_draw : Df P w K mg base 1 "_law_draw" ["_law_deck_here", "_law_many"] spDraw) (D_l_far_web : Df P w K mg base 2 "_law_far_web" ["_law_deck_here"] spFarWeb) (D_l_weights : Df P w K mg base 2 "_law_weights" ["_law_deck_here", "_law_many"] spWeights) (D_l_shown : Df P w K mg base 1 "_law_shown" ["_law_web_here", "_law_weights_here"] spShowS) (D_l_bent : Df P w K mg base 3 "_law_bent" ["_law_deck_here", "_law_text"] spBent) (D_l_right : Df P w K mg base 9 "_law_right" ["_law_text"] (spRight05 Ps)) (D_l_told : Df P w K mg base 8 "_law_told" ["_law_thing"] (spTold Ps)) (D_l_due : Df P w K mg base 3 "_law_due" ["_law_text"] spDue) : FnOk P w K mg base CX0 10 f fd ["_law_script"] (spLaw K Ps) := by
  obtain ⟨f_l_deck, fd_l_deck, G_l_deck, g_l_deck, k_l_deck, b_l_deck⟩ := D_l_deck
  obtain ⟨f_l_web, fd_l_web, G_l_web, g_l_web, k_l_web, b_l_web⟩ := D_l_web
  obtain ⟨f_l_draw, fd_l_draw, G_l_draw, g_l_draw, k_l_draw, b_l_draw⟩ := D_l_draw
  obtain ⟨f_l_far_web, fd_l_far_web, G_l_far_web, g_l_far_web, k_l_far_web, b_l_far_web⟩ := D_l_far_web
  obtain ⟨f_l_weights, fd_l_weights, G_l_weights, g_l_weights, k_l_weights, b_l_weights⟩ := D_l_weights
  obtain ⟨f_l_shown, fd_l_shown, G_l_shown, g_l_shown, k_l_shown, b_l_shown⟩ := D_l_shown
  obtain ⟨f_l_bent, fd_l_bent, G_l_bent, g_l_bent, k_l_bent, b_l_bent⟩ := D_l_bent
  obtain ⟨f_l_right, fd_l_right, G_l_right, g_l_right, k_l_right, b_l_right⟩ := D_l_right
  obtain ⟨f_l_told, fd_l_told, G_l_told, g_l_told, k_l_told, b_l_told⟩ := D_l_told
  obtain ⟨f_l_due, fd_l_due, G_l_due, g_l_due, k_l_due, b_l_due⟩ := D_l_due
  refine F.ok sc_law (fun vs H Q E h => ?_) (fun cdv A outer s H vs Q E hr h => ?_)
  · obtain ⟨a, ns, rfl, _⟩ := h
    rfl
  · obtain ⟨sc, ns, rfl, hS, hlen, hT, q⟩ := h
    refine ⟨_, (pss_cons (ps_set (i := 1) sc_law.nd rfl (.inl rfl) (pe_call G_l_deck (hr.mono (by decide)) (by rfl) g_l_deck k_l_deck b_l_deck .nil pass0 (pa_cons (pv 0) pa_nil)))
      (pss_cons (ps_set (i := 2) sc_law.nd rfl (.inl rfl) (pe_call G_l_web (hr.mono (by decide)) (by rfl) g_l_web k_l_web b_l_web .nil pass0 (pa_cons (pv 1) pa_nil)))
      (pss_cons (ps_set (i := 2) sc_law.nd rfl (.inl rfl) (pe_tup (pa_cons (pe_ix ix_tup (pv 2) pe_int (fun _ _ => rfl)) (pa_cons (pe_slice sl_tupU (pe_ix ix_tup (pv 2) pe_int (fun _ _ => rfl)) po_none (po_some pe_int)) pa_nil))))
      (Evl.pss_cut (ps_if (pt_cmpR op_eq (pe_call G_l_draw (hr.mono (by decide)) (by rfl) g_l_draw k_l_draw b_l_draw .nil pass0 (pa_cons (pv 1) (pa_cons pe_int pa_nil))) pe_int (nomark _))
        (pss_one (ps_set (i := 2) sc_law.nd rfl (.inl rfl) (pe_call G_l_far_web (hr.mono (by decide)) (by rfl) g_l_far_web k_l_far_web b_l_far_web .nil pass0 (pa_cons (pv 1) pa_nil))))
        pss_nil)
      (pss_cons (ps_set (i := 3) sc_law.nd rfl (.inl rfl) (pe_call G_l_weights (hr.mono (by decide)) (by rfl) g_l_weights k_l_weights b_l_weights .nil pass0 (pa_cons (pv 1) (pa_cons (pe_callB call_len_seq (by rfl) M.len PySem.boot_len (pa_cons (pe_ix ix_tup (pv 2) pe_int (fun _ _ => rfl)) pa_nil)) pa_nil))))
      (Evl.pss_cut (ps_if (pt_cmpR op_eq (pe_call G_l_draw (hr.mono (by decide)) (by rfl) g_l_draw k_l_draw b_l_draw .nil pass0 (pa_cons (pv 1) (pa_cons pe_int pa_nil))) pe_int (nomark _))
        (pss_cons (ps_set (i := 3) sc_law.nd rfl (.inl rfl) pe_non)
        (pss_one (ps_if (PW.pt (pw_and (pt_cmpR op_eq (pe_call G_l_draw (hr.mono (by decide)) (by rfl) g_l_draw k_l_draw b_l_draw .nil pass0 (pa_cons (pv 1) (pa_cons pe_int pa_nil))) pe_int (nomark _)) (pw_and1 (pt_cmpR op_lt (pe_ix ix_tup (pv 2) pe_int (fun _ _ => rfl)) pe_int (nomark _)))))
          (pss_one (ps_set (i := 2) sc_law.nd rfl (.inl rfl) (pe_tup (pa_cons (pe_ix ix_tup (pv 2) pe_int (fun _ _ => rfl)) (pa_cons (pe_slice sl_tupU (pe_op op_repE (pe_ix ix_tup (pv 2) pe_int (fun _ _ => rfl)) pe_int) po_none (po_some (pe_op op_add pe_int (pe_call G_l_draw (hr.mono (by decide)) (by rfl) g_l_draw k_l_draw b_l_draw .nil pass0 (pa_cons (pv 1) (pa_cons pe_int pa_nil)))))) pa_nil)))))
          pss_nil)))
        pss_nil)
      (pss_cons (ps_set (i := 4) sc_law.nd rfl (.inl rfl) (pe_call G_l_shown (hr.mono (by decide)) (by rfl) g_l_shown k_l_shown b_l_shown .nil pass0 (pa_cons (pv 2) (pa_cons (pv 3) pa_nil))))
      (pss_cons (ps_for PassesOwn.never rfl (pi_range1 (by rfl) M.range (pa_cons pe_int pa_nil)) (pg_name (i := 5) sc_law.nd rfl (.inl rfl))
        (pss_cons (ps_set (i := 6) sc_law.nd rfl (.inl rfl) (pe_call G_l_bent (hr.mono (by decide)) (by rfl) g_l_bent k_l_bent b_l_bent .nil pass0 (pa_cons (pv 1) (pa_cons (pv 4) pa_nil))))
        (pss_one (ps_if (pt_not (pt_val (pe_call G_l_right (hr.mono (by decide)) (by rfl) g_l_right k_l_right b_l_right .nil pass0 (pa_cons (pv 6) pa_nil))))
          (pss_one (ps_ret pe_bl))
          pss_nil))))
      (pss_cons (ps_set (i := 7) sc_law.nd rfl (.inl rfl) (pe_lst (pa_cons pe_non (pa_cons pe_bl (pa_cons pe_int (pa_cons (pe_lst (pa_cons (pv 4) pa_nil)) (pa_cons (pe_tup (pa_cons (pv 4) pa_nil)) (pa_cons (pe_disp (pps_cons (pv 4) (pv 4) pps_nil) (by rfl) (by rfl) (fun z => by cases z) (by decide)) (pa_cons pe_str (pa_cons (pe_tup (pa_cons (pv 2) (pa_cons (pv 3) pa_nil))) (pa_cons (pe_lst (pa_cons pe_str pa_nil)) (pa_cons (pe_op op_pow pe_int pe_int) pa_nil))))))))))))
      (pss_cons (ps_for PassesOwn.never rfl (pi_list (pe_op op_cat (pv 7) (pe_lst (pa_cons (pe_op op_add_str pe_str (pe_op op_repS pe_str pe_int)) (pa_cons (pe_op op_add_str pe_str (pe_op op_repS pe_str pe_int)) pa_nil))))) (pg_name (i := 8) sc_law.nd rfl (.inl rfl))
        (pss_one (ps_if (pt_cmpR (op_neD hr.units) (pe_call G_l_told (hr.mono (by decide)) (by rfl) g_l_told k_l_told b_l_told .nil pass0 (pa_cons (pv 8) pa_nil)) (pe_lst (pa_cons pe_str pa_nil)) (nomark _))
          (pss_one (ps_ret pe_bl))
          pss_nil)))
      (pss_one (ps_ret (pe_and (pe_call G_l_right (hr.mono (by decide)) (by rfl) g_l_right k_l_right b_l_right .nil pass0 (pa_cons (pv 4) pa_nil)) (pe_and (pe_cmpR op_notN (pe_call G_l_due (hr.mono (by decide)) (by rfl) g_l_due k_l_due b_l_due .nil pass0 (pa_cons (pv 4) pa_nil)) pe_non (nomark _)) (pe_one (pe_cmpR (op_eqD hr.units) (pe_ix ix_tup (pe_call G_l_due (hr.mono (by decide)) (by rfl) g_l_due k_l_due b_l_due .nil pass0 (pa_cons (pv 4) pa_nil)) pe_int (fun _ _ => rfl)) (pv 2) (nomark _))))))))))))))))), ?_⟩
    refine ⟨.ref sc, rfl, sc, ns, rfl, hS, hlen, fun d c H1 s1 nd nc D1 => ?_⟩
    have T1 := hT.same s1
    refine ⟨.ref d, rfl, d, c, rfl, D1, fun wv0 n0 ts0 H2 hW0 ok0 D2 K2 => ?_⟩
    have T2 := T1.kp K2 D1
    clear hS hT s1 nd nc
    obtain ⟨wa, wb, us, rfl, hwa, hwb, hp⟩ := hW0
    refine ⟨.ref wa, rfl, wa, _, 0, .int n0, rfl, rfl, SqT.of hwa, rfl, .ref wa, rfl, wa, _, 1, .ref wb, rfl, rfl, SqT.of hwa, rfl, 80, rfl, wb, us, rfl, hwb, fun r H3 s3 hr3 => ⟨by show 2 ≤ sizeLine; decide, fun p np => ?_⟩⟩
    rw [show (some (80 : Int)) = some ((80 : Nat) : Int) from rfl, cut_take] at hr3
    have sp := same_new (o := .tup [.int n0, .ref r]) np
    have web4 : WebAt (upd H3 p (.tup [.int n0, .ref r])) (.ref p) n0 (ts0.take 80) := ⟨p, r, us.take 80, rfl, upd_same, sp _ _ hr3, ties_tk (Same.tk sp) (ties_tk (Same.tk s3) (Paired.take 80 hp))⟩
    have D4 := (D2.same s3).same sp
    have T4 := (T2.same s3).same sp
    generalize upd H3 p (.tup [.int n0, .ref r]) = H4 at web4 D4 T4
    have okS : WebS n0 (ts0.take 80) := ⟨ok0.lo, Int.lt_of_le_of_lt ok0.hi (by decide), by rw [List.length_take]; omega, fun t h => ok0.ok t (List.mem_of_mem_take h)⟩
    refine ⟨fun σ' H' => ∃ (v : V) (n : Int) (ts : List Tie), σ' = [some (.ref sc), some (.ref d), some v, none, none, none, none, none, none] ∧ WebAt H' v n ts ∧ WebS n ts ∧ ts.length ≤ 80 ∧ Deck H' d c ∧ Tabs Ps H', ?_, ?_⟩
    · refine ⟨.ref d, rfl, d, c, 4, rfl, D4, by decide, by decide, fun v5 H5 a5 b5 D5 K5 => ⟨rfl, _, rfl, ?_⟩⟩
      have T5 := T4.kp K5 D4
      have web5 := web4.tk (K5.tk D4)
      refine ite2 (fun _ => ?_) (fun _ => ⟨.ref p, n0, ts0.take 80, rfl, web5, okS, by rw [List.length_take]; omega, D5, T5⟩)
      exact ⟨.ref d, rfl, d, c, rfl, D5, fun v n ts H6 hW6 ok6 l5 D6 K6 => ⟨v, n, ts, rfl, hW6, ok6, by omega, D6, T5.kp K6 D5⟩⟩
    rintro σ' H5 ⟨v, n, ts, rfl, hW5, ok5, l80, D5, T5⟩
    obtain ⟨wa, wb, us, rfl, hwa, hwb, hp⟩ := id hW5
    have lu : us.length = ts.length := Paired.length hp
    refine ⟨.ref d, rfl, .ref wa, rfl, wa, _, 1, .ref wb, rfl, rfl, SqT.of hwa, rfl, wb, us, rfl, .inr (SqT.of hwb), d, c, us.length, rfl, D5, by omega, fun ga ws H6 hga lws hws D6 K6 => ?_⟩
    have T6 := T5.kp K6 D5
    have hW6 := hW5.tk (K6.tk D5)
    have gW : WtsG ts (some ws) := fun ws' e => by
      cases e
      exact ⟨by omega, hws⟩
    have gN : ∀ ts : List Tie, WtsG ts none := fun ts ws' e => by cases e
    refine ⟨fun σ' H' => ∃ (v gv : V) (n : Int) (ts : List Tie) (W : Option (List Int)), σ' = [some (.ref sc), some (.ref d), some v, some gv, none, none, none, none, none] ∧ WebAt H' v n ts ∧ WebS n ts ∧ WtAt H' gv W ∧ WtsG ts W ∧ Deck H' d c ∧ Tabs Ps H', ?_, ?_⟩
    · refine ⟨.ref d, rfl, d, c, 2, rfl, D6, by decide, by decide, fun v7 H7 a7 b7 D7 K7 => ⟨rfl, _, rfl, ?_⟩⟩
      have T7 := T6.kp K7 D6
      have hW7 := hW6.tk (K7.tk D6)
      have hga7 := (K7.tk D6) _ _ hga
      refine ite2 (fun _ => ?_) (fun _ => ⟨.ref wa, .ref ga, n, ts, some ws, rfl, hW7, ok5, ⟨ga, rfl, hga7⟩, gW, D7, T7⟩)
      refine ⟨.ref d, rfl, d, c, 4, rfl, D7, by decide, by decide, fun v8 H8 a8 b8 D8 K8 => ⟨rfl, _, rfl, ?_⟩⟩
      have T8 := T7.kp K8 D7
      have hW8 := hW7.tk (K8.tk D7)
      have same : ∃ (v gv : V) (n : Int) (ts : List Tie) (W : Option (List Int)), [some (V.ref sc), some (V.ref d), some (V.ref wa), some V.non, none, none, none, none, none] = [some (V.ref sc), some (V.ref d), some v, some gv, none, none, none, none, none] ∧ WebAt H8 v n ts ∧ WebS n ts ∧ WtAt H8 gv W ∧ WtsG ts W ∧ Deck H8 d c ∧ Tabs Ps H8 := ⟨.ref wa, .non, n, ts, none, rfl, hW8, ok5, rfl, gN ts, D8, T8⟩
      refine ite2 (fun _ => ?_) (fun _ => same)
      obtain ⟨wa8, wb8, us8, ew, hwa8, hwb8, hp8⟩ := id hW8
      cases ew
      refine ⟨.ref wa, rfl, wa, _, 0, .int n, rfl, rfl, SqT.of hwa8, rfl, n, 41, rfl, rfl, ?_⟩
      by_cases c41 : n < 41
      rotate_left
      · exact ⟨false, congrArg V.bl (decide_eq_false c41), same⟩
      refine ⟨true, congrArg V.bl (decide_eq_true c41), ?_⟩
      have lu8 : us8.length = ts.length := Paired.length hp8
      refine ⟨.ref wa, rfl, wa, _, 0, .int n, rfl, rfl, SqT.of hwa8, rfl, .ref wa, rfl, wa, _, 1, .ref wb8, rfl, rfl, SqT.of hwa8, rfl, wb8, 400, us8, rfl, rfl, hwb8, by decide, by decide, by omega, fun r H9 s9 h9 => ?_⟩
      have D9 := D8.same s9
      have T9 := T8.same s9
      refine ⟨.ref d, rfl, d, c, 280, rfl, D9, by decide, by decide, fun u H10 a10 b10 D10 K10 => ⟨121, u, rfl, rfl, _, rfl, r, _, rfl, (K10.tk D9) _ _ h9, fun r2 H11 s11 h11 => ⟨by show 2 ≤ sizeLine; decide, fun p np => ?_⟩⟩⟩
      have s12 := same_new (o := .tup [.int n, .ref r2]) np
      have tk : Tk H8 _ := ((Same.tk s9).trans (K10.tk D9)).trans ((Same.tk s11).trans (Same.tk s12))
      have mem : ∀ x ∈ cutV (List.replicate (400 : Int).toNat us8).flatten none (some (121 + u)), ∃ t, TieV _ x t ∧ TieOk n t := fm_cut (fun x hx => by
        obtain ⟨l, hl, hxl⟩ := List.mem_flatten.mp hx
        rw [(List.mem_replicate.mp hl).2] at hxl
        obtain ⟨i, hi⟩ := List.getElem?_of_mem hxl
        obtain ⟨t, e, tv⟩ := Paired.at hp8 hi
        exact ⟨t, tv.tk tk, ok5.ok t (List.mem_of_getElem? e)⟩) _ _
      obtain ⟨ts', hp', ok'⟩ := pair_of _ mem
      refine ⟨.ref p, .non, n, ts', none, rfl, ⟨p, r2, _, rfl, upd_same, s12 _ _ h11, hp'⟩, ⟨ok5.lo, ok5.hi, ?_, ok'⟩, rfl, gN ts', (D10.same s11).new np, ((T9.kp K10 D9).same s11).same s12⟩
      rw [← Paired.length hp']
      unfold cutV
      rw [List.length_take]
      have : HT.sIx (List.replicate (400 : Int).toNat us8).flatten.length (List.replicate (400 : Int).toNat us8).flatten.length (some (121 + u)) ≤ 400 := by
        unfold HT.sIx
        show (if 121 + u < 0 then _ else _) ≤ 400
        rw [if_neg (by omega)]
        omega
      omega
    rintro σ' H7 ⟨v, gv, n, ts, W, rfl, hW7, ok7, hg7, gW7, D7, T7⟩
    have few7 := ok7.few
    refine ⟨v, rfl, gv, rfl, v, gv, n, ts, W, rfl, hW7, ok7, hg7, gW7, fun H8 s8 => ?_⟩
    have D8 := D7.same s8
    have T8 := T7.same s8
    have hW8 := hW7.tk (Same.tk s8)
    have hg8 := hg7.tk (Same.tk s8)
    generalize hx : textS n ts W = x
    have lx : x.length ≤ 70000 := by rw [← hx]; exact text_lenS ok7 gW7
    have rx : Reads x n ts (if ts = [] then none else W) := by rw [← hx]; exact reads_text ok7 gW7
    clear hW7 hg7 D7 T7
    refine ⟨10, rfl, by decide, by decide, ?_⟩
    refine for_range (lo := 0) (n := 10) (fun i σ' H' => ∃ y5 y6 : Option V, σ' = [some (.ref sc), some (.ref d), some v, some gv, some (.str x), y5, y6, none, none] ∧ WebAt H' v n ts ∧ WtAt H' gv W ∧ Deck H' d c ∧ Tabs Ps H') ⟨none, none, rfl, hW8, hg8, D8, T8⟩ ?_ ?_
    · rintro i σ' H9 hi ⟨y5, y6, rfl, hW9, hg9, D9, T9⟩
      refine ⟨.ref d, rfl, .str x, rfl, d, c, x, rfl, D9, lx, fun y H10 ly D10 K10 => ?_⟩
      have T10 := T9.kp K10 D9
      refine ⟨.str y, rfl, y, rfl, ly, T10, fun H11 k11 => ⟨_, rfl, ?_⟩⟩
      exact ⟨_, _, rfl, (hW9.tk (K10.tk D9)).tk (k11.tk T10), (hg9.tk (K10.tk D9)).tk (k11.tk T10), k11.deck T10 D10, k11.tab⟩
    clear hW8 hg8 D8 T8
    rintro σ' H9 ⟨y5, y6, rfl, hW9, hg9, D9, T9⟩
    refine ⟨.str x, rfl, by show 1 ≤ sizeLine; decide, fun p1 m1 => ?_⟩
    have s10 := same_new (o := .lst [.str x]) m1
    have h1 := upd_same (H := H9) (a := p1) (o := .lst [.str x])
    generalize upd H9 p1 (.lst [.str x]) = H10 at s10 h1
    refine ⟨.str x, rfl, by show 1 ≤ sizeLine; decide, fun p2 m2 => ?_⟩
    have s11 := same_new (o := .tup [.str x]) m2
    have h2 := upd_same (H := H10) (a := p2) (o := .tup [.str x])
    generalize upd H10 p2 (.tup [.str x]) = H11 at s11 h2
    intro p3 m3
    refine ⟨.str x, rfl, .str x, rfl, upd_same, [(.inr x, .str x)], rfl, (show (1 : Nat) ≤ 15 by decide), ?_⟩
    have s12 := Same.mut (o := .dK (mergeK [] [(.inr x, .str x)])) (same_new (o := .dK []) m3) m3
    have h3 := upd_same (H := upd H11 p3 (.dK [])) (a := p3) (o := .dK (mergeK [] [(.inr x, .str x)]))
    generalize upd (upd H11 p3 (.dK [])) p3 (.dK (mergeK [] [(.inr x, .str x)])) = H12 at s12 h3
    generalize mergeK [] [(Sum.inr x, V.str x)] = kvs3 at h3
    refine ⟨v, rfl, gv, rfl, by show 2 ≤ sizeLine; decide, fun p4 m4 => ?_⟩
    have s13 := same_new (o := .tup [v, gv]) m4
    have h4 := upd_same (H := H12) (a := p4) (o := .tup [v, gv])
    generalize upd H12 p4 (.tup [v, gv]) = H13 at s13 h4
    refine ⟨by show 1 ≤ sizeLine; decide, fun p5 m5 => ?_⟩
    have s14 := same_new (o := .lst [.str "web 1"]) m5
    have h5 := upd_same (H := H13) (a := p5) (o := .lst [.str "web 1"])
    generalize upd H13 p5 (.lst [.str "web 1"]) = H14 at s14 h5
    refine ⟨10, 59, rfl, rfl, ⟨by decide, by decide, by decide⟩, ?_⟩
    refine ⟨by show 10 ≤ sizeLine; decide, fun p6 m6 => ?_⟩
    have hall : ∀ y ∈ [V.non, .bl true, .int 7, .ref p1, .ref p2, .ref p3, .str "", .ref p4, .ref p5, V.int ((10 : Int) ^ (59 : Int).toNat)], OddK H14 y :=
      fm (OddK.no (v := .non) trivial rfl) (fm (OddK.no (v := .bl true) trivial rfl) (fm (OddK.no (v := .int 7) trivial rfl) (fm (OddK.no (v := .ref p1) (.inl ⟨_, s14 _ _ (s13 _ _ (s12 _ _ (s11 _ _ h1)))⟩) rfl)
        (fm (OddK.no (v := .ref p2) (.inr (.inl ⟨_, s14 _ _ (s13 _ _ (s12 _ _ h2))⟩)) rfl) (fm (OddK.no (v := .ref p3) (.inr (.inr ⟨_, s14 _ _ (s13 _ _ h3)⟩)) rfl) (fm ⟨trivial, fun y e => by cases e; exact ⟨by decide, odd_nil⟩⟩
          (fm (OddK.no (v := .ref p4) (.inr (.inl ⟨_, s14 _ _ h4⟩)) rfl) (fm (OddK.no (v := .ref p5) (.inl ⟨_, h5⟩) rfl) (fm (OddK.no (v := .int _) trivial rfl) fm_nil)))))))))
    have hlen10 : [V.non, .bl true, .int 7, .ref p1, .ref p2, .ref p3, .str "", .ref p4, .ref p5, V.int ((10 : Int) ^ (59 : Int).toNat)].length = 10 := rfl
    generalize [V.non, .bl true, .int 7, .ref p1, .ref p2, .ref p3, .str "", .ref p4, .ref p5, V.int ((10 : Int) ^ (59 : Int).toNat)] = odd at hall hlen10 ⊢
    have s15 := same_new (o := .lst odd) m6
    have h6 := upd_same (H := H14) (a := p6) (o := .lst odd)
    generalize upd H14 p6 (.lst odd) = H15 at s15 h6
    have s9 := ((((s10.trans s11).trans s12).trans s13).trans s14).trans s15
    have D15 := D9.same s9
    have T15 := T9.same s9
    have hW15 := hW9.tk (Same.tk s9)
    have hg15 := hg9.tk (Same.tk s9)
    have hall15 : ∀ y ∈ odd, OddK H15 y := fun y hy => (hall y hy).same s15
    clear hall h1 h2 h3 h4 h5 s10 s11 s12 s13 s14 s15 s9 hW9 hg9 D9 T9
    refine ⟨.ref p6, rfl, 57, 4400, by decide +kernel, rfl, by decide, by decide, fun z1 e1 => ?_⟩
    have m1' : z1.length = 4400 := by rw [len_tl, e1, List.length_replicate]; rfl
    refine ⟨("web " : Str), z1, rfl, rfl, by rw [show ("web " : Str).length = 4 from by decide, sizeLine_eq]; omega, 49, 4400, by decide +kernel, rfl, by decide, by decide, fun z2 e2 => ?_⟩
    have m2' : z2.length = 4400 := by rw [len_tl, e2, List.length_replicate]; rfl
    refine ⟨("web 2\n0 1 foe " : Str), z2, rfl, rfl, by rw [show ("web 2\n0 1 foe " : Str).length = 14 from by decide, sizeLine_eq]; omega, by show 2 ≤ sizeLine; decide, fun p7 m7 => ?_⟩
    have s16 := same_new (o := .lst [.str (("web " : Str) ++ z1), .str (("web 2\n0 1 foe " : Str) ++ z2)]) m7
    have h7 := upd_same (H := H15) (a := p7) (o := .lst [.str (("web " : Str) ++ z1), .str (("web 2\n0 1 foe " : Str) ++ z2)])
    have o1 : OddK H15 (.str (("web " : Str) ++ z1)) := ⟨trivial, fun y e => by
      cases e
      refine ⟨?_, odd_one e1⟩
      rw [app_len, show ("web " : Str).length = 4 from by decide]
      omega⟩
    have o2 : OddK H15 (.str (("web 2\n0 1 foe " : Str) ++ z2)) := ⟨trivial, fun y e => by
      cases e
      refine ⟨?_, odd_two e2⟩
      rw [app_len, show ("web 2\n0 1 foe " : Str).length = 14 from by decide]
      omega⟩
    generalize (("web " : Str) ++ z1) = t1 at s16 h7 o1 ⊢
    generalize (("web 2\n0 1 foe " : Str) ++ z2) = t2 at s16 h7 o2 ⊢
    generalize upd H15 p7 (.lst [.str t1, .str t2]) = H16 at s16 h7
    refine ⟨p6, p7, _, _, rfl, rfl, s16 _ _ h6, h7, by rw [hlen10]; show 12 ≤ sizeLine; decide, fun p8 m8 => ?_⟩
    have all2 : ∀ y ∈ odd ++ [V.str t1, .str t2], OddK H15 y := fun y hy => (List.mem_append.mp hy).elim (fun h => hall15 y h) (fun h => fm (R := OddK H15) o1 (fm o2 fm_nil) y h)
    have s17 := same_new (o := .lst (odd ++ [V.str t1, .str t2])) m8
    have h8 := upd_same (H := H16) (a := p8) (o := .lst (odd ++ [V.str t1, .str t2]))
    generalize upd H16 p8 (.lst (odd ++ [V.str t1, .str t2])) = H17 at s17 h8
    have s18 := s16.trans s17
    have T17 := T15.same s18
    have hW17 := hW15.tk (Same.tk s18)
    have hg17 := hg15.tk (Same.tk s18)
    have all3 : ∀ y ∈ odd ++ [V.str t1, .str t2], OddK H17 y := fun y hy => (all2 y hy).same s18
    generalize odd ++ [V.str t1, .str t2] = things at h8 all3 all2 ⊢
    refine ⟨p8, rfl, ⟨_, SqL.of h8⟩, ?_⟩
    refine for_list (xs := things) (fun j σ' H' => ∃ y8 : Option V, σ' = [some (.ref sc), some (.ref d), some v, some gv, some (.str x), y5, y6, some (.ref p6), y8] ∧ Kt Ps H17 H') ⟨_, rfl, Kt.refl T17⟩ (fun j σ' H' _ h => by
      obtain ⟨_, _, k9⟩ := h
      exact SqL.of (k9.lst T17 h8)) ?_ ?_
    · rintro j y σ' H18 ey ⟨y8, rfl, k6⟩
      have ho := all3 y (List.mem_of_getElem? ey)
      refine ⟨y, rfl, y, rfl, k6.kn T17 ho.1, fun x' e => (ho.2 x' e).1, k6.tab, fun x' n' ts' W' e hr' => absurd ⟨n', ts', W', hr'⟩ (ho.2 x' e).2, fun _ r H19 hr19 k7 => ⟨by show 1 ≤ sizeLine; decide, fun p np => ?_⟩⟩
      have sp := same_new (o := .lst [.str "refused"]) np
      refine ⟨refD, refD, .lst (SqL.of (sp _ _ hr19)) (.cons (.str _) .nil), .lst (SqL.of upd_same) (.cons (.str _) .nil), shaped_ref, shaped_ref, ?_⟩
      rw [PySem.SeqAt.eqv_refl _ lay_ref]
      exact ⟨_, rfl, _, rfl, (k6.trans k7).trans (Kt.same k7.tab sp)⟩
    · rintro σ' H18 ⟨y8, rfl, k6⟩
      have hW18 := hW17.tk (k6.tk T17)
      have lx5 : x.length ≤ 500000 := by omega
      refine ⟨.str x, rfl, x, rfl, lx5, k6.tab, fun H19 k7 => ?_⟩
      have hW19 := hW18.tk (k7.tk k6.tab)
      refine ⟨_, rfl, .str x, rfl, x, rfl, lx5, fun n' ts' W' hr' a wv gv' H20 ha hw hg s20 => ?_, fun nr => absurd ⟨_, _, _, rx⟩ nr⟩
      obtain ⟨rfl, rfl, rfl⟩ := rx.uniq hr'
      have hW20 := hW19.tk (Same.tk s20)
      refine ⟨rfl, _, rfl, ite2 (fun _ => ?_) (fun z => absurd (by simp) z)⟩
      refine ⟨.str x, rfl, x, rfl, lx5, fun n2 ts2 W2 hr2 a2 wv2 gv2 H21 ha2 hw2 hg2 s21 => ?_, fun nr => absurd ⟨_, _, _, rx⟩ nr⟩
      obtain ⟨rfl, rfl, rfl⟩ := rx.uniq hr2
      have hW21 := hW20.tk (Same.tk s21)
      refine ⟨a2, _, 0, wv2, rfl, rfl, SqT.of ha2, rfl, v, rfl, webD n ts, webD n ts, hw2.dp, hW21.dp, shaped_web n ts, shaped_web n ts, ?_⟩
      rw [PySem.SeqAt.eqv_refl _ (lay_web n ts)]
      exact q _
end
/-! ### a tuple of texts that stands in the module -/
structure TupK (K : PySem.W.Frag) (x : Str) (ka : Addr) (ss : List Str) : Prop where
  ns : PySem.W.nsIn K mainGlobals x = some (some (.ref ka))
  ex : ∃ (o : Obj) (its : Array Value) (n : Nat), K.lookup ka = some o ∧ o.cls = .type "tuple" ∧ o.data = .seq its n ∧ its.size ≤ sizeLine ∧ Vals (ss.map V.str) its.toList
theorem TupK.sqt {K : PySem.W.Frag} {x : Str} {ka : Addr} {ss : List Str} (h : TupK K x ka ss) (H : Hp) : SqT K H ka (ss.map V.str) := .inr h.ex
theorem tupK_mk2 {K : PySem.W.Frag} {x a b : Str} {ka : Addr} {t1 t2 : Tok} {od : Option Addr} {n : Nat} {osl : Array (Option Value)} (p1 : PySem.W.nsIn K mainGlobals x = some (some (.ref ka))) (p2 : K.lookup ka = some ⟨.type "tuple", od, .seq #[.str a t1, .str b t2] n, osl⟩) : TupK K x ka [a, b] :=
  ⟨p1, _, _, _, p2, rfl, rfl, by show 2 ≤ sizeLine; decide, .cons ⟨_, rfl⟩ (.cons ⟨_, rfl⟩ .nil)⟩
/-! ### the end of a law whose defs hold generator expressions: their tables are empty behind the top -/
theorem walk_tabs {l : PySem.W.OpenLaw} {n k : Nat} {q : Program} {loose : List Str} {XP : (Str → Option Value) → Heap → Prop} {YP : World → Heap → Prop} {d : DefRec} {K : Params → PySem.W.Frag} {x : Str}
    (hn : l.most = some n) (hn2 : n ≤ sizeLine) (hdf : d.params.defaults = []) (hr : Room k callerA) (hY : ∀ (w : World) (h : Heap), YP w h → (K w.params).In h)
    (F : ∀ (w : World) (mg : Str → Option Value) (fa : Addr) (h : Heap), (K w.params).In h → h.Ns mainGlobals mg → mg d.name = some (.ref fa) →
      (∀ (y : Str) (fy : Addr), ((recsOf q).any fun e => e.name == y) = true → mg y = some (.ref fy) → LamX.OwnTab (K w.params) fy h) → LamX.LawAtS l w (K w.params) CX0 k n x mg fa h) :
    PySem.W.WalkO q loose XP YP l.row.toRowW d [] (fun f vs => PySem.call f vs) := by
  refine Att.attach_callB hn hdf fun w s₀ s₁ mg mb fa o pm cd doc a vs ns G Y ho hd hcd hmg hobj hints hlen hbits hg => ?_
  have KX := hY w _ Y
  have tabs : ∀ (y : Str) (fy : Addr), ((recsOf q).any fun e => e.name == y) = true → mg y = some (.ref fy) → LamX.OwnTab (K w.params) fy s₁.heap := fun y fy hy hm c P o1 fd1 e dd vs1 sl k1 k2 k3 k4 k5 => by
    obtain ⟨dL, hmem, hnm⟩ := List.any_eq_true.mp hy
    have hnm : dL.name = y := beq_iff_eq.mp hnm
    obtain ⟨a', o', fd', c', P', h1, h2, h3, h4, h5, h6⟩ := G.T.tab dL hmem
    rw [hnm, hm] at h1
    cases h1
    rw [KX _ _ k1] at h2
    cases h2
    rw [k2] at h3
    cases h3
    rw [k3] at h4
    cases h4
    obtain ⟨⟨oc, vc, e1, _, e3, e4⟩, hP⟩ := h6
    rw [KX _ _ k4] at e1
    cases e1
    cases e3
    rw [k5] at e4
    cases e4
    exact hP
  obtain ⟨fd, cs, sp, hT, nT, C, hb, hsp, hF⟩ := F w mg fa _ KX G.T.g hmg tabs
  exact LamX.law_callTs KX G.T.g G.T.b G.T.builtins G.T.nolimit hg hT nT C G.T.bmain hobj hints (Nat.le_trans hlen hn2) hr hF hb (fun H hH hS => hsp H a ns hlen hbits hH hS) fun H e s' z => z
/-- where a def stands, and where its code object does -/
structure At (K : PySem.W.Frag) (x : Str) (st : Stmt) (f : Addr) : Prop where
  ns : PySem.W.nsIn K mainGlobals x = some (some (.ref f))
  ex : ∃ (oc : Value) (od : Option Addr) (kV doc pm : Value) (an : Option Addr) (cdv ct : Value) (osl : Array (Option Value)),
    K.lookup f = some ⟨oc, od, .func (PySem.W.fnOf x x (defArgs st) (defBody st) (defScope st) .none kV doc pm an cdv ct), osl⟩ ∧ PySem.W.codeIn K cdv x = true
  kp : PySem.W.keepIn K (.ref f) = true
theorem at_mk {K : PySem.W.Frag} {x : Str} {st : Stmt} {f : Addr} {oc : Value} {od an : Option Addr} {osl : Array (Option Value)} {kV doc pm cdv ct : Value} (a : PySem.W.nsIn K mainGlobals x = some (some (.ref f)))
    (l : K.lookup f = some ⟨oc, od, .func (PySem.W.fnOf x x (defArgs st) (defBody st) (defScope st) .none kV doc pm an cdv ct), osl⟩) (c : PySem.W.codeIn K cdv x = true) (k : PySem.W.keepIn K (.ref f) = true) : At K x st f := ⟨a, ⟨oc, od, kV, doc, pm, an, cdv, ct, osl, l, c⟩, k⟩
theorem At.fn {K : PySem.W.Frag} {x : Str} {st : Stmt} {f : Addr} (h : At K x st f) : ∃ fd, Fun K x x st f fd := by
  obtain ⟨oc, od, kV, doc, pm, an, cdv, ct, osl, l, c⟩ := h.ex
  exact ⟨_, fun_mk l c h.kp⟩
structure AtC (K : PySem.W.Frag) (x : Str) (st : Stmt) (f c Pt : Addr) : Prop where
  ns : PySem.W.nsIn K mainGlobals x = some (some (.ref f))
  ex : ∃ (oc : Value) (od : Option Addr) (kV doc pm : Value) (an : Option Addr) (ct : Value) (osl : Array (Option Value)),
    K.lookup f = some ⟨oc, od, .func (PySem.W.fnOf x x (defArgs st) (defBody st) (defScope st) .none kV doc pm an (.ref c) ct), osl⟩ ∧ PySem.W.codeIn K (.ref c) x = true
  kp : PySem.W.keepIn K (.ref f) = true
  co : ∃ (dd : Option Addr) (vs : Array Value) (sl : Array (Option Value)) (file : Str) (tf : Tok) (flags : Int) (tg : Tok) (inF : Bool) (text : Int) (tt : Tok), K.lookup c = some ⟨.type "code", dd, .fields vs, sl⟩ ∧ vs[11]? = some (.ref Pt) ∧ vs.getD 11 .none = .ref Pt ∧ vs.getD 18 .none = .str file tf ∧
    vs.getD 7 .none = .int flags tg ∧ vs.getD 9 .none = .bool inF ∧ vs.getD 10 .none = .int text tt ∧ c ≠ Pt
  nP : K.lookup Pt = none
theorem atC_mk {K : PySem.W.Frag} {x : Str} {st : Stmt} {f c Pt : Addr} {oc : Value} {od an dd : Option Addr} {osl sl : Array (Option Value)} {kV doc pm ct : Value} {vs : Array Value} {file : Str} {tf tg tt : Tok} {flags text : Int} {inF : Bool} (a : PySem.W.nsIn K mainGlobals x = some (some (.ref f)))
    (l : K.lookup f = some ⟨oc, od, .func (PySem.W.fnOf x x (defArgs st) (defBody st) (defScope st) .none kV doc pm an (.ref c) ct), osl⟩) (cc : PySem.W.codeIn K (.ref c) x = true) (k : PySem.W.keepIn K (.ref f) = true)
    (lc : K.lookup c = some ⟨.type "code", dd, .fields vs, sl⟩) (v11 : vs[11]? = some (.ref Pt)) (w11 : vs.getD 11 .none = .ref Pt) (v18 : vs.getD 18 .none = .str file tf) (v7 : vs.getD 7 .none = .int flags tg) (v9 : vs.getD 9 .none = .bool inF) (v10 : vs.getD 10 .none = .int text tt) (ne : c ≠ Pt)
    (nP : K.lookup Pt = none) : AtC K x st f c Pt := ⟨a, ⟨oc, od, kV, doc, pm, an, ct, osl, l, cc⟩, k, ⟨dd, vs, sl, file, tf, flags, tg, inF, text, tt, lc, v11, w11, v18, v7, v9, v10, ne⟩, nP⟩
theorem AtC.fn {K : PySem.W.Frag} {x : Str} {st : Stmt} {f c Pt : Addr} (h : AtC K x st f c Pt) : ∃ fd, FunC K x x st f fd c := by
  obtain ⟨oc, od, kV, doc, pm, an, ct, osl, l, cc⟩ := h.ex
  exact ⟨_, ⟨oc, od, kV, doc, pm, an, ct, osl, rfl, l, cc⟩, h.kp⟩
theorem AtC.hd {K : PySem.W.Frag} {h : Heap} {x : Str} {st : Stmt} {f c Pt : Addr} (a : AtC K x st f c Pt) (X : K.In h) : PySem.W.CodeHd h c Pt := by
  obtain ⟨dd, vs, sl, file, tf, flags, tg, inF, text, tt, lc, v11, w11, v18, v7, v9, v10, ne⟩ := a.co
  exact ⟨_, vs, file, tf, flags, tg, inF, text, tt, X _ _ lc, rfl, rfl, v11, w11, v18, v7, v9, v10, ne⟩
theorem AtC.tab {K : PySem.W.Frag} {h : Heap} {x : Str} {st : Stmt} {f c Pt : Addr} (a : AtC K x st f c Pt) (o : LamX.OwnTab K f h) : h.get? Pt = some { cls := .none, data := .fields #[] } := by
  obtain ⟨oc, od, kV, doc, pm, an, ct, osl, l, cc⟩ := a.ex
  obtain ⟨dd, vs, sl, file, tf, flags, tg, inF, text, tt, lc, v11, w11, v18, v7, v9, v10, ne⟩ := a.co
  exact o c Pt _ _ _ _ _ _ l rfl rfl lc v11
section
variable {P : Program} {w : World} {K : PySem.W.Frag} {mg : Str → Option Value} {base : Heap}
theorem Df.of {x : Str} {st : Stmt} {f : Addr} {fd : FuncData} {k : Nat} {ps : List Str} {sp : Sp} (g : mg x = some (.ref f)) (F : Fun K x x st f fd) (G : FnOk P w K mg base CX0 k f fd ps sp)
    (h : ∀ (kV doc pm : Value) (an : Option Addr) (cdv ct : Value) (us : List Value), us.length = ps.length → bindArgs (PySem.W.fnOf x x (defArgs st) (defBody st) (defScope st) .none kV doc pm an cdv ct) ⟨us, []⟩ = pure (ps.zip us)) : Df P w K mg base k x ps sp :=
  ⟨f, fd, G, g, F.kp, F.binds h⟩
end
/-! ### defs that may raise where nothing is handled, and defs called in a suite -/
theorem DfN.of {P : Program} {w : World} {K : PySem.W.Frag} {mg : Str → Option Value} {base : Heap} {x : Str} {st : Stmt} {f : Addr} {fd : FuncData} {k : Nat} {ps : List Str} {sp : Sp} (g : mg x = some (.ref f)) (F : Fun K x x st f fd) (G : FnOk P w K mg base (L2N.CX P w) k f fd ps sp)
    (h : ∀ (kV doc pm : Value) (an : Option Addr) (cdv ct : Value) (us : List Value), us.length = ps.length → bindArgs (PySem.W.fnOf x x (defArgs st) (defBody st) (defScope st) .none kV doc pm an cdv ct) ⟨us, []⟩ = pure (ps.zip us)) : DfN P w K mg base k x ps sp :=
  ⟨f, fd, G, g, F.kp, F.binds h⟩
/-! ### what the top has written -/
section
variable {P : Program} {w : World} {K : PySem.W.Frag} {mg : Str → Option Value} {base : Heap}
set_option maxHeartbeats 0 in
theorem law_at {l : PySem.W.OpenLaw} {w : World} {K : PySem.W.Frag} {h : Heap} {mg : Str → Option Value} {fa f0 f1 f2 f3 f4 f5 f6 f7 f8 f9 f10 f11 f12 f13 f14 f15 f16 f17 f18 f19 f20 f21 f22 f23 f24 f25 f26 f27 c6 P6 c7 P7 c8 P8 c11 P11 eW e_NoText e_NoFrame e_NoTie e_NoRow e_NotFlat e_TooMany u_0 : Addr} {nt0 nt1 : Tok} (X : K.In h) (G : h.Ns mainGlobals mg) (hfa : mg "law" = some (.ref fa))
    (t6 : ∀ (fy : Addr), mg "is_web" = some (.ref fy) → LamX.OwnTab K fy h)
    (t7 : ∀ (fy : Addr), mg "is_weights" = some (.ref fy) → LamX.OwnTab K fy h)
    (t8 : ∀ (fy : Addr), mg "writes_number" = some (.ref fy) → LamX.OwnTab K fy h)
    (t11 : ∀ (fy : Addr), mg "read_weights" = some (.ref fy) → LamX.OwnTab K fy h)
    (a0 : At K "is_whole" s_is_whole f0)
    (a1 : At K "is_whole_from" s_is_whole_from f1)
    (a2 : At K "is_whole_below" s_is_whole_below f2)
    (a3 : At K "are_unlike_places" s_are_unlike_places f3)
    (a4 : At K "is_tuple_of" s_is_tuple_of f4)
    (a5 : At K "is_tie" s_is_tie f5)
    (a6 : AtC K "is_web" s_is_web f6 c6 P6)
    (a7 : AtC K "is_weights" s_is_weights f7 c7 P7)
    (a8 : AtC K "writes_number" s_writes_number f8 c8 P8)
    (a9 : At K "read_number" s_read_number f9)
    (a10 : At K "read_many" s_read_many f10)
    (a11 : AtC K "read_weights" s_read_weights f11 c11 P11)
    (a12 : At K "read_web" s_read_web f12)
    (a13 : At K "_law_deck" s_l_deck f13)
    (a14 : At K "_law_draw" s_l_draw f14)
    (a15 : At K "_law_web" s_l_web f15)
    (a16 : At K "_law_weights" s_l_weights f16)
    (a17 : At K "_law_shown" s_l_shown f17)
    (a18 : At K "_law_number" s_l_number f18)
    (a19 : At K "_law_tie_of" s_l_tie_of f19)
    (a20 : At K "_law_due" s_l_due f20)
    (a21 : At K "_law_far_web" s_l_far_web f21)
    (a22 : At K "_law_word_otherwise" s_l_word_otherwise f22)
    (a23 : At K "_law_signs" s_l_signs f23)
    (a24 : At K "_law_bent" s_l_bent f24)
    (a25 : At K "_law_told" s_l_told f25)
    (a26 : At K "_law_right" s_l_right f26)
    (a27 : At K "law" s_law f27)
    (z0 : PySem.W.nsIn K mainGlobals "len" = some none)
    (z1 : PySem.W.nsIn K mainGlobals "int" = some none)
    (z2 : PySem.W.nsIn K mainGlobals "bool" = some none)
    (z3 : PySem.W.nsIn K mainGlobals "str" = some none)
    (z4 : PySem.W.nsIn K mainGlobals "list" = some none)
    (z5 : PySem.W.nsIn K mainGlobals "tuple" = some none)
    (z6 : PySem.W.nsIn K mainGlobals "range" = some none)
    (z7 : PySem.W.nsIn K mainGlobals "isinstance" = some none)
    (z8 : PySem.W.nsIn K mainGlobals "sum" = some none)
    (z9 : PySem.W.nsIn K mainGlobals "all" = some none)
    (z10 : PySem.W.nsIn K mainGlobals "ValueError" = some none)
    (e0 : ErrK K "NoText" e_NoText eW)
    (k0_0 : KitK K e_NoText "NoText" e_NoText true)
    (k0_1 : KitK K e_NoText "NoFrame" e_NoFrame false)
    (k0_2 : KitK K e_NoText "NoTie" e_NoTie false)
    (k0_3 : KitK K e_NoText "NoRow" e_NoRow false)
    (k0_4 : KitK K e_NoText "NotFlat" e_NotFlat false)
    (k0_5 : KitK K e_NoText "TooMany" e_TooMany false)
    (v0 : PySem.W.kitOne K (.ref e_NoText) (.type "ValueError") = some true)
    (n0 : PySem.W.nsIn K mainGlobals "MOST_FIGURES" = some (some (.int 31 nt0)))
    (n1 : PySem.W.nsIn K mainGlobals "FIGURES" = some (some (.str "0123456789" nt1)))
    (u0 : TupK K "KINDS" u_0 ["friend", "foe"]) :
    LamX.LawAtS l w K CX0 10 63 "_law_script" mg fa h := by
  have efa := hfa.symm.trans (PySem.W.mg_of X G a27.ns)
  cases efa
  have M : Free mg := ⟨PySem.W.mg_none_of X G z0, PySem.W.mg_none_of X G z1, PySem.W.mg_none_of X G z2, PySem.W.mg_none_of X G z3, PySem.W.mg_none_of X G z4, PySem.W.mg_none_of X G z5, PySem.W.mg_none_of X G z6, PySem.W.mg_none_of X G z7, PySem.W.mg_none_of X G z8⟩
  have m_all := PySem.W.mg_none_of X G z9
  have m_ValueError := PySem.W.mg_none_of X G z10
  obtain ⟨d0, F0⟩ := a0.fn
  obtain ⟨d1, F1⟩ := a1.fn
  obtain ⟨d2, F2⟩ := a2.fn
  obtain ⟨d3, F3⟩ := a3.fn
  obtain ⟨d4, F4⟩ := a4.fn
  obtain ⟨d5, F5⟩ := a5.fn
  obtain ⟨d6, F6⟩ := a6.fn
  obtain ⟨d7, F7⟩ := a7.fn
  obtain ⟨d8, F8⟩ := a8.fn
  obtain ⟨d9, F9⟩ := a9.fn
  obtain ⟨d10, F10⟩ := a10.fn
  obtain ⟨d11, F11⟩ := a11.fn
  obtain ⟨d12, F12⟩ := a12.fn
  obtain ⟨d13, F13⟩ := a13.fn
  obtain ⟨d14, F14⟩ := a14.fn
  obtain ⟨d15, F15⟩ := a15.fn
  obtain ⟨d16, F16⟩ := a16.fn
  obtain ⟨d17, F17⟩ := a17.fn
  obtain ⟨d18, F18⟩ := a18.fn
  obtain ⟨d19, F19⟩ := a19.fn
  obtain ⟨d20, F20⟩ := a20.fn
  obtain ⟨d21, F21⟩ := a21.fn
  obtain ⟨d22, F22⟩ := a22.fn
  obtain ⟨d23, F23⟩ := a23.fn
  obtain ⟨d24, F24⟩ := a24.fn
  obtain ⟨d25, F25⟩ := a25.fn
  obtain ⟨d26, F26⟩ := a26.fn
  obtain ⟨d27, F27⟩ := a27.fn
  have g0 := PySem.W.mg_of X G a0.ns
  have g1 := PySem.W.mg_of X G a1.ns
  have g2 := PySem.W.mg_of X G a2.ns
  have g3 := PySem.W.mg_of X G a3.ns
  have g4 := PySem.W.mg_of X G a4.ns
  have g5 := PySem.W.mg_of X G a5.ns
  have g6 := PySem.W.mg_of X G a6.ns
  have g7 := PySem.W.mg_of X G a7.ns
  have g8 := PySem.W.mg_of X G a8.ns
  have g9 := PySem.W.mg_of X G a9.ns
  have g10 := PySem.W.mg_of X G a10.ns
  have g11 := PySem.W.mg_of X G a11.ns
  have g12 := PySem.W.mg_of X G a12.ns
  have g13 := PySem.W.mg_of X G a13.ns
  have g14 := PySem.W.mg_of X G a14.ns
  have g15 := PySem.W.mg_of X G a15.ns
  have g16 := PySem.W.mg_of X G a16.ns
  have g17 := PySem.W.mg_of X G a17.ns
  have g18 := PySem.W.mg_of X G a18.ns
  have g19 := PySem.W.mg_of X G a19.ns
  have g20 := PySem.W.mg_of X G a20.ns
  have g21 := PySem.W.mg_of X G a21.ns
  have g22 := PySem.W.mg_of X G a22.ns
  have g23 := PySem.W.mg_of X G a23.ns
  have g24 := PySem.W.mg_of X G a24.ns
  have g25 := PySem.W.mg_of X G a25.ns
  have g26 := PySem.W.mg_of X G a26.ns
  have hb0 : ∀ (s : Shared) (u : Value), BindsTo s d27 ⟨[u], []⟩ [("_law_script", u)] := by
    obtain ⟨oc, od, kV, doc, pm, an, cdv, ct, osl, rfl, _⟩ := F27.ex
    exact fun s u => .of_eq rfl
  refine ⟨d27, [(c6, P6), (c7, P7), (c8, P8), (c11, P11)], (spLaw K [P6, P7, P8, P11]), (List.forall_mem_cons.mpr ⟨a6.tab (t6 _ g6), (List.forall_mem_cons.mpr ⟨a7.tab (t7 _ g7), (List.forall_mem_cons.mpr ⟨a8.tab (t8 _ g8), (List.forall_mem_cons.mpr ⟨a11.tab (t11 _ g11), (fun p hp => by simp at hp)⟩)⟩)⟩)⟩), (List.forall_mem_cons.mpr ⟨a6.nP, (List.forall_mem_cons.mpr ⟨a7.nP, (List.forall_mem_cons.mpr ⟨a8.nP, (List.forall_mem_cons.mpr ⟨a11.nP, (fun p hp => by simp at hp)⟩)⟩)⟩)⟩), (List.forall_mem_cons.mpr ⟨a6.hd X, (List.forall_mem_cons.mpr ⟨a7.hd X, (List.forall_mem_cons.mpr ⟨a8.hd X, (List.forall_mem_cons.mpr ⟨a11.hd X, (fun p hp => by simp at hp)⟩)⟩)⟩)⟩), hb0, fun H a ns hl _ hT hS => ⟨a, ns, rfl, hS, hl, (List.forall_mem_cons.mpr ⟨⟨#[], hT (c6, P6) (by simp), by trivial⟩, (List.forall_mem_cons.mpr ⟨⟨#[], hT (c7, P7) (by simp), by trivial⟩, (List.forall_mem_cons.mpr ⟨⟨#[], hT (c8, P8) (by simp), by trivial⟩, (List.forall_mem_cons.mpr ⟨⟨#[], hT (c11, P11) (by simp), by trivial⟩, (fun p hp => by simp at hp)⟩)⟩)⟩)⟩), fun _ => rfl⟩, fun base KB GB TB => ?_⟩
  have tb6 := TB (c6, P6) (by simp)
  have tb7 := TB (c7, P7) (by simp)
  have tb8 := TB (c8, P8) (by simp)
  have tb11 := TB (c11, P11) (by simp)
  have D0 : Df l.prog w K mg base 1 "is_whole" ["thing"] spWhole := .of g0 F0 (ok_is_whole F0 M) fun _ _ _ _ _ _ us hl => match us, hl with | [_], _ => rfl
  have D1 : Df l.prog w K mg base 2 "is_whole_from" ["low", "thing"] spFrom := .of g1 F1 (ok_is_whole_from F1 D0) fun _ _ _ _ _ _ us hl => match us, hl with | [_, _], _ => rfl
  have D2 : Df l.prog w K mg base 2 "is_whole_below" ["limit", "thing"] spBelow := .of g2 F2 (ok_is_whole_below F2 D0) fun _ _ _ _ _ _ us hl => match us, hl with | [_, _], _ => rfl
  have D3 : Df l.prog w K mg base 3 "are_unlike_places" ["many", "one", "other"] spUnlPl := .of g3 F3 (ok_unlike_places F3 D2) fun _ _ _ _ _ _ us hl => match us, hl with | [_, _, _], _ => rfl
  have D4 : Df l.prog w K mg base 1 "is_tuple_of" ["length", "thing"] spTupleOf := .of g4 F4 (ok_is_tuple_of F4 M) fun _ _ _ _ _ _ us hl => match us, hl with | [_, _], _ => rfl
  have D5 : Df l.prog w K mg base 4 "is_tie" ["many", "thing"] (spTie K) := .of g5 F5 (ok_is_tie F5 (PySem.W.mg_of X G u0.ns) u0.sqt D4 D3) fun _ _ _ _ _ _ us hl => match us, hl with | [_, _], _ => rfl
  have D6 : Df l.prog w K mg base 6 "is_web" ["thing"] (spIsWeb K [P6, P7, P8, P11]) := .of g6 F6.fn (ok_is_web F6 ⟨tb6.code, tb6.bm, tb6.gP⟩ (show P6 ∈ [P6, P7, P8, P11] by simp) M m_all D4 D1 D5) fun _ _ _ _ _ _ us hl => match us, hl with | [_], _ => rfl
  have D7 : Df l.prog w K mg base 4 "is_weights" ["web", "thing"] (spIsWeightsB [P6, P7, P8, P11]) := .of g7 F7.fn (ok_is_weightsB F7 ⟨tb7.code, tb7.bm, tb7.gP⟩ (show P7 ∈ [P6, P7, P8, P11] by simp) M m_all D1 D4) fun _ _ _ _ _ _ us hl => match us, hl with | [_, _], _ => rfl
  have D8 : Df l.prog w K mg base 2 "writes_number" ["word"] (spWrites [P6, P7, P8, P11]) := .of g8 F8.fn (ok_writes_number F8 ⟨tb8.code, tb8.bm, tb8.gP⟩ (show P8 ∈ [P6, P7, P8, P11] by simp) M m_all (PySem.W.mg_of X G n0) (PySem.W.mg_of X G n1)) fun _ _ _ _ _ _ us hl => match us, hl with | [_], _ => rfl
  have D9 : DfN l.prog w K mg base 3 "read_number" ["word"] (spReadNumN [P6, P7, P8, P11] e_NoText) := .of g9 F9 (okN_read_number (e0.ref X G) F9 M D8) fun _ _ _ _ _ _ us hl => match us, hl with | [_], _ => rfl
  have D10 : DfN l.prog w K mg base 4 "read_many" ["line"] (spReadManyN [P6, P7, P8, P11] e_NoText) := .of g10 F10 (okN_read_many (e0.ref X G) F10 M D9) fun _ _ _ _ _ _ us hl => match us, hl with | [_], _ => rfl
  have D11 : DfN l.prog w K mg base 4 "read_weights" ["rows"] (spReadWeightsN [P6, P7, P8, P11] e_NoText) := .of g11 F11.fn (okN_read_weights (e0.ref X G) F11 ⟨tb11.code, tb11.bm, tb11.gP⟩ (show P11 ∈ [P6, P7, P8, P11] by simp) M m_all D9) fun _ _ _ _ _ _ us hl => match us, hl with | [_], _ => rfl
  have D12 : DfN l.prog w K mg base 7 "read_web" ["text"] (spReadWebN [P6, P7, P8, P11] e_NoText) := .of g12 F12 (okN_read_web (e0.ref X G) F12 M D10 D11 D9 D6 D7) fun _ _ _ _ _ _ us hl => match us, hl with | [_], _ => rfl
  have D13 : Df l.prog w K mg base 1 "_law_deck" ["_law_script"] (spDeck K) := .of g13 F13 (ok_l_deck F13 M) fun _ _ _ _ _ _ us hl => match us, hl with | [_], _ => rfl
  have D14 : Df l.prog w K mg base 1 "_law_draw" ["_law_deck_here", "_law_many"] spDraw := .of g14 F14 (ok_l_draw F14) fun _ _ _ _ _ _ us hl => match us, hl with | [_, _], _ => rfl
  have D15 : Df l.prog w K mg base 2 "_law_web" ["_law_deck_here"] spWeb := .of g15 F15 (ok_l_web F15 M D14) fun _ _ _ _ _ _ us hl => match us, hl with | [_], _ => rfl
  have D16 : Df l.prog w K mg base 2 "_law_weights" ["_law_deck_here", "_law_many"] spWeights := .of g16 F16 (ok_l_weights F16 M D14) fun _ _ _ _ _ _ us hl => match us, hl with | [_, _], _ => rfl
  have D17 : Df l.prog w K mg base 1 "_law_shown" ["_law_web_here", "_law_weights_here"] spShowS := .of g17 F17 (ok_l_shown F17 M) fun _ _ _ _ _ _ us hl => match us, hl with | [_, _], _ => rfl
  have D18 : Df l.prog w K mg base 1 "_law_number" ["_law_word"] spNumber := .of g18 F18 (ok_l_number F18 M) fun _ _ _ _ _ _ us hl => match us, hl with | [_], _ => rfl
  have D19 : Df l.prog w K mg base 2 "_law_tie_of" ["_law_words", "_law_many"] spTieOf := .of g19 F19 (ok_l_tie_of F19 D18) fun _ _ _ _ _ _ us hl => match us, hl with | [_, _], _ => rfl
  have D20 : Df l.prog w K mg base 3 "_law_due" ["_law_text"] spDue := .of g20 F20 (ok_l_due F20 M D18 D19) fun _ _ _ _ _ _ us hl => match us, hl with | [_], _ => rfl
  have D21 : Df l.prog w K mg base 2 "_law_far_web" ["_law_deck_here"] spFarWeb := .of g21 F21 (ok_l_far_web F21 M D14) fun _ _ _ _ _ _ us hl => match us, hl with | [_], _ => rfl
  have D22 : Df l.prog w K mg base 2 "_law_word_otherwise" ["_law_deck_here", "_law_word"] spOtherwise := .of g22 F22 (ok_l_word_otherwise F22 D14) fun _ _ _ _ _ _ us hl => match us, hl with | [_, _], _ => rfl
  have D23 : Df l.prog w K mg base 1 "_law_signs" [] spSigns := .of g23 F23 (ok_l_signs F23) fun _ _ _ _ _ _ us hl => match us, hl with | [], _ => rfl
  have D24 : Df l.prog w K mg base 3 "_law_bent" ["_law_deck_here", "_law_text"] spBent := .of g24 F24 (ok_l_bent F24 M D14 D23 D22) fun _ _ _ _ _ _ us hl => match us, hl with | [_, _], _ => rfl
  have D25 : Df l.prog w K mg base 8 "_law_told" ["_law_thing"] (spTold [P6, P7, P8, P11]) := .of g25 F25 (ok_l_told (W0 := eW) F25 M m_ValueError (e0.ref X G) (k0_0.kit X G) (k0_1.kit X G) (k0_2.kit X G) (k0_3.kit X G) (k0_4.kit X G) (k0_5.kit X G) v0 D12) fun _ _ _ _ _ _ us hl => match us, hl with | [_], _ => rfl
  have D26 : Df l.prog w K mg base 9 "_law_right" ["_law_text"] (spRight05 [P6, P7, P8, P11]) := .of g26 F26 (ok_l_right F26 D20 D25) fun _ _ _ _ _ _ us hl => match us, hl with | [_], _ => rfl
  exact ok_law F27 M D13 D15 D14 D21 D16 D17 D24 D26 D25 D20
end
end FF
open PySem PySem.W PyProof.Rows
set_option maxRecDepth 100000 in
set_option maxHeartbeats 0 in
theorem PySem.Challenge.cw_friendfoe_k05_texts_read_holds : PySem.Challenge.rw_friendfoe_k05_texts_read.Holds := by
  w_on; o_law; k_head; (case hw => w_witness2)
  k_fill
  refine FF.walk_tabs (l := PySem.Challenge.rw_friendfoe_k05_texts_read) (n := 63) (k := 10) (x := "_law_script") rfl (by decide) rfl ⟨rfl, by decide, by decide⟩ (fun w h Y => PySem.W.kIn_of Y) ?F
  case F =>
    intro w mg fa h KX G hmg tabs
    refine' FF.law_at KX G hmg (fun fy => tabs "is_web" fy ?r6) (fun fy => tabs "is_weights" fy ?r7) (fun fy => tabs "writes_number" fy ?r8) (fun fy => tabs "read_weights" fy ?r11) ?a0 ?a1 ?a2 ?a3 ?a4 ?a5 ?a6 ?a7 ?a8 ?a9 ?a10 ?a11 ?a12 ?a13 ?a14 ?a15 ?a16 ?a17 ?a18 ?a19 ?a20 ?a21 ?a22 ?a23 ?a24 ?a25 ?a26 ?a27 ?z0 ?z1 ?z2 ?z3 ?z4 ?z5 ?z6 ?z7 ?z8 ?z9 ?z10 ?e0 ?k0_0 ?k0_1 ?k0_2 ?k0_3 ?k0_4 ?k0_5 ?v0 ?n0 ?n1 ?u0
    (case r6 => rfl)
    (case r7 => rfl)
    (case r8 => rfl)
    (case r11 => rfl)
    (case a0 => refine' FF.at_mk ?p1 ?p2 ?p3 ?p4; (case p1 => k_is); (case p2 => k_is); (case p3 => k_is); (case p4 => k_is))
    (case a1 => refine' FF.at_mk ?p1 ?p2 ?p3 ?p4; (case p1 => k_is); (case p2 => k_is); (case p3 => k_is); (case p4 => k_is))
    (case a2 => refine' FF.at_mk ?p1 ?p2 ?p3 ?p4; (case p1 => k_is); (case p2 => k_is); (case p3 => k_is); (case p4 => k_is))
    (case a3 => refine' FF.at_mk ?p1 ?p2 ?p3 ?p4; (case p1 => k_is); (case p2 => k_is); (case p3 => k_is); (case p4 => k_is))
    (case a4 => refine' FF.at_mk ?p1 ?p2 ?p3 ?p4; (case p1 => k_is); (case p2 => k_is); (case p3 => k_is); (case p4 => k_is))
    (case a5 => refine' FF.at_mk ?p1 ?p2 ?p3 ?p4; (case p1 => k_is); (case p2 => k_is); (case p3 => k_is); (case p4 => k_is))
    (case a6 => refine' FF.atC_mk ?p1 ?p2 ?p3 ?p4 ?p5 ?p6 ?p7 ?p8 ?p9 ?p10 ?p11 ?p12 ?p13; (case p1 => k_is); (case p2 => k_is); (case p3 => k_is); (case p4 => k_is); (case p5 => k_is); (case p6 => rfl); (case p7 => rfl); (case p8 => rfl); (case p9 => rfl); (case p10 => rfl); (case p11 => rfl); (case p12 => decide); (case p13 => rfl))
    (case a7 => refine' FF.atC_mk ?p1 ?p2 ?p3 ?p4 ?p5 ?p6 ?p7 ?p8 ?p9 ?p10 ?p11 ?p12 ?p13; (case p1 => k_is); (case p2 => k_is); (case p3 => k_is); (case p4 => k_is); (case p5 => k_is); (case p6 => rfl); (case p7 => rfl); (case p8 => rfl); (case p9 => rfl); (case p10 => rfl); (case p11 => rfl); (case p12 => decide); (case p13 => rfl))
    (case a8 => refine' FF.atC_mk ?p1 ?p2 ?p3 ?p4 ?p5 ?p6 ?p7 ?p8 ?p9 ?p10 ?p11 ?p12 ?p13; (case p1 => k_is); (case p2 => k_is); (case p3 => k_is); (case p4 => k_is); (case p5 => k_is); (case p6 => rfl); (case p7 => rfl); (case p8 => rfl); (case p9 => rfl); (case p10 => rfl); (case p11 => rfl); (case p12 => decide); (case p13 => rfl))
    (case a9 => refine' FF.at_mk ?p1 ?p2 ?p3 ?p4; (case p1 => k_is); (case p2 => k_is); (case p3 => k_is); (case p4 => k_is))
    (case a10 => refine' FF.at_mk ?p1 ?p2 ?p3 ?p4; (case p1 => k_is); (case p2 => k_is); (case p3 => k_is); (case p4 => k_is))
    (case a11 => refine' FF.atC_mk ?p1 ?p2 ?p3 ?p4 ?p5 ?p6 ?p7 ?p8 ?p9 ?p10 ?p11 ?p12 ?p13; (case p1 => k_is); (case p2 => k_is); (case p3 => k_is); (case p4 => k_is); (case p5 => k_is); (case p6 => rfl); (case p7 => rfl); (case p8 => rfl); (case p9 => rfl); (case p10 => rfl); (case p11 => rfl); (case p12 => decide); (case p13 => rfl))
    (case a12 => refine' FF.at_mk ?p1 ?p2 ?p3 ?p4; (case p1 => k_is); (case p2 => k_is); (case p3 => k_is); (case p4 => k_is))
    (case a13 => refine' FF.at_mk ?p1 ?p2 ?p3 ?p4; (case p1 => k_is); (case p2 => k_is); (case p3 => k_is); (case p4 => k_is))
    (case a14 => refine' FF.at_mk ?p1 ?p2 ?p3 ?p4; (case p1 => k_is); (case p2 => k_is); (case p3 => k_is); (case p4 => k_is))
    (case a15 => refine' FF.at_mk ?p1 ?p2 ?p3 ?p4; (case p1 => k_is); (case p2 => k_is); (case p3 => k_is); (case p4 => k_is))
    (case a16 => refine' FF.at_mk ?p1 ?p2 ?p3 ?p4; (case p1 => k_is); (case p2 => k_is); (case p3 => k_is); (case p4 => k_is))
    (case a17 => refine' FF.at_mk ?p1 ?p2 ?p3 ?p4; (case p1 => k_is); (case p2 => k_is); (case p3 => k_is); (case p4 => k_is))
    (case a18 => refine' FF.at_mk ?p1 ?p2 ?p3 ?p4; (case p1 => k_is); (case p2 => k_is); (case p3 => k_is); (case p4 => k_is))
    (case a19 => refine' FF.at_mk ?p1 ?p2 ?p3 ?p4; (case p1 => k_is); (case p2 => k_is); (case p3 => k_is); (case p4 => k_is))
    (case a20 => refine' FF.at_mk ?p1 ?p2 ?p3 ?p4; (case p1 => k_is); (case p2 => k_is); (case p3 => k_is); (case p4 => k_is))
    (case a21 => refine' FF.at_mk ?p1 ?p2 ?p3 ?p4; (case p1 => k_is); (case p2 => k_is); (case p3 => k_is); (case p4 => k_is))
    (case a22 => refine' FF.at_mk ?p1 ?p2 ?p3 ?p4; (case p1 => k_is); (case p2 => k_is); (case p3 => k_is); (case p4 => k_is))
    (case a23 => refine' FF.at_mk ?p1 ?p2 ?p3 ?p4; (case p1 => k_is); (case p2 => k_is); (case p3 => k_is); (case p4 => k_is))
    (case a24 => refine' FF.at_mk ?p1 ?p2 ?p3 ?p4; (case p1 => k_is); (case p2 => k_is); (case p3 => k_is); (case p4 => k_is))
    (case a25 => refine' FF.at_mk ?p1 ?p2 ?p3 ?p4; (case p1 => k_is); (case p2 => k_is); (case p3 => k_is); (case p4 => k_is))
    (case a26 => refine' FF.at_mk ?p1 ?p2 ?p3 ?p4; (case p1 => k_is); (case p2 => k_is); (case p3 => k_is); (case p4 => k_is))
    (case a27 => refine' FF.at_mk ?p1 ?p2 ?p3 ?p4; (case p1 => k_is); (case p2 => k_is); (case p3 => k_is); (case p4 => k_is))
    (case z0 => k_is)
    (case z1 => k_is)
    (case z2 => k_is)
    (case z3 => k_is)
    (case z4 => k_is)
    (case z5 => k_is)
    (case z6 => k_is)
    (case z7 => k_is)
    (case z8 => k_is)
    (case z9 => k_is)
    (case z10 => k_is)
    (case e0 => refine' FF.errK_mk ?q1 ?q2 ?q3 ?q4 ?q5 ?q6 ?q7 ?q8 ?q9 ?q10 ?q11 ?q12 ?q13 ?q14 ?q15 ?q16 ?q17; (case q1 => first | k_is | rfl | kernel_rfl); (case q2 => first | k_is | rfl | kernel_rfl); (case q3 => first | k_is | rfl | kernel_rfl); (case q4 => first | k_is | rfl | kernel_rfl); (case q5 => first | k_is | rfl | kernel_rfl); (case q6 => first | k_is | rfl | kernel_rfl); (case q7 => first | k_is | rfl | kernel_rfl); (case q8 => first | k_is | rfl | kernel_rfl); (case q9 => first | k_is | rfl | kernel_rfl); (case q10 => first | k_is | rfl | kernel_rfl); (case q11 => first | k_is | rfl | kernel_rfl); (case q12 => first | k_is | rfl | kernel_rfl); (case q13 => first | k_is | rfl | kernel_rfl); (case q14 => first | k_is | rfl | kernel_rfl); (case q15 => first | k_is | rfl | kernel_rfl); (case q16 => first | k_is | rfl | kernel_rfl); (case q17 => first | k_is | rfl | kernel_rfl))
    (case k0_0 => refine' FF.kitK_mk ?q1 ?q2; (case q1 => k_is); (case q2 => first | k_is | rfl | kernel_rfl))
    (case k0_1 => refine' FF.kitK_mk ?q1 ?q2; (case q1 => k_is); (case q2 => first | k_is | rfl | kernel_rfl))
    (case k0_2 => refine' FF.kitK_mk ?q1 ?q2; (case q1 => k_is); (case q2 => first | k_is | rfl | kernel_rfl))
    (case k0_3 => refine' FF.kitK_mk ?q1 ?q2; (case q1 => k_is); (case q2 => first | k_is | rfl | kernel_rfl))
    (case k0_4 => refine' FF.kitK_mk ?q1 ?q2; (case q1 => k_is); (case q2 => first | k_is | rfl | kernel_rfl))
    (case k0_5 => refine' FF.kitK_mk ?q1 ?q2; (case q1 => k_is); (case q2 => first | k_is | rfl | kernel_rfl))
    (case v0 => first | k_is | rfl | kernel_rfl)
    (case n0 => first | k_is | rfl | kernel_rfl)
    (case n1 => first | k_is | rfl | kernel_rfl)
    (case u0 => refine' FF.tupK_mk2 ?q1 ?q2; (case q1 => k_is); (case q2 => first | k_is | rfl | kernel_rfl))
